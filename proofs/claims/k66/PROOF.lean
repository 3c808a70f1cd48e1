import PyProof.Rows.All
import Wide.All
import OpenK.AllK
import Wide.FinOn
import Lean
import PyProof.EqAt
import PyProof.EqKinds
import PyProof.TupleCall
import PyProof.ZipIter
import PyProof.ListNew
import PySem.Sem
import PyProof.WalksEnum
import PyProof.EnumMake
import PyProof.Rows.TupIter
import PyProof.DictIter
import KE.KDictList
import PyProof.DictItems
import KE.KPairComp
import KE.KSortTup
import PyProof.Rows.SetFrom
import PyProof.WalksMore
import PyProof.ListRange
import KE.KDictOf
import PyProof.IsiH_list
import PyProof.AttrMiss
import PyProof.TupleOfGen
import PySem.Challenge.RW_flatmeet_k66_crossed_sums
open List renaming mem_cons_self→Aa,length_map→Ab,mem_cons_of_mem→Ac,size_toArray→Ag,getElem?_set_ne→Ah,mem_cons→Ai,getElem?_eq_some_iff→Aj,getElem?_set_self→Am,length_append→An,getElem?_eq_getElem→Ao,map_cons→Ap,mem_map→Ar,getElem?_map→As,getD_eq_getElem?_getD→Au,length_cons→Av,mem_append_right→Aw,mem_singleton→Ay,not_mem_nil→Bc,range→Bd,length_set→Bf,mem_append→Bg,map_map→Bm,pairwise_map→Bn,map_append→Bo,length_nil→Bp,lookup_cons→Bq,getElem?_append_right→Bt,count_eq_zero_of_not_mem→Bu,getElem?_append_left→Bv,length_eq_zero_iff→By,nodup_cons→Ca,append_nil→Ce,pairwise_iff_getElem→Cj,length_singleton→Ck,getElem?_eq_none→Cl,mem_range→Co,nil_append→Cq,mem_filter→Cr,mem_flatMap→Cv,nodup_nil→Cy,nodup_append→Da,append_assoc→Db,nodup_iff_count→Dd,map_congr_left→Dg,replicate→Dh,length_take→Dj,getElem?_replicate→Dl,filter_cons_of_pos→Dm,filter_cons_of_neg→Do,find?_cons→Ds,dropLast_concat_getLast→Dt,length_replicate→Du,mem_append_left→Dw,filter_sublist→Dx,filterMap_cons→Dy,zip_cons_cons→Ed,pairwise_cons→Ee,any_eq_true→El,any_cons→Eo,length→Ep,take_append_of_le_length→Er,of_mem_zip→Et,perm_iff_count→Ev,toArray→Ey,mem_filterMap→Fb,getElem?_set→Fg,cons_append→Fm,all_eq_true→Fn,foldl_cons→Ft,map→Fx,cons→Ga
open PySem.Heap renaming get?_push_of_some→Ad,lt_size→Ae,get?_push_size→Aq,size_push→Cd,get?_update_self→Cz,get?_update_other→Dr
open Nat renaming le_refl→Af,le_trans→Ak,lt_of_lt_of_le→Al,ne_of_lt→Ax,pow_le_pow_right→Az,zero_le→Bz,mul_le_mul→Cb,lt_of_le_of_lt→Cf,le_add_right→Cm,lt_irrefl→Cu,le_of_succ_le→Dv,ne_of_gt→Ef,zero_add→Ew,le_of_lt→Ex,pow_add→Fd,succ_mul→Fo
open Bool renaming false_ne_true→Bb,false_eq_true→Bk,and_eq_true→Br,and_eq_true_iff→De,or_true→Ez,or_false→Fj,and_self→Fk
open PySem.W renaming nsIn→Be,kitOne→Bi,mg_none_of→Bj,excIn→Bl,kia_one→Bw,fnOf→Cs,findIn→Cw,cellsFrom_some→Dq,clsIn→Dz,typeIn→Eg,keepIn→Eh,codeIn→Ei,mg_of→Em,hideAll→Es,methodObj→Fe,subIn→Fh,mroIn→Fi,instObj→Fs,lookIn→Fz
open PyProof.Rows renaming step_dedup→Bx,callWith_type1→Ch,slot_tuple_getitem→Df,lt_int→Eu,envOfC→Gb
open List.Perm renaming refl→Cc
open Option renaming some→Cg,isSome_iff_exists→Ea,map_some→Ec,map_eq_some_iff→Ej,bind_some→Ek,none→Fy
open Int renaming mul_assoc→Ci,zero_mul→Cn,one_mul→Ct,toNat_natCast→Dc,natAbs_mul→Di,eq_ofNat_of_zero_le→Dp,emod_lt_of_pos→Fc,mul_zero→Fp,mul_comm→Fq,emod_nonneg→Fv
open List.Pairwise renaming nil→Cp,imp_of_mem→Eb,imp→Ff,sublist→Fw,and→Gc
set_option Elab.async false
set_option linter.all false
set_option maxRecDepth 100000
set_option maxHeartbeats 3990000
namespace L2
open PySem PySem.Spec PyProof.Rows
abbrev Key:=Sum Int Str
def tR:Key->Value->Bool
 | .inl k,v=>Value.isInt k v
 | .inr x,v=>Value.isStrOf x v
def aQ0 (w:World):Key->Int
 | .inl k=>hashInt k
 | .inr x=>hashStr w x
theorem cS:∀ {k:Key} {v:Value},tR k v=true->(∃ i t,k=Sum.inl i/\v=Value.int i t)\/(∃ x t,k=Sum.inr x/\v=Value.str x t)
 | .inl i,v,h=>by
  obtain⟨t,e⟩:=Value.isInt_shape (k:=i) (v:=v) h;exact .inl ⟨i,t,rfl,e⟩
 | .inr x,v,h=>by
  obtain⟨t,e⟩:=Value.isStrOf_shape (x:=x) (v:=v) h;exact .inr ⟨x,t,rfl,e⟩
theorem aDd (i:Int)(t:Tok):tR (.inl i) (.int i t)=true:=by simp[tR,Value.isInt]
theorem aDk (x:Str)(t:Tok):tR (.inr x) (.str x t)=true:=by simp[tR,Value.isStrOf]
theorem aM0 (a b:Int):decide ((Sum.inl a:Key)=Sum.inl b)=(a==b):=by
 by_cases e:a=b
 · subst e;simp
 · have h:¬ (Sum.inl a:Key)=Sum.inl b:=fun q=>e (Sum.inl.inj q)
   rw[decide_eq_false h];exact(beq_eq_false_iff_ne.mpr e).symm
theorem aMa (a b:Str):decide ((Sum.inr a:Key)=Sum.inr b)=decide (a=b):=by
 by_cases e:a=b
 · subst e;simp
 · have h:¬ (Sum.inr a:Key)=Sum.inr b:=fun q=>e (Sum.inr.inj q)
   rw[decide_eq_false h,decide_eq_false e]
theorem aMp (a:Int)(b:Str):decide ((Sum.inl a:Key)=Sum.inr b)=false:=decide_eq_false (fun q=>nomatch q)
theorem aKq (a:Str)(b:Int):decide ((Sum.inr a:Key)=Sum.inl b)=false:=decide_eq_false (fun q=>nomatch q)
def cU (prog:Program)(w:World):PySem.KeyKind prog w Key where
 is:=tR
 hash:=aQ0 w
 inj:=fun v a b ha hb=>by
  rcases cS ha with ⟨i,t,rfl,rfl⟩ | ⟨x,t,rfl,rfl⟩
  · rcases cS hb with ⟨j,u,rfl,e⟩ | ⟨y,u,rfl,e⟩
    · injection e with e1 _;rw[e1]
    · exact nomatch e
  · rcases cS hb with ⟨j,u,rfl,e⟩ | ⟨y,u,rfl,e⟩
    · exact nomatch e
    · injection e with e1 _;rw[e1]
 byValue:=fun k v h=>by
  rcases cS h with ⟨i,t,rfl,rfl⟩ | ⟨x,t,rfl,rfl⟩<;>rfl
 pyHash:=fun hv h=>by
  rcases cS hv with ⟨i,t,rfl,rfl⟩ | ⟨x,t,rfl,rfl⟩
  · exact wpAny_pyHash_int h
  · exact wpAny_pyHash_str h
 eqBool:=fun hu hv h=>by
  rcases cS hu with ⟨i,t,rfl,rfl⟩ | ⟨x,t,rfl,rfl⟩
  · rcases cS hv with ⟨j,u,rfl,rfl⟩ | ⟨y,u,rfl,rfl⟩
    · rw[aM0]at h;exact wpAny_eqBool_int h
    · rw[aMp]at h;exact SeqAt.EqAt.int_str i t y u _ _ _ _ h
  · rcases cS hv with ⟨j,u,rfl,rfl⟩ | ⟨y,u,rfl,rfl⟩
    · rw[aKq]at h;exact SeqAt.EqAt.str_int x t j u _ _ _ _ h
    · rw[aMa]at h;exact wpAny_eqBool_str h
 «strs»:=fun k x t v h=>by
  rcases cS h with ⟨i,u,rfl,e⟩ | ⟨y,u,rfl,e⟩
  · exact nomatch e
  · injection e with e1 _
    subst e1;cases v<;>rfl
theorem xR (prog:Program)(w:World)(i:Int)(t:Tok):(cU prog w).is (.inl i) (.int i t)=true:=aDd i t
theorem yZ (prog:Program)(w:World)(x:Str)(t:Tok):(cU prog w).is (.inr x) (.str x t)=true:=aDk x t
end L2
namespace L2
open PySem PySem.Spec PyProof.Rows
inductive V where
 | non | bl (b:Bool) | int (i:Int) | str (x:Str) | byt (b:Array UInt8) | flt (b:UInt64) | ref (a:Addr) | ty (n:String)
 deriving DecidableEq
def bI:V->Value->Prop
 | .non,u=>u=Value.none
 | .bl b,u=>u=Value.bool b
 | .int i,u=>∃ t,u=Value.int i t
 | .str x,u=>∃ t,u=Value.str x t
 | .byt b,u=>∃ t,u=Value.bytes b t
 | .flt b,u=>∃ t,u=Value.float b t
 | .ref a,u=>u=Value.ref a
 | .ty n,u=>u=Value.type n
abbrev bH:List V->List Value->Prop:=Paired bI
theorem bH.length {xs:List V}{us:List Value}(r:bH xs us):xs.length=us.length:=Paired.length r
theorem bH.get:∀ {xs:List V} {us:List Value} {i:Nat} {x:V},bH xs us->xs[i]?=some x->∃ u,us[i]?=some u/\bI x u
 | _,_,_,_,.nil,e=>by simp at e
 | _,_,0,_,.cons r _,e=>by simp at e;subst e;exact⟨_,rfl,r⟩
 | _,_,i+1,x,.cons _ t,e=>by
  obtain⟨u,h1,h2⟩:=bH.get (i:=i) (x:=x) t (by simpa using e)
  exact⟨u,by simpa using h1,h2⟩
theorem bH.set {x:V}{u:Value}(r:bI x u):∀ {xs:List V} {us:List Value} (i:Nat),bH xs us->bH (xs.set i x) (us.set i u)
 | _,_,_,.nil=>.nil
 | _,_,0,.cons _ t=>.cons r t
 | _,_,i+1,.cons q t=>.cons q (bH.set r i t)
theorem bH.append:∀ {xs ys:List V} {us ws:List Value},bH xs us->bH ys ws->bH (xs++ys) (us++ws)
 | _,_,_,_,.nil,s=>s
 | _,_,_,_,.cons r t,s=>.cons r (bH.append t s)
theorem bH.take:∀ {xs:List V} {us:List Value} (n:Nat),bH xs us->bH (xs.take n) (us.take n)
 | _,_,0,_=>.nil
 | _,_,_+1,.nil=>.nil
 | _,_,n+1,.cons r t=>.cons r (bH.take n t)
theorem bH.drop:∀ {xs:List V} {us:List Value} (n:Nat),bH xs us->bH (xs.drop n) (us.drop n)
 | _,_,0,r=>r
 | _,_,_+1,.nil=>.nil
 | _,_,n+1,.cons _ t=>bH.drop n t
def nP:Option V->Option Value->Prop
 | some v,some u=>bI v u
 | none,none=>True
 | _,_=>False
def KV {κ:Type}:List (κ×V)->List (κ×Value)->Prop:=Paired fun (p:κ×V) (q:κ×Value)=>p.1=q.1/\bI p.2 q.2
def kV:Key->V
 | .inl i=>.int i
 | .inr x=>.str x
inductive HO where
 /-- a list -/
 | lst (xs:List V)
 /-- a tuple (never changes) -/
 | tup (xs:List V)
 /-- a dict whose keys are ints and texts;one whose keys are tuples of ints and texts (the empty one is both) -/
 | dK (kvs:List (Key×V)) | dT (kvs:List (List Key×V))
 /-- a set of ints: its members,its size -/
 | set (S:Int->Bool) (n:Nat)
 /-- an instance of the class at C,its dict at dx,its attributes -/
 | ins (C dx:Addr) (fs:List (Str×V))
 /-- the dict of the instance at x -/
 | own (x:Addr)
 /-- the dict of an exception -/
 | xd (fs:List (Str×V))
 /-- a bound method,f of x -/
 | met (f x:Addr)
 /-- a range object lo,lo+1,.. below hi -/
 | rng (lo hi:Int)
 /-- a thing that is known to the object (the script;a dict while a loop walks it): read,never written while it is so -/
 | frz (o:Obj) (u:HO)
 /-- a code object's table -/
 | tbl (ps:Array Value)
 /-- any other thing,by what is true of its one object (a def of one's own: SetO a S n:=HO.ext fun h=>..) -/
 | ext (φ:Heap->Prop)
abbrev Hp:=Addr->Option HO
def upd (H:Hp)(a:Addr)(o:HO):Hp:=fun b=>if b=a then some o else H b
theorem bC {H:Hp}{a:Addr}{o:HO}:upd H a o a=some o:=by unfold upd;rw[if_pos rfl]
theorem aK {H:Hp}{a b:Addr}{o:HO}(h:b≠a):upd H a o b=H b:=by unfold upd;rw[if_neg h]
theorem aPs {H:Hp}{a b:Addr}{o u:HO}(h:H a=some o)(h':H b=some u)(d:o≠u):a≠b:=by
 intro e;subst e;rw[h]at h';exact d (Cg.inj h')
theorem bF {H:Hp}{a b:Addr}{o:HO}(h:H a=some o)(h':H b=none):a≠b:=by
 intro e;subst e;rw[h]at h';cases h'
section
variable (P:Program)(w:World)
def bN (H:Hp)(h:Heap)(a:Addr):HO->Prop
 | .lst xs=>xs.length<=sizeLine/\∃ (its:List Value) (n:Nat),bH xs its/\h.get? a=some { cls:=.type "list",data:=.seq its.toArray n }
 | .tup xs=>xs.length<=sizeLine/\∃ its:List Value,bH xs its/\IsTup h a its.toArray
 | .dK kvs=>kvs.length<=sizeLine/\(a==sysModules)=false/\∃ vs,KV kvs vs/\h.DictOf (cU P w) a vs
 | .dT kvs=>kvs.length<=sizeLine/\(a==sysModules)=false/\∃ xs:List (List Key×Addr×Value),
  Paired (fun (p:List Key×V) (q:List Key×Addr×Value)=>p.1=q.1/\H q.2.1=some (.tup (p.1.map kV))/\bI p.2 q.2.2) kvs xs /\
  ∃ o es ep,h.get? a=some o/\o.ExactDict/\o.data=.dict es ep/\es.toList=xs.map (entryOfKey (tupleKind (cU P w)))/\(xs.map (·.1)).Nodup
 | .set S n=>h.SetOf (intKind P w) a S n
 | .ins C dx fs=>H dx=some (.own a)/\fs.length<=1000/\dx≠a/\h.get? a=some (Fs C dx) /\
  ∃ mA,h.Ns1 dx mA/\(∀ f,nP (fs.lookup f) (mA f))/\PySem.Within mA (fs.map (·.1))
 | .own _=>∃ o,h.get? a=some o
 | .xd fs=>∃ mA,h.Ns1 a mA/\∀ f,nP (fs.lookup f) (mA f)
 | .rng lo hi=>∃ t u v,h.get? a=some { cls:=.type "range",data:=.fields #[.int lo t,.int hi u,.int 1 v] }
 | .frz o u=>h.get? a=some o/\bN H h a u
 | .tbl ps=>h.get? a=some { cls:=.none,data:=.fields ps }
 | .met f x=>h.get? a=some (Fe (.ref f) (.ref x))
 | .ext φ=>φ h/\(∃ o,h.get? a=some o)/\∀ h1 h2:Heap,φ h1->(∀ o,h1.get? a=some o->h2.get? a=some o)->φ h2
def HOk (H:Hp)(h:Heap):Prop:=∀ a o,H a=some o->bN P w H h a o
end
section
variable {P:Program}{w:World}{H H':Hp}{h h':Heap}{a:Addr}{o:HO}
theorem bN.lt (x:bN P w H h a o):a<h.objs.size:=by
 cases o with
 | lst xs=>obtain⟨_,_,_,_,e⟩:=x;exact Ae e
 | tup xs=>obtain⟨_,_,_,p⟩:=x;exact p.lt
 | dK kvs=>obtain⟨_,_,_,_,o,_,_,e,_⟩:=x;exact Ae e
 | dT kvs=>obtain⟨_,_,_,_,o,_,_,e,_⟩:=x;exact Ae e
 | set S n=>obtain⟨o,_,_,_,e,_⟩:=x;exact Ae e
 | ins C dx fs=>obtain⟨_,_,_,e,_⟩:=x;exact Ae e
 | own y=>obtain⟨_,e⟩:=x;exact Ae e
 | xd fs=>obtain⟨_,⟨_,_,_,e,_⟩,_⟩:=x;exact Ae e
 | rng lo hi=>obtain⟨_,_,_,e⟩:=x;exact Ae e
 | frz ob u=>obtain⟨e,_⟩:=x;exact Ae e
 | tbl ps=>exact Ae (show h.get? a=some _ from x)
 | met f y=>exact Ae (show h.get? a=some _ from x)
 | ext φ=>obtain⟨_,⟨_,e⟩,_⟩:=x;exact Ae e
theorem Paired.mapP {α β:Type}{F G:α->β->Prop}:∀ {l₁:List α} {l₂:List β},Paired F l₁ l₂->(∀ a b,F a b->G a b)->Paired G l₁ l₂
 | _,_,.nil,_=>.nil
 | _,_,.cons r t,f=>.cons (f _ _ r) (Paired.mapP t f)
theorem bN.stay (x:bN P w H h a o)(k:∀ b u,(b=a\/H b=some (.own a))->h.get? b=some u->h'.get? b=some u)
 (ho:∀ b,H b=some (.own a)->H' b=some (.own a)) (ht:∀ b xs,H b=some (.tup xs)->H' b=some (.tup xs)):bN P w H' h' a o:=by
 induction o with
 | lst xs=>obtain⟨z,its,n,r,e⟩:=x;exact⟨z,its,n,r,k _ _ (.inl rfl) e⟩
 | tup xs=>obtain⟨z,its,r,ob,e,c⟩:=x;exact⟨z,its,r,ob,k _ _ (.inl rfl) e,c⟩
 | dK kvs=>obtain⟨z,y,vs,r,ob,es,ep,e,c⟩:=x;exact⟨z,y,vs,r,ob,es,ep,k _ _ (.inl rfl) e,c⟩
 | dT kvs =>
  obtain⟨z,y,xs,r,ob,es,ep,e,c⟩:=x;exact⟨z,y,xs,Paired.mapP r fun p q z=>⟨z.1,ht _ _ z.2.1,z.2.2⟩,ob,es,ep,k _ _ (.inl rfl) e,c⟩
 | set S n=>obtain⟨ob,es,ep,t,e,c⟩:=x;exact⟨ob,es,ep,t,k _ _ (.inl rfl) e,c⟩
 | ins C dx fs =>
  obtain⟨d,z,ne,e,mA,⟨od,es,ep,e2,c⟩,r⟩:=x;exact⟨ho _ d,z,ne,k _ _ (.inl rfl) e,mA,⟨od,es,ep,k _ _ (.inr d) e2,c⟩,r⟩
 | own y=>obtain⟨ob,e⟩:=x;exact⟨ob,k _ _ (.inl rfl) e⟩
 | xd fs=>obtain⟨mA,⟨od,es,ep,e,c⟩,r⟩:=x;exact⟨mA,⟨od,es,ep,k _ _ (.inl rfl) e,c⟩,r⟩
 | rng lo hi=>obtain⟨t,u,v,e⟩:=x;exact⟨t,u,v,k _ _ (.inl rfl) e⟩
 | frz ob u ih=>obtain⟨e,q⟩:=x;exact⟨k _ _ (.inl rfl) e,ih q⟩
 | tbl ps =>
  have e:h.get? a=some { cls:=.none,data:=.fields ps }:=x;show h'.get? a=some { cls:=.none,data:=.fields ps }
  exact k a _ (.inl rfl) e
 | met f y =>
  have e:h.get? a=some (Fe (.ref f) (.ref y)):=x;show h'.get? a=some (Fe (.ref f) (.ref y))
  exact k a _ (.inl rfl) e
 | ext φ=>obtain⟨p,⟨o,e⟩,st⟩:=x;exact⟨st _ _ p fun o q=>k _ _ (.inl rfl) q,⟨o,k _ _ (.inl rfl) e⟩,st⟩
theorem HOk.lt (x:HOk P w H h)(e:H a=some o):a<h.objs.size:=(x a o e).lt
theorem HOk.fresh (x:HOk P w H h)(e:h.objs.size<=a):H a=none:=by
 cases q:H a with
 | none=>rfl
 | some u=>exact absurd (Al (x.lt q) e) (Cu _)
theorem HOk.kept (x:HOk P w H h)(k:∀ b u,h.get? b=some u->h'.get? b=some u):HOk P w H h':=fun a o e =>
 (x a o e).stay (fun b u _ q=>k b u q) (fun _ q=>q) fun _ _ q=>q
theorem HOk.laid (x:HOk P w H h)(k:∀ b u,h.get? b=some u->h'.get? b=some u)(hp:h.objs.size<=a)(new:bN P w (upd H a o) h' a o):HOk P w (upd H a o) h':=fun b u e=>by
 have hn:=x.fresh hp;by_cases hb:b=a
 · subst hb;rw[bC]at e;cases e;exact new
 · rw[aK hb]at e
   exact(x b u e).stay (fun c v _ q=>k c v q) (fun c q=>by rw[aK (bF q hn)];exact q) fun c xs q=>by rw[aK (bF q hn)];exact q
end
def Rd (H:Hp)(a:Addr)(u:HO):Prop:=H a=some u\/∃ o,H a=some (.frz o u)
theorem Rd.of {H:Hp}{a:Addr}{u:HO}(h:H a=some u):Rd H a u:=.inl h
theorem Rd.ok {P:Program}{w:World}{H:Hp}{h:Heap}{a:Addr}{u:HO}(r:Rd H a u)(x:HOk P w H h):bN P w H h a u:=by
 rcases r with r | ⟨o,r⟩
 · exact x a u r
 · obtain⟨_,q⟩:=x a _ r
   exact q
def Mut:Option HO->Prop
 | some (.lst _)=>True
 | some (.dK _)=>True
 | some (.dT _)=>True
 | some (.set _ _)=>True
 | some (.ins _ _ _)=>True
 | some (.ext _)=>True
 | _=>False
section
variable {P:Program}{w:World}{H:Hp}{h h':Heap}{x e:Addr}{o':HO}
theorem HOk.write (ok:HOk P w H h)(mu:Mut (H x))(he:e=x\/H e=some (.own x))(k:∀ b u,b≠e->h.get? b=some u->h'.get? b=some u)(heo:∃ u,h'.get? e=some u)
 (new:bN P w (upd H x o') h' x o'):HOk P w (upd H x o') h':=fun b u q=>by
 have nown:∀ c y,H c=some (.own y)->c≠x:=fun c y r z=>by subst z;rw[r]at mu;exact mu
 have ntup:∀ c xs,H c=some (.tup xs)->c≠x:=fun c xs r z=>by subst z;rw[r]at mu;exact mu
 by_cases hb:b=x
 · subst hb;rw[bC]at q;cases q;exact new
 · rw[aK hb]at q
   by_cases hbe:b=e
   · have q':H b=some (.own x):=by
      rcases he with z | z
      · exact absurd (hbe.trans z) hb
      · rw[hbe];exact z
     rw[q]at q';cases q';obtain⟨v,hv⟩:=heo;exact⟨v,by rw[hbe];exact hv⟩
   · refine(ok b u q).stay (fun c v hc r=>k c v ?_ r) (fun c r=>by rw[aK (nown c b r)];exact r) fun c xs r=>by rw[aK (ntup c xs r)];exact r
     rcases hc with rfl | hc
     · exact hbe
     · rintro rfl
       rcases he with z | z
       · exact nown c b hc z
       · rw[hc]at z;cases z;exact hb rfl
end
structure Un (fs ex:List Addr)(H H':Hp)(h h':Heap):Prop where
 keep:∀ b o,h.get? b=some o->H b=none->b∉fs->b∉ex->h'.get? b=some o
 slot:∀ b o,h.get? b=some o->H b=none->b∈fs->b∉ex->∃ sl,h'.get? b=some { o with slots:=sl }
 free:∀ b o,h.get? b=some o->H b=none->b∉ex->H' b=none
 there:∀ b o,h.get? b=some o->b∉ex->∃ o',h'.get? b=some o'
 tups:∀ b xs,H b=some (.tup xs)->H' b=some (.tup xs)
 frzs:∀ b o u,H b=some (.frz o u)->H' b=some (.frz o u)
 tbls:∀ b ps,H b=some (.tbl ps)->∃ more,H' b=some (.tbl (ps++more))
section
variable {fs fs' ex ex':List Addr}{H H1 H2:Hp}{h h1 h2 h':Heap}{a x e:Addr}{o:HO}
theorem Un.any (u:Un fs ex H H1 h h1){b:Addr}{ob:Obj}(q:h.get? b=some ob)(n:H b=none)(hx:b∉ex):∃ sl,h1.get? b=some { ob with slots:=sl }:=by
 by_cases hb:b∈fs
 · exact u.slot b ob q n hb hx
 · exact⟨ob.slots,u.keep b ob q n hb hx⟩
theorem Un.trans (a:Un fs ex H H1 h h1)(b:Un fs ex H1 H2 h1 h2):Un fs ex H H2 h h2 where
 keep:=fun c ob q n hc hx=>b.keep c ob (a.keep c ob q n hc hx) (a.free c ob q n hx) hc hx
 slot:=fun c ob q n hc hx=>by
  obtain⟨sl,e1⟩:=a.slot c ob q n hc hx;obtain⟨sl',e2⟩:=b.slot c _ e1 (a.free c ob q n hx) hc hx;exact⟨sl',e2⟩
 free:=fun c ob q n hx=>by
  obtain⟨o',e1⟩:=a.there c ob q hx;exact b.free c o' e1 (a.free c ob q n hx) hx
 there:=fun c ob q hx=>by
  obtain⟨o',e1⟩:=a.there c ob q hx;exact b.there c o' e1 hx
 tups:=fun c xs q=>b.tups c xs (a.tups c xs q)
 frzs:=fun c ob xs q=>b.frzs c ob xs (a.frzs c ob xs q)
 tbls:=fun c ps q=>by
  obtain⟨m1,e1⟩:=a.tbls c ps q;obtain⟨m2,e2⟩:=b.tbls c _ e1;exact⟨m1++m2,by rw[e2,Array.append_assoc]⟩
theorem Un.kept (k:∀ b u,h.get? b=some u->h'.get? b=some u):Un fs ex H H h h' :=
 ⟨fun b ob q _ _ _=>k b ob q,fun b ob q _ _ _=>⟨ob.slots,k b ob q⟩,fun _ _ _ n _=>n,fun b ob q _=>⟨ob,k b ob q⟩,fun _ _ q=>q,fun _ _ _ q=>q,fun _ ps q=>⟨#[],by rw[q];simp⟩⟩
theorem Un.refl:Un fs ex H H h h:=Un.kept fun _ _ q=>q
theorem Un.laid (k:∀ b u,h.get? b=some u->h'.get? b=some u)(hp:h.objs.size<=a)(hn:H a=none):Un fs ex H (upd H a o) h h' where
 keep:=fun b u q _ _ _=>k b u q
 slot:=fun b u q _ _ _=>⟨u.slots,k b u q⟩
 free:=fun b u q n _=>by rw[aK (Ax (Al (Ae q) hp))];exact n
 there:=fun b u q _=>⟨u,k b u q⟩
 tups:=fun b xs q=>by rw[aK (bF q hn)];exact q
 frzs:=fun b u xs q=>by rw[aK (bF q hn)];exact q
 tbls:=fun b ps q=>⟨#[],by rw[aK (bF q hn),q];simp⟩
theorem Un.write (mu:Mut (H x))(he:e=x\/H e=some (.own x))(k:∀ b u,b≠e->h.get? b=some u->h'.get? b=some u)(heo:∃ u,h'.get? e=some u):Un fs ex H (upd H x o) h h':=by
 have hx:∀ b,H b=none->b≠x:=fun b n z=>by subst z;rw[n]at mu;exact mu
 have hb:∀ b,H b=none->b≠e:=fun b n z=>by
  subst z;rcases he with r | r
  · exact hx b n r
  · rw[n]at r;cases r
 have hm:∀ b u,H b=some u->¬ Mut (some u)->b≠x:=fun b u q nm z=>by subst z;rw[q]at mu;exact nm mu
 refine⟨fun b u q n _ _=>k b u (hb b n) q,fun b u q n _ _=>⟨u.slots,k b u (hb b n) q⟩,fun b u q n _=>by rw[aK (hx b n)];exact n,fun b u q _=>?_,
  fun b xs q=>by rw[aK (hm b _ q fun z=>z)];exact q,fun b u xs q=>by rw[aK (hm b _ q fun z=>z)];exact q,fun b ps q=>⟨#[],by rw[aK (hm b _ q fun z=>z),q];simp⟩⟩
 by_cases hbe:b=e
 · subst hbe;exact heo
 · exact⟨u,k b u hbe q⟩
end
def trk (h:Heap)(H:Hp):List Addr:=(Bd h.objs.size).filter fun a=>(H a).isSome
def vR (h:Heap)(H:Hp):Heap:=Es h (trk h H)
theorem aDo (h:Heap)(H:Hp):(vR h H).objs.size=h.objs.size:=PySem.W.hideAll_size _ _
theorem aE2 {h:Heap}{H:Hp}{b:Addr}{o:Obj}(e:h.get? b=some o)(n:H b=none):(vR h H).get? b=some o :=
 PySem.W.hideAll_get _ e fun hm=>by
  have q:(H b).isSome=true:=(Cr.mp hm).2;rw[n]at q;simp at q
theorem aH6 {h:Heap}{H:Hp}{b:Addr}{o:Obj}(e:(vR h H).get? b=some o):h.get? b=some o/\H b=none:=by
 have e':h.get? b=some o:=PySem.W.of_hideAll (trk h H) e;refine⟨e',?_⟩
 cases q:H b with
 | none=>rfl
 | some x =>
  have hm:b∈trk h H:=Cr.mpr ⟨Co.mpr (Ae e'),by simp[q]⟩
  have z:(vR h H).get? b=none:=PySem.W.hideAll_none (trk h H) hm;rw[z]at e;cases e
end L2
namespace L2
open PySem PySem.Spec PyProof.Rows
structure Mod (K:PySem.W.Frag)(mg:Str->Option Value)(base:Heap):Prop where
 kin:K.In base
 glob:base.Ns mainGlobals mg
 blt:∃ mb,base.Ns builtinsNs mb/\∀ x:Str,x ≠ "__name__"->mb x=bootBuiltins x
 nolimit:base.NoLimit
structure Cx where
 prog:Program
 w:World
 K:PySem.W.Frag
 mg:Str->Option Value
 base:Heap
 A:Around
 N:List Str
 s₀:Shared
 H₀:Hp
 env:Env
 outer:List Env
 stack:List Env
 ex:List Addr
 fn:Str->Bool
 calm:Bool
 pn:List (Addr×Obj)
 xe:Value->Shared->Prop
def frs (l:List Env):List Addr:=l.filterMap (·.frame)
abbrev Cx.fs (X:Cx):List Addr:=frs X.outer
def Vis (sc:Scope)(x:Str):Prop:=sc.names.lookup x=some .local\/sc.names.lookup x=some .cell\/sc.names.lookup x=some .free
def Loc (sc:Scope)(x:Str):Prop:=sc.names.lookup x=some .local\/sc.names.lookup x=some .cell
def aOv (env:Env)(h:Heap)(m:Str->Option Value)(x:Str)(u:Value):Prop :=
 (env.kindOf x=some .local/\m x=some u)\/((env.kindOf x=some .cell\/env.kindOf x=some .free)/\∃ c,env.cells.lookup x=some c/\h.IsCell c (some u))
structure Cx.Ok (X:Cx):Prop where
 mod:Mod X.K X.mg X.base
 kind:X.env.scope.kind=.function
 glob:X.env.globals=mainGlobals
 blt:X.env.builtins=builtinsNs
 above:X.s₀.heap.objs.size<=X.env.locals
 inj:∀ x y c,X.env.cells.lookup x=some c->X.env.cells.lookup y=some c->x=y
 has:∀ x,(X.env.kindOf x=some .cell\/X.env.kindOf x=some .free)->∃ c,X.env.cells.lookup x=some c
 cab:∀ x c,X.fn x=true->X.env.cells.lookup x=some c->X.s₀.heap.objs.size<=c
 hd:X.calm=true->X.A.handled=none
 frames:X.A.frames=some X.stack
 stk:X.stack=X.outer\/(X.stack=X.env :: X.outer/\X.env.frame=some X.env.locals)
 exf:∀ b∈X.ex,b≠X.env.locals/\∀ x c,X.env.cells.lookup x=some c->c≠b
 bs:∀ b o,X.base.get? b=some o->X.s₀.heap.get? b=some o/\X.H₀ b=none
 bsz:X.base.objs.size<=X.s₀.heap.objs.size
 noex:∀ b o,X.base.get? b=some o->b∉X.ex
 exfs:∀ b∈X.ex,b∉X.fs
 funs:X.s₀.heap.FunFrames X.base X.outer
 frf:∀ b∈X.fs,X.H₀ b=none
structure Inv (X:Cx)(pins:List (Addr×Obj))(σ:List (Option V))(H:Hp)(s:Shared):Prop where
 ok:X.Ok
 os:s.os=X.s₀.os
 bare:AllBare s.gens
 base:Un X.fs X.ex X.H₀ H X.s₀.heap s.heap
 loc:∃ m,s.heap.Ns X.env.locals m/\∀ (i:Nat) (x:Str) (v:V),X.N[i]?=some x->σ[i]?=some (some v)->Vis X.env.scope x->∃ u,bI v u/\aOv X.env s.heap m x u
 cell:∀ x c,X.env.cells.lookup x=some c->∃ v,s.heap.IsCell c v
 free:H X.env.locals=none
 freeC:∀ x c,X.env.cells.lookup x=some c->H c=none
 pin:∀ p∈X.pn++pins,s.heap.get? p.1=some p.2/\H p.1=none/\p.1≠X.env.locals/\p.1∉X.fs/\∀ v,p.2.data≠.cell v
 hok:HOk X.prog X.w H s.heap
 len:σ.length=X.N.length
section
variable {X:Cx}{pins:List (Addr×Obj)}{σ:List (Option V)}{H H':Hp}{s:Shared}{h':Heap}
theorem Cx.Ok.nofr (ok:X.Ok){b:Addr}{o:Obj}(e:X.base.get? b=some o):b∉X.fs:=fun hb=>by
 have:=(ok.funs.mem hb).1
 rw[e]at this;cases this
theorem Inv.bs (I:Inv X pins σ H s):∀ b o,X.base.get? b=some o->s.heap.get? b=some o/\H b=none:=fun b o e =>
 ⟨I.base.keep b o (I.ok.bs b o e).1 (I.ok.bs b o e).2 (I.ok.nofr e) (I.ok.noex b o e),I.base.free b o (I.ok.bs b o e).1 (I.ok.bs b o e).2 (I.ok.noex b o e)⟩
theorem Inv.bk (I:Inv X pins σ H s):∀ b o,X.base.get? b=some o->s.heap.get? b=some o:=fun b o e=>(I.bs b o e).1
theorem Inv.mod (I:Inv X pins σ H s):Mod X.K X.mg X.base:=I.ok.mod
theorem Inv.kIn (I:Inv X pins σ H s):X.K.In s.heap:=I.ok.mod.kin.keeps I.bk
theorem Inv.fr (I:Inv X pins σ H s):∃ m,Fr X.base X.env.locals s.heap m :=
 let ⟨m,hn,_⟩:=I.loc
 ⟨m,hn,I.bk,Ak I.ok.bsz I.ok.above⟩
theorem Inv.lt (I:Inv X pins σ H s):X.env.locals<s.heap.objs.size:=let ⟨_,hn,_⟩:=I.loc;hn.lt
theorem Inv.sz (I:Inv X pins σ H s):X.s₀.heap.objs.size<=s.heap.objs.size:=Ak I.ok.above (Ex I.lt)
theorem Inv.nofs (I:Inv X pins σ H s){a:Addr}(h:s.heap.objs.size<=a):a∉X.fs:=fun hb=>by
 obtain⟨_,o,ho,_⟩:=I.ok.funs.mem hb;exact absurd (Al (Ae ho) (Ak I.sz h)) (Cu _)
theorem Inv.cne (I:Inv X pins σ H s):∀ x c,X.env.cells.lookup x=some c->c≠X.env.locals:=fun x c e z=>by
 obtain⟨v,o,ho,hd⟩:=I.cell x c e;obtain⟨m,⟨o',es,ep,ho',hd',_⟩,_⟩:=I.loc;rw[z,ho']at ho;cases ho;rw[hd']at hd;cases hd
theorem Inv.funs (I:Inv X pins σ H s):s.heap.FunFrames X.base X.outer:=by
 have all:∀ (l:List Env),(∀ b∈frs l,b∈X.fs)->X.s₀.heap.FunFrames X.base l->s.heap.FunFrames X.base l:=by
  intro l;induction l with
  | nil=>intro _ _;trivial
  | cons env r ih =>
   intro hs hl;obtain⟨hk,⟨L,o,hf,hn,ho,hd⟩,hr⟩:=hl;have hL:L∈X.fs:=hs L (by unfold frs;rw[Dy,hf];exact Aa)
   obtain⟨sl,e⟩:=I.base.slot L o ho (I.ok.frf L hL) hL fun z=>I.ok.exfs L z hL;exact⟨hk,⟨L,_,hf,hn,e,hd⟩,ih (fun b hb=>hs b (by unfold frs;rw[Dy,hf];exact Ac _ hb)) hr⟩
 exact all X.outer (fun _ hb=>hb) I.ok.funs
theorem Inv.stack (I:Inv X pins σ H s):s.heap.FunFrames X.base X.stack:=by
 rcases I.ok.stk with e | ⟨e,hf⟩
 · rw[e];exact I.funs
 · rw[e]
   obtain⟨m,hn,_⟩:=I.loc;refine .cons (by rw[I.ok.kind];decide) hf hn ?_ I.funs
   exact Heap.get?_none_of_le (Ak I.ok.bsz I.ok.above)
theorem Inv.stkSub (I:Inv X pins σ H s):∀ b∈frs X.stack,b∈X.env.locals :: X.fs:=fun b hb=>by
 rcases I.ok.stk with e | ⟨e,hf⟩
 · rw[e]at hb;exact Ac _ hb
 · rw[e]at hb
   unfold frs at hb;rw[Dy,hf]at hb;exact hb
theorem Inv.stkFree (I:Inv X pins σ H s):∀ b∈frs X.stack,H b=none:=fun b hb=>by
 rcases Ai.mp (I.stkSub b hb) with e | hb
 · rw[e];exact I.free
 · obtain⟨_,o,ho,_⟩:=I.ok.funs.mem hb
   exact I.base.free b o ho (I.ok.frf b hb) fun z=>I.ok.exfs b z hb
theorem Inv.step {g':Array GenState}{t':Nat}{d':Drawn}{ch:List Addr}(I:Inv X pins σ H s)
 (hch:∀ b∈ch,(b∈X.ex\/X.s₀.heap.objs.size<=b)/\b≠X.env.locals/\(∀ x c,X.env.cells.lookup x=some c->c≠b)/\∀ p∈X.pn++pins,p.1≠b)
 (keep:∀ b o,b≠X.env.locals->b∉X.fs->b∉ch->s.heap.get? b=some o->H b=none->h'.get? b=some o)
 (slot:∀ b o,b≠X.env.locals->b∈X.fs->b∉ch->s.heap.get? b=some o->H b=none->∃ sl,h'.get? b=some { o with slots:=sl }) (free:∀ b o,b∉ch->s.heap.get? b=some o->H b=none->H' b=none)
 (there:∀ b o,b∉ch->s.heap.get? b=some o->∃ o',h'.get? b=some o')
 (tups:∀ b xs,H b=some (.tup xs)->H' b=some (.tup xs)) (frzs:∀ b o u,H b=some (.frz o u)->H' b=some (.frz o u)) (tbls:∀ b ps,H b=some (.tbl ps)->∃ more,H' b=some (.tbl (ps++more)))
 (ns:∀ m,s.heap.Ns X.env.locals m->h'.Ns X.env.locals m) (hok:HOk X.prog X.w H' h') (hg:AllBare g') :
 Inv X pins σ H' { s with heap:=h',gens:=g',drawn:=d',toks:=t' }:=by
 have neL:∀ b o,X.s₀.heap.get? b=some o->b≠X.env.locals:=fun b o e=>Ax (Al (Ae e) I.ok.above)
 have neC:∀ b o,X.s₀.heap.get? b=some o->b∉X.ex->b∉ch:=fun b o e hx hb=>by
  rcases (hch b hb).1 with z | z
  · exact hx z
  · exact absurd (Al (Ae e) z) (Cu _)
 have cellK:∀ x c,X.env.cells.lookup x=some c->∀ v,s.heap.IsCell c v->h'.IsCell c v:=fun x c e v ⟨o,ho,hd⟩=>by
  have nch:c∉ch:=fun z=>(hch c z).2.2.1 x c e rfl;by_cases hc:c∈X.fs
  · obtain⟨sl,q⟩:=slot c o (I.cne x c e) hc nch ho (I.freeC x c e)
    exact⟨_,q,hd⟩
  · exact⟨o,keep c o (I.cne x c e) hc nch ho (I.freeC x c e),hd⟩
 refine⟨I.ok,I.os,hg,⟨fun b o e n hb hx=>?_,fun b o e n hb hx=>?_,fun b o e n hx=>?_,fun b o e hx=>?_,fun b xs e=>tups b xs (I.base.tups b xs e),fun b o xs e=>frzs b o xs (I.base.frzs b o xs e),fun b ps e=>?_⟩,?_,fun x c e=>?_,?_,fun x c e=>?_,fun p hp=>?_,hok,I.len⟩
 · exact keep b o (neL b o e) hb (neC b o e hx) (I.base.keep b o e n hb hx) (I.base.free b o e n hx)
 · obtain⟨sl,e1⟩:=I.base.slot b o e n hb hx
   obtain⟨sl',e2⟩:=slot b _ (neL b o e) hb (neC b o e hx) e1 (I.base.free b o e n hx);exact⟨sl',e2⟩
 · obtain⟨o',e1⟩:=I.base.there b o e hx
   exact free b o' (neC b o e hx) e1 (I.base.free b o e n hx)
 · obtain⟨o',e1⟩:=I.base.there b o e hx
   exact there b o' (neC b o e hx) e1
 · obtain⟨m1,e1⟩:=I.base.tbls b ps e
   obtain⟨m2,e2⟩:=tbls b _ e1;exact⟨m1++m2,by rw[e2,Array.append_assoc]⟩
 · obtain⟨m,hn,hl⟩:=I.loc
   refine⟨m,ns m hn,fun i x v e1 e2 e3=>?_⟩
   obtain⟨u,r,l⟩:=hl i x v e1 e2 e3;refine⟨u,r,?_⟩
   rcases l with l | ⟨k,c,e,z⟩
   · exact .inl l
   · exact .inr ⟨k,c,e,cellK x c e _ z⟩
 · obtain⟨v,z⟩:=I.cell x c e
   exact⟨v,cellK x c e v z⟩
 · obtain⟨m,⟨o,_,_,ho,_⟩,_⟩:=I.loc
   exact free _ o (fun z=>(hch _ z).2.1 rfl) ho I.free
 · obtain⟨v,o,ho,hd⟩:=I.cell x c e
   exact free c o (fun z=>(hch c z).2.2.1 x c e rfl) ho (I.freeC x c e)
 · obtain⟨e,n,ne,nf,d⟩:=I.pin p hp
   have nch:p.1∉ch:=fun z=>(hch p.1 z).2.2.2 p hp rfl;exact⟨keep p.1 p.2 ne nf nch e n,free p.1 p.2 nch e n,ne,nf,d⟩
theorem Inv.un {t':Nat}(I:Inv X pins σ H s)(u:Un X.fs [] H H' s.heap h')(hok:HOk X.prog X.w H' h'):Inv X pins σ H' { s with heap:=h',toks:=t' }:=by
 obtain⟨m,⟨o,es,ep,ho,r⟩,_⟩:=id I.loc;obtain⟨sl,hL⟩:=u.any ho I.free (by simp)
 exact I.step (g':=s.gens) (d':=s.drawn) (ch:=[]) (fun _ z=>nomatch z) (fun b o _ hb _ e n=>u.keep b o e n hb (by simp)) (fun b o _ hb _ e n=>u.slot b o e n hb (by simp)) (fun b o _ e n=>u.free b o e n (by simp)) (fun b o _ e=>u.there b o e (by simp)) u.tups u.frzs u.tbls (fun m' hm=>by
  obtain⟨o',es',ep',ho',r'⟩:=hm;rw[ho]at ho';cases ho'
  exact⟨_,es',ep',hL,r'⟩) hok I.bare
theorem Inv.call {g':Array GenState}{t':Nat}{d':Drawn}{ch:List Addr}(I:Inv X pins σ H s)(u:Un (frs X.stack) ch H H' s.heap h')(hok:HOk X.prog X.w H' h')(hg:AllBare g')
 (hch:∀ b∈ch,(b∈X.ex\/X.s₀.heap.objs.size<=b)/\b≠X.env.locals/\(∀ x c,X.env.cells.lookup x=some c->c≠b)/\∀ p∈X.pn++pins,p.1≠b) :
 Inv X pins σ H' { s with heap:=h',gens:=g',drawn:=d',toks:=t' }:=by
 obtain⟨m,⟨o,es,ep,ho,r⟩,_⟩:=id I.loc;obtain⟨sl,hL⟩:=u.any ho I.free fun z=>(hch _ z).2.1 rfl
 exact I.step (ch:=ch) hch (fun b o hL hb hc e n=>u.keep b o e n (fun z=>(Ai.mp (I.stkSub b z)).elim hL hb) hc) (fun b o _ _ hc e n=>u.any e n hc) (fun b o hc e n=>u.free b o e n hc) (fun b o hc e=>u.there b o e hc) u.tups u.frzs u.tbls (fun m' hm=>by
  obtain⟨o',es',ep',ho',r'⟩:=hm;rw[ho]at ho';cases ho'
  exact⟨_,es',ep',hL,r'⟩) hok hg
theorem Inv.turned {t':Nat}{it:Addr}(I:Inv X pins σ H s)(k:∀ b o,b≠it->s.heap.get? b=some o->h'.get? b=some o)(hn:H it=none)(hL:it≠X.env.locals)
 (h1:it∈X.ex\/X.s₀.heap.objs.size<=it) (h2:∀ x c,X.env.cells.lookup x=some c->c≠it) (h3:∀ p∈X.pn++pins,p.1≠it):Inv X pins σ H { s with heap:=h',toks:=t' }:=by
 have nit:∀ b u,H b=some u->b≠it:=fun b u e z=>by rw[z,hn]at e;cases e
 refine I.step (g':=s.gens) (d':=s.drawn) (ch:=[it]) (fun b hb=>?_) (fun b o _ _ hc e _=>k b o (fun z=>hc (by simp[z])) e) (fun b o _ _ hc e _=>⟨o.slots,k b o (fun z=>hc (by simp[z])) e⟩) (fun _ _ _ _ n=>n)
  (fun b o hc e=>⟨o,k b o (fun z=>hc (by simp[z])) e⟩) (fun _ _ e=>e) (fun _ _ _ e=>e) (fun b ps e=>⟨#[],by rw[e];simp⟩) (fun m hm=>?_) (fun b u e=>?_) I.bare
 · have e:b=it:=by simpa using hb
   subst e;exact⟨h1,hL,h2,h3⟩
 · obtain⟨o,es,ep,ho,r⟩:=hm
   exact⟨o,es,ep,k _ o (Ne.symm hL) ho,r⟩
 · refine(I.hok b u e).stay (fun c v hc q=>k c v ?_ q) (fun _ q=>q) fun _ _ q=>q
   rcases hc with z | z
   · rw[z];exact nit b u e
   · exact nit c _ z
theorem Inv.tok (I:Inv X pins σ H s)(t:Nat):Inv X pins σ H { s with toks:=t }:=I.un (h':=s.heap) (t':=t) Un.refl I.hok
theorem Inv.kept {t':Nat}(I:Inv X pins σ H s)(k:∀ b u,s.heap.get? b=some u->h'.get? b=some u):Inv X pins σ H { s with heap:=h',toks:=t' }:=I.un (Un.kept k) (I.hok.kept k)
theorem Inv.laid {a:Addr}{o:HO}{t':Nat}(I:Inv X pins σ H s)(k:∀ b u,s.heap.get? b=some u->h'.get? b=some u)(hp:s.heap.objs.size<=a)(new:bN X.prog X.w (upd H a o) h' a o) :
 Inv X pins σ (upd H a o) { s with heap:=h',toks:=t' }:=I.un (Un.laid k hp (I.hok.fresh hp)) (I.hok.laid k hp new)
theorem Inv.write {x e:Addr}{o:HO}{t':Nat}(I:Inv X pins σ H s)(mu:Mut (H x))(he:e=x\/H e=some (.own x))(k:∀ b u,b≠e->s.heap.get? b=some u->h'.get? b=some u)(heo:∃ u,h'.get? e=some u)
 (new:bN X.prog X.w (upd H x o) h' x o):Inv X pins σ (upd H x o) { s with heap:=h',toks:=t' }:=I.un (Un.write mu he k heo) (I.hok.write mu he k heo new)
theorem Inv.weak {σ':List (Option V)}(I:Inv X pins σ H s)(hl:σ'.length=σ.length)(w:∀ (i:Nat) v,σ'[i]?=some (some v)->σ[i]?=some (some v)):Inv X pins σ' H s :=
 ⟨I.ok,I.os,I.bare,I.base,let ⟨m,hn,hl'⟩:=I.loc;⟨m,hn,fun i x v e1 e2 e3=>hl' i x v e1 (w i v e2) e3⟩,I.cell,I.free,I.freeC,I.pin,I.hok,hl.trans I.len⟩
theorem Inv.pins_of {pins':List (Addr×Obj)}(I:Inv X pins σ H s)(h:∀ p∈pins',s.heap.get? p.1=some p.2/\H p.1=none/\p.1≠X.env.locals/\p.1∉X.fs/\∀ v,p.2.data≠.cell v):Inv X pins' σ H s :=
 ⟨I.ok,I.os,I.bare,I.base,I.loc,I.cell,I.free,I.freeC,fun p hp=>(Bg.mp hp).elim (fun z=>I.pin p (Dw _ z)) (h p),I.hok,I.len⟩
theorem xF {N:List Str}(hN:N.Nodup){i j:Nat}{x:Str}(a:N[i]?=some x)(b:N[j]?=some x):i=j:=by
 obtain⟨h1,e1⟩:=Aj.mp a;obtain⟨h2,e2⟩:=Aj.mp b;exact(List.getElem_inj hN).mp (e1.trans e2.symm)
theorem aCy {M:Model}{A:Around}{E:Value->Shared->Prop}{i:Nat}{x:Str}{v:V}{u:Value}{Q:Unit->Shared->Prop}(I:Inv X pins σ H s)(hN:X.N.Nodup)(hi:X.N[i]?=some x)(hx:Loc X.env.scope x)(r:bI v u)
 (h:∀ s',Inv X pins (σ.set i (some v)) H s'->(∃ a,Heap.SameBut a s.heap s'.heap/\(a=X.env.locals\/X.env.cells.lookup x=some a))->Q () s') (hf:X.fn x=true\/X.env.scope.names.lookup x=some .local:=by first | exact .inl rfl | exact .inr rfl | assumption):wpAny M A (storeName X.env x u) Q E s:=by
 obtain⟨m,hn,hl⟩:=id I.loc;have hcls:(X.env.scope.kind==.class||(X.env.scope.kind==.module&&X.env.locals != X.env.globals))=false:=by rw[I.ok.kind];rfl
 have hiσ:i<σ.length:=by rw[I.len];exact(Aj.mp hi).1
 have cne:=I.cne
 have tracked:∀ {a:Addr} {h':Heap},(∃ o,s.heap.get? a=some o/\H a=none)->Heap.SameBut a s.heap h'->HOk X.prog X.w H h':=fun {a h'} ha hs b ob e=>by
  obtain⟨_,_,hfree⟩:=ha;refine(I.hok b ob e).stay (fun c w' hc q=>(hs.2 c ?_).trans q) (fun _ q=>q) fun _ _ q=>q
  rintro rfl
  rcases hc with rfl | hc
  · rw[hfree]at e;cases e
  · rw[hfree]at hc;cases hc
 rcases hx with hk | hk
 · refine wpAny_storeName_local hk hn (fun h' hn' hs=>?_) hcls
   obtain⟨oL,_,_,hoL,_⟩:=id hn;refine h _ ⟨I.ok,I.os,I.bare,⟨fun b o e n hb hx=>?_,fun b o e n hb hx=>?_,I.base.free,fun b o e hx=>?_,I.base.tups,I.base.frzs,I.base.tbls⟩,⟨_,hn',fun j y v' e1 e2 e3=>?_⟩,fun y c e=>?_,I.free,I.freeC,fun p hp=>?_,tracked ⟨oL,hoL,I.free⟩ hs,by simpa using I.len⟩ ⟨_,hs,.inl rfl⟩
   · exact(hs.2 b (Ax (Al (Ae e) I.ok.above))).trans (I.base.keep b o e n hb hx)
   · obtain⟨sl,e1⟩:=I.base.slot b o e n hb hx
     exact⟨sl,(hs.2 b (Ax (Al (Ae e) I.ok.above))).trans e1⟩
   · obtain⟨o',e1⟩:=I.base.there b o e hx
     exact⟨o',(hs.2 b (Ax (Al (Ae e) I.ok.above))).trans e1⟩
   · by_cases hj:j=i
     · subst hj
       rw[hi]at e1;cases e1;rw[Am hiσ]at e2;cases e2;exact⟨u,r,.inl ⟨hk,by simp⟩⟩
     · rw[Ah (Ne.symm hj)]at e2
       obtain⟨u',r',q⟩:=hl j y v' e1 e2 e3;refine⟨u',r',?_⟩
       rcases q with ⟨k,e⟩ | ⟨k,c,e,z⟩
       · refine .inl ⟨k,?_⟩
         have:y≠x:=fun e=>hj (xF hN e1 (e▸hi))
         simp[this,e]
       · exact .inr ⟨k,c,e,z.sameBut hs (cne y c e)⟩
   · obtain⟨w',z⟩:=I.cell y c e
     exact⟨w',z.sameBut hs (cne y c e)⟩
   · obtain⟨e,n,ne,nf,d⟩:=I.pin p hp
     exact⟨(hs.2 p.1 ne).trans e,n,ne,nf,d⟩
 · have hfn:X.fn x=true:=by
    rcases hf with z | z
    · exact z
    · rw[z]at hk;cases hk
   obtain⟨c,hc⟩:=I.ok.has x (.inl hk);obtain⟨w',z⟩:=I.cell x c hc;refine wpAny_storeName_cell I.ok.kind hk hc z (fun h' hc' hs=>?_)
   obtain⟨oc,hoc,hocd⟩:=id z;refine h { s with heap:=h' } ⟨I.ok,I.os,I.bare,⟨fun b o e n hb hx=>?_,fun b o e n hb hx=>?_,I.base.free,fun b o e hx=>?_,I.base.tups,I.base.frzs,I.base.tbls⟩,⟨m,hn.sameBut hs (Ne.symm (cne x c hc)),fun j y v' e1 e2 e3=>?_⟩,fun y c' e=>?_,I.free,I.freeC,fun p hp=>?_,tracked ⟨oc,hoc,I.freeC x c hc⟩ hs,by simpa using I.len⟩ ⟨c,hs,.inr hc⟩
   · exact(hs.2 b (Ax (Al (Ae e) (I.ok.cab x c hfn hc)))).trans (I.base.keep b o e n hb hx)
   · obtain⟨sl,e1⟩:=I.base.slot b o e n hb hx
     exact⟨sl,(hs.2 b (Ax (Al (Ae e) (I.ok.cab x c hfn hc)))).trans e1⟩
   · obtain⟨o',e1⟩:=I.base.there b o e hx
     exact⟨o',(hs.2 b (Ax (Al (Ae e) (I.ok.cab x c hfn hc)))).trans e1⟩
   · by_cases hj:j=i
     · subst hj
       rw[hi]at e1;cases e1;rw[Am hiσ]at e2;cases e2;exact⟨u,r,.inr ⟨.inl hk,c,hc,hc'⟩⟩
     · rw[Ah (Ne.symm hj)]at e2
       obtain⟨u',r',q⟩:=hl j y v' e1 e2 e3;refine⟨u',r',?_⟩
       rcases q with q | ⟨k,c',e,z'⟩
       · exact .inl q
       · refine .inr ⟨k,c',e,z'.sameBut hs ?_⟩
         rintro rfl
         exact hj (xF hN e1 (I.ok.inj _ _ _ e hc▸hi))
   · by_cases hcc:c'=c
     · subst hcc;exact⟨_,hc'⟩
     · obtain⟨w2,z2⟩:=I.cell y c' e
       exact⟨w2,z2.sameBut hs hcc⟩
   · obtain⟨e,n,ne,nf,d⟩:=I.pin p hp
     refine⟨(hs.2 p.1 ?_).trans e,n,ne,nf,d⟩
     intro q;rw[q,hoc]at e;have q':oc=p.2:=Cg.inj e;exact d w' (by rw[←q'];exact hocd)
theorem iZ {M:Model}{A:Around}{E:Value->Shared->Prop}{i:Nat}{x:Str}{v:V}{u:Value}{Q:Unit->Shared->Prop}(I:Inv X pins σ H s)(hN:X.N.Nodup)(hi:X.N[i]?=some x)(hx:Loc X.env.scope x)(r:bI v u)
 (h:∀ s',Inv X pins (σ.set i (some v)) H s'->Q () s') (hf:X.fn x=true\/X.env.scope.names.lookup x=some .local:=by first | exact .inl rfl | exact .inr rfl | assumption):wpAny M A (storeName X.env x u) Q E s :=
 aCy I hN hi hx r (fun s' I' _=>h s' I') hf
theorem Inv.call' {s':Shared}{ch:List Addr}(I:Inv X pins σ H s)(ho:s'.os=s.os)(u:Un (frs X.stack) ch H H' s.heap s'.heap)(hok:HOk X.prog X.w H' s'.heap)(hg:AllBare s'.gens)
 (hch:∀ b∈ch,(b∈X.ex\/X.s₀.heap.objs.size<=b)/\b≠X.env.locals/\(∀ x c,X.env.cells.lookup x=some c->c≠b)/\∀ p∈X.pn++pins,p.1≠b):Inv X pins σ H' s':=by
 obtain⟨h',g',d',t',o'⟩:=s';have e:o'=s.os:=ho;subst e;exact I.call (g':=g') (t':=t') (d':=d') u hok hg hch
end
abbrev XK:=Value->Option Addr->Hp->Prop
abbrev St:=List (Option V)
abbrev VK:=V->Hp->Prop
abbrev TE:=St->Hp->VK->Prop
abbrev TT:=St->Hp->(Bool->Hp->Prop)->Prop
abbrev TA:=St->Hp->(List V->Hp->Prop)->Prop
structure Ends where
 nx:St->Hp->Prop
 rt:VK
 bk:St->Hp->Prop:=fun _ _=>False
 ct:St->Hp->Prop:=fun _ _=>False
abbrev TS:=Ends->St->Hp->Prop
def EP (X:Cx)(pins:List (Addr×Obj))(σ:St)(Q:VK)(u:Value)(s':Shared):Prop:=∃ v H',Inv X pins σ H' s'/\bI v u/\Q v H'
def TP (X:Cx)(pins:List (Addr×Obj))(σ:St)(Q:Bool->Hp->Prop)(b:Bool)(s':Shared):Prop:=∃ H',Inv X pins σ H' s'/\Q b H'
def AP (X:Cx)(pins:List (Addr×Obj))(σ:St)(Q:List V->Hp->Prop)(us:List Value)(s':Shared):Prop:=∃ vs H',Inv X pins σ H' s'/\bH vs us/\Q vs H'
def SP (X:Cx)(pins:List (Addr×Obj))(D:Ends)(f:Flow)(s':Shared):Prop :=
 match f with
 | .next=>∃ σ' H',Inv X pins σ' H' s'/\D.nx σ' H'
 | .brk=>∃ σ' H',Inv X pins σ' H' s'/\D.bk σ' H'
 | .cont=>∃ σ' H',Inv X pins σ' H' s'/\D.ct σ' H'
 | .ret u=>∃ v σ' H',Inv X pins σ' H' s'/\bI v u/\D.rt v H'
def PE (X:Cx)(e:Expr)(t:TE):Prop :=
 ∀ (pins:List (Addr×Obj)) (s:Shared) (σ:St) (H:Hp) (Q:VK),Inv X pins σ H s->t σ H Q->wpAny (model X.prog X.w) X.A (eval e X.env) (EP X pins σ Q) X.xe s
def PT (X:Cx)(e:Expr)(t:TT):Prop :=
 ∀ (pins:List (Addr×Obj)) (s:Shared) (σ:St) (H:Hp) (Q:Bool->Hp->Prop),Inv X pins σ H s->t σ H Q->wpAny (model X.prog X.w) X.A (isTrue e X.env (eval e X.env)) (TP X pins σ Q) X.xe s
def PW (X:Cx)(e:Expr)(t:TT):Prop :=
 ∀ (whole:Sem Value) (pins:List (Addr×Obj)) (s:Shared) (σ:St) (H:Hp) (Q:Bool->Hp->Prop),Inv X pins σ H s->t σ H Q->wpAny (model X.prog X.w) X.A (isTrue e X.env whole) (TP X pins σ Q) X.xe s
theorem PW.pt {X:Cx}{e:Expr}{t:TT}(h:PW X e t):PT X e t:=h _
def PA (X:Cx)(es:List Expr)(t:TA):Prop :=
 ∀ (pos:Pos) (pins:List (Addr×Obj)) (s:Shared) (σ:St) (H:Hp) (Q:List V->Hp->Prop),Inv X pins σ H s->t σ H Q->wpAny (model X.prog X.w) X.A (spliced (backTo pos (starEach es X.env))) (AP X pins σ Q) X.xe s
def PS (X:Cx)(st:Stmt)(t:TS):Prop :=
 ∀ (pins:List (Addr×Obj)) (s:Shared) (σ:St) (H:Hp) (D:Ends),Inv X pins σ H s->t D σ H->wpAny (model X.prog X.w) X.A (exec st X.env) (SP X pins D) X.xe s
def PSs (X:Cx)(st:List Stmt)(t:TS):Prop :=
 ∀ (pins:List (Addr×Obj)) (s:Shared) (σ:St) (H:Hp) (D:Ends),Inv X pins σ H s->t D σ H->wpAny (model X.prog X.w) X.A (execs st X.env) (SP X pins D) X.xe s
theorem thn {α:Type}{t:Sem α}{Q Q':α->Shared->Prop}{M:Model}{A:Around}{E:Value->Shared->Prop}{s:Shared}(h:wpAny M A t Q E s)(hQ:∀ a s,Q a s->Q' a s):wpAny M A t Q' E s:=wpAny_mono h hQ fun _ _ x=>x
end L2
namespace L2
open PySem PySem.Spec PyProof.Rows
section
variable {X:Cx}
theorem bin {a b:Expr}{ta tb:TE}(ha:PE X a ta)(hb:PE X b tb){pins:List (Addr×Obj)}{s:Shared}{σ:St}{H:Hp}{R:V->V->Hp->Prop}(I:Inv X pins σ H s)(h:ta σ H fun x H1=>tb σ H1 fun y H2=>R x y H2)
 {α:Type} {Q:α->Shared->Prop} {f:Value->Value->Sem α}
 (hf:∀ v u s2 x y H2,Inv X pins σ H2 s2->bI x v->bI y u->R x y H2->wpAny (model X.prog X.w) X.A (f v u) Q X.xe s2) :
 wpAny (model X.prog X.w) X.A (eval a X.env) (fun v s₁=>wpAny (model X.prog X.w) X.A (eval b X.env) (fun u s₂=>wpAny (model X.prog X.w) X.A (f v u) Q X.xe s₂) X.xe s₁) X.xe s:=by
 refine thn (ha pins s σ H _ I h) fun v s1 ⟨x,H1,I1,r1,q1⟩=>?_
 refine thn (hb pins s1 σ H1 _ I1 q1) fun u s2 ⟨y,H2,I2,r2,q2⟩=>?_
 exact hf v u s2 x y H2 I2 r1 r2 q2
def aQd (i:Nat):TE:=fun σ H Q=>∃ v,σ[i]?=some (some v)/\Q v H
def tC (v:V):TE:=fun _ H Q=>Q v H
theorem nM {i:Nat}{x:Str}{pos:Pos}(hN:X.N[i]?=some x)(hv:Vis X.env.scope x)(hd:(x==("__debug__":Str))=false:=by decide)(hcd:(x==("__classdict__":Str))=false:=by decide):PE X (.Name x pos) (aQd i):=by
 intro pins s σ H Q I h;obtain⟨v,e,h⟩:=h;obtain⟨m,hn,hl⟩:=I.loc;obtain⟨u,r,l⟩:=hl i x v hN e hv;have fin:EP X pins σ Q u s:=⟨v,H,I,r,h⟩;rcases l with ⟨hk,hm⟩ | ⟨hk,c,hc,hcell⟩
 · exact wpAny_Name (wpAny_loadName_local I.ok.kind hk hn hm fin) hd
 · rcases hk with hk | hk
   · exact wpAny_Name (wpAny_loadName_cell I.ok.kind hk hc hcell fin) hd
   · exact wpAny_Name (wpAny_loadName_free I.ok.kind hk hc hcell fin hcd) hd
theorem aK9 {i j pos}:PE X (.Constant (.int i) j pos) (tC (.int i)):=fun _ _ _ H _ I h=>wpAny_Constant_int ⟨.int i,H,I.tok _,⟨_,rfl⟩,h⟩
theorem aNu {b j pos}:PE X (.Constant (.bool b) j pos) (tC (.bl b)):=fun _ _ _ H _ I h=>Constant_bool ⟨.bl b,H,I,rfl,h⟩
theorem aL6 {j pos}:PE X (.Constant .none j pos) (tC .non):=fun _ _ _ H _ I h=>Constant_none ⟨.non,H,I,rfl,h⟩
theorem aK0 {x j pos}:PE X (.Constant (.str x) j pos) (tC (.str x)):=fun _ _ _ H _ I h=>Calls.Constant_str ⟨.str x,H,I.tok _,⟨_,rfl⟩,h⟩
def Gl (X:Cx)(x:Str):Prop:=X.env.kindOf x=some .globalImplicit
theorem oP {E:Value->Shared->Prop}{pins:List (Addr×Obj)}{s:Shared}{σ:St}{H:Hp}{x:Str}{u:Value}{pos:Pos}{Q:Value->Shared->Prop}(I:Inv X pins σ H s)(hg:Gl X x)(hm:X.mg x=some u)(h:Q u s)
 (hd:(x==("__debug__":Str))=false:=by decide):wpAny (model X.prog X.w) X.A (eval (.Name x pos) X.env) Q E s :=
 Calls.Name_function_global I.ok.kind hg (Calls.loadGlobal_global (by rw[I.ok.glob];exact I.mod.glob.keeps I.bk) hm h) hd
theorem lM {E:Value->Shared->Prop}{pins:List (Addr×Obj)}{s:Shared}{σ:St}{H:Hp}{x:Str}{u:Value}{pos:Pos}{Q:Value->Shared->Prop}(I:Inv X pins σ H s)(hg:Gl X x)(hm:X.mg x=none)(hv:bootBuiltins x=some u)(h:Q u s)
 (hn:x ≠ "__name__":=by decide) (hd:(x==("__debug__":Str))=false:=by decide):wpAny (model X.prog X.w) X.A (eval (.Name x pos) X.env) Q E s:=by
 obtain⟨mb,h1,h2⟩:=I.mod.blt;exact Calls.Name_function_global I.ok.kind hg (Calls.loadGlobal_builtin (by rw[I.ok.glob];exact I.mod.glob.keeps I.bk) hm (by rw[I.ok.blt];exact h1.keeps I.bk) ((h2 x hn).trans hv) h) hd
theorem dE {x:Str}{v:V}{u:Value}{pos:Pos}(hg:Gl X x)(hm:X.mg x=some u)(r:bI v u)(hd:(x==("__debug__":Str))=false:=by decide):PE X (.Name x pos) (tC v) :=
 fun _ _ _ H _ I h=>oP I hg hm ⟨v,H,I,r,h⟩ hd
theorem gC {x:Str}{v:V}{u:Value}{pos:Pos}(hg:Gl X x)(hm:X.mg x=none)(hv:bootBuiltins x=some u)(r:bI v u)(hn:x ≠ "__name__":=by decide)(hd:(x==("__debug__":Str))=false:=by decide):PE X (.Name x pos) (tC v) :=
 fun _ _ _ H _ I h=>lM I hg hm hv ⟨v,H,I,r,h⟩ hn hd
variable {a b:Expr}{ta tb:TE}{pos:Pos}
def PC (X:Cx)(op:CmpOp)(a b:Expr)(t:TE):Prop :=
 ∀ (pins:List (Addr×Obj)) (s:Shared) (σ:St) (H:Hp) (Q:VK),Inv X pins σ H s->t σ H Q ->
  wpAny (model X.prog X.w) X.A (eval a X.env) (fun v s₁=>wpAny (model X.prog X.w) X.A (eval b X.env) (fun u s₂=>wpAny (model X.prog X.w) X.A (compareOp op v u) (EP X pins σ Q) X.xe s₂) X.xe s₁) X.xe s
theorem aEo (b:Expr){op:CmpOp}(h:op≠.In)(h2:op≠.NotIn):behindInMarks op b=false:=by
 have e1:(op==CmpOp.In)=false:=by cases op<;>first | rfl | exact absurd rfl h
 have e2:(op==CmpOp.NotIn)=false:=by cases op<;>first | rfl | exact absurd rfl h2
 cases b<;>simp[behindInMarks,e1,e2]
def aPx (ta:TE):TE:=fun σ H Q=>ta σ H fun x H1=>Q (.bl (decide (x=.non))) H1
theorem bI.none_iff {x:V}{v:Value}(r:bI x v):(v==Value.none)=decide (x=.non):=by
 cases x with
 | non=>cases r;rfl
 | bl _=>cases r;rfl
 | int _=>obtain⟨t,rfl⟩:=r;rfl
 | str _=>obtain⟨t,rfl⟩:=r;rfl
 | byt _=>obtain⟨t,rfl⟩:=r;rfl
 | flt _=>obtain⟨t,rfl⟩:=r;rfl
 | ref _=>cases r;rfl
 | ty _=>cases r;rfl
theorem aL7 {j pos'}(ha:PE X a ta):PC X .Is a (.Constant .none j pos') (aPx ta):=by
 intro pins s σ H Q I h;refine thn (ha pins s σ H _ I h) fun v s1 ⟨x,H1,I1,r1,q1⟩=>?_
 exact Constant_none (is_none_gen ⟨.bl _,H1,I1,by rw[r1.none_iff];rfl,q1⟩)
def tB (t:TE):TT:=fun σ H Q=>t σ H fun x H1=>∃ c,x=.bl c/\Q c H1
theorem aM4 {op:CmpOp}{t:TE}(h:PC X op a b t)(h1:behindInMarks op b=false:=by first | exact aEo _ (by decide) (by decide) | rfl):PT X (.Compare a [op] [b] pos) (tB t):=by
 intro pins s σ H Q I hw;refine wpAny_isTrue_Compare1 (thn (h pins s σ H _ I hw) fun v s1 h1=>thn h1 fun u s2 h2=>thn h2 fun c s3 ⟨x,H1,I1,r1,q1⟩=>?_) h1
 obtain⟨d,rfl,q⟩:=q1;cases r1;exact wpAny_truthy_bool ⟨H1,I1,q⟩
theorem aK7 {e:Expr}{t:TE}(h:PE X e t)(he:∀ whole,isTrue e X.env whole=(do let v ← whole;standAt e.pos;holding [v] (truthy v)):=by intro _;rfl):PT X e (tB t):=by
 intro pins s σ H Q I hw;refine isTrue_plain (thn (h pins s σ H _ I hw) fun v s1 ⟨x,H1,I1,r1,q1⟩=>?_) (he _)
 obtain⟨d,rfl,q⟩:=q1;cases r1;exact wpAny_truthy_bool ⟨H1,I1,q⟩
variable {tA tB':TT}{rest:List Expr}
def aQ2 (t u:TT):TT:=fun σ H Q=>t σ H fun c H1=>if c=true then u σ H1 Q else Q false H1
def tOr (t u:TT):TT:=fun σ H Q=>t σ H fun c H1=>if c=true then Q true H1 else u σ H1 Q
def aQi (t:TT):TT:=fun σ H Q=>t σ H fun c H1=>Q (!c) H1
theorem aHe (ha:PT X a tA):PW X (.BoolOp .And [a] pos) tA:=by
 intro wh pins s σ H Q I h;refine isTrue_and (thn (ha pins s σ H Q I h) fun c s1 e=>?_)
 cases c with
 | true=>exact isTrue_and_nil e
 | false=>exact e
theorem aLk (ha:PT X a tA):PW X (.BoolOp .Or [a] pos) tA:=by
 intro wh pins s σ H Q I h;refine isTrue_or (thn (ha pins s σ H Q I h) fun c s1 e=>?_)
 cases c with
 | false=>exact isTrue_or_nil e
 | true=>exact e
theorem aNq (ha:PT X a tA)(hb:PW X (.BoolOp .And (b :: rest) pos) tB'):PW X (.BoolOp .And (a :: b :: rest) pos) (aQ2 tA tB'):=by
 intro wh pins s σ H Q I h;refine isTrue_and (thn (ha pins s σ H _ I h) fun c s1 ⟨H1,I1,q1⟩=>?_)
 cases c with
 | true=>exact hb wh pins s1 σ H1 Q I1 q1
 | false=>exact⟨H1,I1,q1⟩
theorem aN4 (ha:PT X a tA)(hb:PW X (.BoolOp .Or (b :: rest) pos) tB'):PW X (.BoolOp .Or (a :: b :: rest) pos) (tOr tA tB'):=by
 intro wh pins s σ H Q I h;refine isTrue_or (thn (ha pins s σ H _ I h) fun c s1 ⟨H1,I1,q1⟩=>?_)
 cases c with
 | true=>exact⟨H1,I1,q1⟩
 | false=>exact hb wh pins s1 σ H1 Q I1 q1
theorem aM2 (ha:PT X a tA):PT X (.UnaryOp .Not a pos) (aQi tA):=by
 intro pins s σ H Q I h;exact isTrue_not (ha pins s σ H (fun c H1=>Q (!c) H1) I h)
def aPd (ta tb:TE):TE:=fun σ H Q=>ta σ H fun x H1=>∃ c,x=.bl c/\if c=true then tb σ H1 Q else Q (.bl false) H1
theorem aLy {op}{t:TE}(h:PE X a t):PE X (.BoolOp op [a] pos) t:=fun pins s σ H Q I hw=>BoolOp_one (h pins s σ H Q I hw)
theorem aK4 (ha:PE X a ta)(hb:PE X (.BoolOp .And (b :: rest) pos) tb):PE X (.BoolOp .And (a :: b :: rest) pos) (aPd ta tb):=by
 intro pins s σ H Q I h;refine BoolOp_and (thn (ha pins s σ H _ I h) fun v s1 ⟨x,H1,I1,r1,q1⟩=>?_)
 obtain⟨c,rfl,q1⟩:=q1;cases r1;refine wpAny_truthy_bool ?_
 cases c with
 | true=>exact hb pins s1 σ H1 Q I1 q1
 | false=>exact⟨.bl false,H1,I1,rfl,q1⟩
end
end L2
namespace L2
open PySem PySem.Spec PyProof.Rows
def SqL (K:PySem.W.Frag)(H:Hp)(a:Addr)(xs:List V):Prop :=
 Rd H a (.lst xs) \/
  ∃ (o:Obj) (its:Array Value) (n:Nat),K.lookup a=some o/\o.cls=.type "list"/\o.dict=none/\o.data=.seq its n/\its.size<=sizeLine/\bH xs its.toList
def SqT (K:PySem.W.Frag)(H:Hp)(a:Addr)(xs:List V):Prop :=
 Rd H a (.tup xs) \/
  ∃ (o:Obj) (its:Array Value) (n:Nat),K.lookup a=some o/\o.cls=.type "tuple"/\o.data=.seq its n/\its.size<=sizeLine/\bH xs its.toList
def aQ9:Value->Option V
 | .none=>some .non
 | .bool b=>some (.bl b)
 | .int i _=>some (.int i)
 | .str x _=>some (.str x)
 | .bytes b _=>some (.byt b)
 | .float b _=>some (.flt b)
 | .ref a=>some (.ref a)
 | .type n=>some (.ty n)
 | _=>none
theorem bI.abs {x:V}{u:Value}(r:bI x u):aQ9 u=some x:=by
 cases x with
 | non=>cases r;rfl
 | bl _=>cases r;rfl
 | int _=>obtain⟨t,rfl⟩:=r;rfl
 | str _=>obtain⟨t,rfl⟩:=r;rfl
 | byt _=>obtain⟨t,rfl⟩:=r;rfl
 | flt _=>obtain⟨t,rfl⟩:=r;rfl
 | ref _=>cases r;rfl
 | ty _=>cases r;rfl
theorem bI.inj {x y:V}{u:Value}(r:bI x u)(q:bI y u):x=y:=Cg.inj (r.abs.symm.trans q.abs)
theorem bH.inj:∀ {xs ys:List V} {us:List Value},bH xs us->bH ys us->xs=ys
 | _,_,_,.nil,.nil=>rfl
 | _,_,_,.cons r t,.cons r' t'=>by rw[r.inj r',bH.inj t t']
section
variable {X:Cx}{pins:List (Addr×Obj)}{σ:St}{H:Hp}{s:Shared}{a:Addr}{xs ys:List V}
theorem SqL.of {K:PySem.W.Frag}(h:H a=some (.lst xs)):SqL K H a xs:=.inl (.inl h)
theorem SqT.of {K:PySem.W.Frag}(h:H a=some (.tup xs)):SqT K H a xs:=.inl (.inl h)
theorem Inv.list (I:Inv X pins σ H s)(h:SqL X.K H a xs):∃ its:List Value,bH xs its/\PlainL s.heap a its.toArray/\xs.length<=sizeLine:=by
 rcases h with h | ⟨o,its,n,hk,hc,hd,hs,hz,r⟩
 · obtain⟨z,its,n,r,e⟩:=h.ok I.hok
   exact⟨its,r,⟨_,n,e,rfl,rfl,rfl⟩,z⟩
 · refine⟨its.toList,r,⟨o,n,I.kIn a o hk,hc,hd,by simpa using hs⟩,?_⟩
   have e:=r.length;simp only[Array.length_toList]at e;omega
theorem Inv.tuple (I:Inv X pins σ H s)(h:SqT X.K H a xs):∃ its:List Value,bH xs its/\IsTup s.heap a its.toArray/\xs.length<=sizeLine:=by
 rcases h with h | ⟨o,its,n,hk,hc,hs,hz,r⟩
 · obtain⟨z,its,r,p⟩:=h.ok I.hok
   exact⟨its,r,p,z⟩
 · refine⟨its.toList,r,⟨o,I.kIn a o hk,hc,n,by simpa using hs⟩,?_⟩
   have e:=r.length;simp only[Array.length_toList]at e;omega
theorem Inv.list_inj (I:Inv X pins σ H s)(h:SqL X.K H a xs)(h':SqL X.K H a ys):xs=ys:=by
 obtain⟨its,r,⟨o,n,e,_,_,d⟩,_⟩:=I.list h;obtain⟨its',r',⟨o',n',e',_,_,d'⟩,_⟩:=I.list h';rw[e]at e';cases e';rw[d]at d';injection d' with d1 _
 have:its=its':=by simpa using congrArg Array.toList d1
 subst this;exact r.inj r'
theorem Inv.tuple_inj (I:Inv X pins σ H s)(h:SqT X.K H a xs)(h':SqT X.K H a ys):xs=ys:=by
 obtain⟨its,r,⟨o,e,_,n,d⟩,_⟩:=I.tuple h;obtain⟨its',r',⟨o',e',_,n',d'⟩,_⟩:=I.tuple h';rw[e]at e';cases e';rw[d]at d';injection d' with d1 _
 have:its=its':=by simpa using congrArg Array.toList d1
 subst this;exact r.inj r'
end
section
variable {X:Cx}{st:Stmt}{rest:List Stmt}{t u:TS}{e:Expr}{te:TE}{pos:Pos}
def aOw:TS:=fun D σ H=>D.nx σ H
def aPi (t u:TS):TS:=fun D σ H=>t { D with nx:=u D } σ H
theorem aJu:PSs X [] aOw:=fun _ _ σ H _ I h=>wpAny_execs_nil ⟨σ,H,I,h⟩
theorem aEm (h1:PS X st t)(h2:PSs X rest u):PSs X (st :: rest) (aPi t u):=by
 intro pins s σ H D I h;refine wpAny_execs_cons (thn (h1 pins s σ H { D with nx:=u D } I h) fun f s1 q=>?_)
 cases f with
 | next =>
  obtain⟨σ',H',I',q⟩:=q;exact h2 pins s1 σ' H' D I' q
 | ret v=>exact q
 | brk=>exact q
 | cont=>exact q
theorem aBy (h1:PS X st t):PSs X [st] t:=by
 intro pins s σ H D I h;refine wpAny_execs_cons (thn (h1 pins s σ H D I h) fun f s1 q=>?_)
 cases f with
 | next=>exact wpAny_execs_nil q
 | ret v=>exact q
 | brk=>exact q
 | cont=>exact q
theorem Inv.quiet {pins:List (Addr×Obj)}{σ:St}{H:Hp}{s:Shared}(I:Inv X pins σ H s):interactive X.env=false:=by simp[interactive,I.ok.kind]
def aOk (te:TE):TS:=fun D σ H=>te σ H fun _ H1=>D.nx σ H1
theorem uQ (he:PE X e te)(hs:swapsWith e none pos.line X.env=pure false:=by rfl):PS X (.Expr e pos) (aOk te):=by
 intro pins s σ H D I h;exact wpAny_Expr_any (thn (he pins s σ H _ I h) fun v s1 ⟨x,H1,I1,r1,q1⟩=>⟨σ,H1,I1,q1⟩) I.quiet hs
def aQh (te:TE):TS:=fun D σ H=>te σ H D.rt
theorem aL1 (he:PE X e te):PS X (.Return (some e) pos) (aQh te):=by
 intro pins s σ H D I h;exact wpAny_Return_some (thn (he pins s σ H _ I h) fun v s1 ⟨x,H1,I1,r1,q1⟩=>⟨x,σ,H1,I1,r1,q1⟩)
def aQ3 (c:TT)(t u:TS):TS:=fun D σ H=>c σ H fun b H1=>if b=true then t D σ H1 else u D σ H1
theorem aOt {c:Expr}{a b:List Stmt}{tc:TT}(hc:PT X c tc)(ha:PSs X a t)(hb:PSs X b u):PS X (.If c a b pos) (aQ3 tc t u):=by
 intro pins s σ H D I h;refine wpAny_If (thn (hc pins s σ H _ I h) fun d s1 ⟨H1,I1,q1⟩=>?_)
 cases d with
 | true=>exact ha pins s1 σ H1 D I1 q1
 | false=>exact hb pins s1 σ H1 D I1 q1
end
abbrev TG:=V->St->Hp->(St->Hp->Prop)->Prop
abbrev TGs:=List V->St->Hp->(St->Hp->Prop)->Prop
def PG (X:Cx)(target:Expr)(t:TG):Prop :=
 ∀ (pins:List (Addr×Obj)) (s:Shared) (σ:St) (H:Hp) (v:V) (u:Value) (Q:St->Hp->Prop),Inv X pins σ H s->bI v u->t v σ H Q ->
  wpAny (model X.prog X.w) X.A (assign target X.env u) (fun _ s'=>∃ σ' H',Inv X pins σ' H' s'/\Q σ' H') X.xe s
def PGs (X:Cx)(ts:List Expr)(t:TGs):Prop :=
 ∀ (pins:List (Addr×Obj)) (s:Shared) (σ:St) (H:Hp) (vs:List V) (us:List Value) (Q:St->Hp->Prop),Inv X pins σ H s->bH vs us->t vs σ H Q ->
  wpAny (model X.prog X.w) X.A (assignInOrder ((assignEach ts X.env).map (·.2)) us) (fun _ s'=>∃ σ' H',Inv X pins σ' H' s'/\Q σ' H') X.xe s
abbrev TIp:=V->V->Hp->VK->Prop
def PIp (X:Cx)(op:Operator)(t:TIp):Prop :=
 ∀ (pins:List (Addr×Obj)) (s:Shared) (σ:St) (H:Hp) (x y:V) (v u:Value) (Q:VK),Inv X pins σ H s->bI x v->bI y u->t x y H Q ->
  wpAny (model X.prog X.w) X.A (inplaceOp op v u) (EP X pins σ Q) X.xe s
section
variable {X:Cx}{pos:Pos}
def xU (i:Nat):TG:=fun v σ H Q=>Q (σ.set i (some v)) H
theorem aI1 {i:Nat}{x:Str}(hN:X.N.Nodup)(hi:X.N[i]?=some x)(hx:Loc X.env.scope x)(hf:X.fn x=true\/X.env.scope.names.lookup x=some .local:=by first | exact .inl rfl | exact .inr rfl | assumption):PG X (.Name x pos) (xU i):=by
 intro pins s σ H v u Q I r h;exact wpAny_assign_Name (iZ I hN hi hx r (fun s' I'=>⟨_,H,I',h⟩) hf)
def aG6:TGs:=fun vs σ H Q=>vs=[]/\Q σ H
def aBd (t:TG)(u:TGs):TGs:=fun vs σ H Q=>∃ v r,vs=v :: r/\t v σ H fun σ' H'=>u r σ' H' Q
theorem aJf:PGs X [] aG6:=by
 intro pins s σ H vs us Q I r h;obtain⟨e,h⟩:=h;subst e;cases r;exact assignInOrder_nil ⟨σ,H,I,h⟩
theorem aD6 {e:Expr}{es:List Expr}{t:TG}{u:TGs}(h1:PG X e t)(h2:PGs X es u)
 (hs:(assignEach (e :: es) X.env).map (·.2)=assign e X.env :: (assignEach es X.env).map (·.2):=by rfl):PGs X (e :: es) (aBd t u):=by
 intro pins s σ H vs us Q I r h;obtain⟨v,vr,e1,h⟩:=h;subst e1;cases r with
 | cons r rr =>
  rw[hs];refine assignInOrder_cons (thn (h1 pins s σ H _ _ _ I r h) fun _ s1 ⟨σ1,H1,I1,q1⟩=>?_)
  exact h2 pins s1 σ1 H1 _ _ Q I1 rr q1
def aGy (K:PySem.W.Frag)(n:Nat)(t:TGs):TG:=fun v σ H Q=>∃ a xs,v=.ref a/\SqT K H a xs/\xs.length=n/\t xs σ H Q
theorem aMv {es:List Expr}{k:Nat}{t:TGs}{n:Nat}(hc:X.calm=true)(h:PGs X es t)
 (hn:(assignEach es X.env).length=n:=by rfl) (hst:(assignEach es X.env).findIdx? (·.1)=none:=by rfl):PG X (.Tuple es k pos) (aGy X.K n t):=by
 intro pins s σ H v u Q I r hw;obtain⟨a,xs,e1,hq,hl,hw⟩:=hw;subst e1;cases r;obtain⟨its,rv,ht,hz⟩:=I.tuple hq;refine assign_Tuple_tuple (I.ok.hd hc) ht (by simp[hn,←hl,rv.length]) hst fun h' hx=>?_
 have I1:Inv X pins σ H { s with heap:=h' }:=I.kept (t':=s.toks) fun b o e=>hx b o (Ax (Ae e)) e
 exact h pins _ σ H xs _ Q I1 (by simpa using rv) hw
def aOl (te:TE)(g:TG):TS:=fun D σ H=>te σ H fun x H1=>g x σ H1 D.nx
theorem aLz {tg e:Expr}{te:TE}{g:TG}(he:PE X e te)(hg:PG X tg g)(hs:swapsWithSole [tg] e pos.line X.env=pure false:=by rfl)(hw:swappedStores [tg] e X.env=pure none:=by rfl)
 (h1:(assignEach [tg] X.env).map (·.2)=[assign tg X.env]:=by rfl):PS X (.Assign [tg] e pos) (aOl te g):=by
 intro pins s σ H D I h;refine wpAny_Assign_stores (thn (he pins s σ H _ I h) fun v s1 ⟨x,H1,I1,r1,q1⟩=>?_) hs hw
 rw[h1];exact thn (hg pins s1 σ H1 x v _ I1 r1 q1) fun _ s2 q=>q
theorem aD4 {i:Nat}{x:Str}{e:Expr}{te:TE}{pos':Pos}(hN:X.N.Nodup)(hi:X.N[i]?=some x)(hx:Loc X.env.scope x)(he:PE X e te)(hs:swapsWith e (some (.Name x pos')) pos.line X.env=pure false:=by rfl)(hf:X.fn x=true\/X.env.scope.names.lookup x=some .local:=by first | exact .inl rfl | exact .inr rfl | assumption) :
 PS X (.Assign [.Name x pos'] e pos) (aOl te (xU i)):=by
 intro pins s σ H D I h;refine wpAny_Assign_Name (thn (he pins s σ H _ I h) fun v s1 ⟨y,H1,I1,r1,q1⟩=>?_) hs
 exact iZ I1 hN hi hx r1 (fun s2 I2=>⟨_,H1,I2,q1⟩) hf
def aQq (i:Nat)(te:TE)(ti:TIp):TS:=fun D σ H=>∃ x,σ[i]?=some (some x)/\te σ H fun y H1=>ti x y H1 fun z H2=>D.nx (σ.set i (some z)) H2
theorem aNe {i:Nat}{x:Str}{e:Expr}{te:TE}{op:Operator}{ti:TIp}{pos':Pos}(hN:X.N.Nodup)(hi:X.N[i]?=some x)(hx:Loc X.env.scope x)(he:PE X e te)(ho:PIp X op ti)(hf:X.fn x=true\/X.env.scope.names.lookup x=some .local:=by first | exact .inl rfl | exact .inr rfl | assumption) :
 PS X (.AugAssign (.Name x pos') op e pos) (aQq i te ti):=by
 intro pins s σ H D I h;obtain⟨v,e1,h⟩:=h;obtain⟨m,hn,hl⟩:=I.loc;have vis:Vis X.env.scope x:=by rcases hx with k | k;exact .inl k;exact .inr (.inl k)
 obtain⟨u,r,l⟩:=hl i x v hi e1 vis;refine wpAny_AugAssign_Name ?_
 have go:wpAny (model X.prog X.w) X.A (eval e X.env) (fun w s₂=>wpAny (model X.prog X.w) X.A (inplaceOp op u w) (fun r s₃=>wpAny (model X.prog X.w) X.A (storeName X.env x r) (fun _=>SP X pins D .next) X.xe s₃) X.xe s₂) X.xe s:=by
  refine thn (he pins s σ H _ I h) fun w s1 ⟨y,H1,I1,r1,q1⟩=>?_
  refine thn (ho pins s1 σ H1 v y u w _ I1 r r1 q1) fun z s2 ⟨zv,H2,I2,r2,q2⟩=>?_
  exact iZ I2 hN hi hx r2 (fun s3 I3=>⟨_,H2,I3,q2⟩) hf
 rcases l with ⟨hk,hm⟩ | ⟨hk,c,hc,hcell⟩
 · exact wpAny_loadName_local I.ok.kind hk hn hm go
 · rcases hk with hk | hk
   · exact wpAny_loadName_cell I.ok.kind hk hc hcell go
   · rcases hx with k | k
     · have:X.env.scope.names.lookup x=some .free:=hk
       rw[k]at this;cases this
     · have:X.env.scope.names.lookup x=some .free:=hk
       rw[k]at this;cases this
def ipI (f:Int->Int->Int):TIp:=fun x y H Q=>∃ i j,x=.int i/\y=.int j/\Q (.int (f i j)) H
theorem aM5:PIp X .Add (ipI fun i j=>i+j):=by
 intro pins s σ H x y v u Q I r1 r2 h;obtain⟨i,j,e1,e2,q⟩:=h;subst e1;subst e2;obtain⟨t,rfl⟩:=r1;obtain⟨t',rfl⟩:=r2;exact iadd_int ⟨.int _,H,I.tok _,⟨_,rfl⟩,q⟩
end
structure It where
 go:Nat->Hp->Prop
 yld:Nat->Hp->V->Hp->Prop
 stop:Nat->Hp->Prop
def lJ (X:Cx)(pins:List (Addr×Obj))(H:Hp)(b:Addr):Prop :=
 H b=none/\b≠X.env.locals/\b∉X.fs/\(b∈X.ex\/X.s₀.heap.objs.size<=b)/\(∀ x c,X.env.cells.lookup x=some c->c≠b)/\∀ p∈X.pn++pins,p.1≠b
theorem Inv.fpOk {X:Cx}{pins:List (Addr×Obj)}{σ:St}{H H':Hp}{s:Shared}{b:Addr}(I:Inv X pins σ H s)(hb:s.heap.objs.size<=b)(hn:H' b=none):lJ X pins H' b:=by
 refine⟨hn,Ef (Al I.lt hb),I.nofs hb,.inr (Ak I.sz hb),fun x c e z=>?_,fun p hp z=>?_⟩
 · obtain⟨v,q⟩:=I.cell x c e
   exact absurd (Al q.lt (by rw[z];exact hb)) (Cu _)
 · exact absurd (Al (Ae (I.pin p hp).1) (by rw[z];exact hb)) (Cu _)
structure Turn (P:Program)(w:World)(K:PySem.W.Frag)(tg:Expr)(J:It)(fp:List Addr)(it:Addr)(tn:Nat->Heap->Prop):Prop where
 mem:it∈fp
 obj:∀ i h,tn i h->∀ b∈fp,∃ o,h.get? b=some o/\∀ v,o.data≠.cell v
 keep:∀ i h h',tn i h->(∀ b∈fp,∀ o,h.get? b=some o->h'.get? b=some o)->tn i h'
 item:∀ (X:Cx),X.prog=P->X.w=w->X.K=K->X.calm=true->∀ (i:Nat) (pins:List (Addr×Obj)) (s:Shared) (σ:St) (H:Hp) (E:Value->Shared->Prop),Inv X pins σ H s->(∀ b∈fp,lJ X pins H b)->tn i s.heap->J.go i H ->
  wpAny (model P w) X.A (pyNext (.ref it)) (fun r s1=>∃ u,r=some u /\
   wpAny (model P w) X.A (letOwnedTupleGo tg (.ref it) u) (fun _ s2=>∃ x H',Inv X pins σ H' s2/\bI x u/\J.yld i H x H'/\tn (i+1) s2.heap/\∀ b∈fp,H' b=none) E s1) E s
 done:∀ (X:Cx),X.prog=P->X.w=w->X.K=K->X.calm=true->∀ (i:Nat) (pins:List (Addr×Obj)) (s:Shared) (σ:St) (H:Hp) (E:Value->Shared->Prop),Inv X pins σ H s->(∀ b∈fp,lJ X pins H b)->tn i s.heap->J.stop i H ->
  wpAny (model P w) X.A (pyNext (.ref it)) (fun r s1=>r=none/\Inv X pins σ H s1) E s
 self:∀ (A:Around) (i:Nat) (s:Shared) (Q:Value->Shared->Prop) (E:Value->Shared->Prop),tn i s.heap->Q (.ref it) s->wpAny (model P w) A (pyIter (.ref it)) Q E s
abbrev TI:=St->Hp->(It->Hp->Prop)->Prop
def PIE (X:Cx)(pins:List (Addr×Obj))(σ:St)(tg:Expr)(R:It->Hp->Prop)(itv:Value)(s2:Shared):Prop :=
 ∃ (it:Addr) (fp:List Addr) (tn:Nat->Heap->Prop) (J:It) (H':Hp),itv=.ref it/\Inv X pins σ H' s2/\Turn X.prog X.w X.K tg J fp it tn/\tn 0 s2.heap/\(∀ b∈fp,lJ X pins H' b)/\R J H'
def PI (X:Cx)(tg iter:Expr)(wi:TI):Prop :=
 ∀ (pins:List (Addr×Obj)) (s:Shared) (σ:St) (H:Hp) (R:It->Hp->Prop),Inv X pins σ H s->wi σ H R ->
  wpAny (model X.prog X.w) X.A (eval iter X.env) (fun v s1=>wpAny (model X.prog X.w) X.A (pyIter v) (PIE X pins σ tg R) X.xe s1) X.xe s
theorem aAy {M:Model}{A:Around}{E:Value->Shared->Prop}{s:Shared}{tg:Expr}{it:Addr}{u:Value}{o:Obj}{n:String}{vs:Array Value}{Q:Unit->Shared->Prop}(ho:s.heap.get? it=some o)(hc:o.cls=.type n)(hd:o.data=.fields vs)
    (hn:["enumerate","zip","dict_itemiterator","dict_reverseitemiterator","odict_iterator","itertools.zip_longest","itertools.pairwise"].contains n=false) (hQ:Q () s):wpAny M A (letOwnedTupleGo tg (.ref it) u) Q E s:=by
  unfold letOwnedTupleGo
  cases tg<;>first
    | exact wpAny_pure hQ
    | (cases u<;>first
        | exact wpAny_pure hQ
        | (refine wpAny_bind (wpAny_load ho ?_)
           rw[hc,hd];show wpAny M A (if (["enumerate","zip","dict_itemiterator","dict_reverseitemiterator","odict_iterator","itertools.zip_longest","itertools.pairwise"].contains n&&vs[0]?==some (rawInt _))=true then _ else _) Q E s
           rw[if_neg (by intro h;rw[hn,Bool.false_and]at h;cases h)]
           exact wpAny_pure hQ))
def Itl (K:PySem.W.Frag)(a:Addr):It :=
 ⟨fun i H=>∃ xs x,SqL K H a xs/\xs[i]?=some x,fun i H x H'=>H'=H/\∀ xs,SqL K H a xs->xs[i]?=some x,fun i H=>∃ xs,SqL K H a xs/\xs.length<=i⟩
def Itt (K:PySem.W.Frag)(a:Addr):It :=
 ⟨fun i H=>∃ xs x,SqT K H a xs/\xs[i]?=some x,fun i H x H'=>H'=H/\∀ xs,SqT K H a xs->xs[i]?=some x,fun i H=>∃ xs,SqT K H a xs/\xs.length<=i⟩
def Itr (lo:Int)(n:Nat):It:=⟨fun i _=>i<n,fun i H x H'=>H'=H/\x=.int (lo+i),fun i _=>n<=i⟩
theorem aB5 {P:Program}{w:World}{K:PySem.W.Frag}{tg:Expr}(a it:Addr):Turn P w K tg (Itl K a) [it] it (fun i h=>h.IsListIter it a i) where
 mem:=by simp
 obj:=fun i h st b hb=>by
  have e:b=it:=by simpa using hb
  subst e;obtain⟨o,e,c,d⟩:=st;exact⟨o,e,fun v z=>by rw[d]at z;cases z⟩
 keep:=fun i h h' st k=>st.at fun o e=>k it (by simp) o e
 item:=by
  intro X hP hw hK hc i pins s σ H E I hf st hg;subst hP hw hK;obtain⟨xs,x,hq,hx⟩:=hg;obtain⟨its,rv,p,hz⟩:=I.list hq;obtain⟨u,hu,ru⟩:=rv.get hx;obtain⟨f0,f1,f2,f3,f4,f5⟩:=hf it (by simp)
  refine wpAny_pyNext_list_item st p.isList (x:=u) (by simpa using hu) fun h' st' sb=>?_
  have I1:Inv X pins σ H { s with heap:=h' }:=I.turned (t':=s.toks) (fun b o hb e=>(sb.2 b hb).trans e) f0 f1 f3 f4 f5
  obtain⟨o,e,c,d⟩:=id st';exact⟨u,rfl,aAy (s:={ s with heap:=h' }) e c d (by decide) ⟨x,H,I1,ru,⟨rfl,fun ys hy=>by rw[I.list_inj hy hq];exact hx⟩,st',fun b hb=>(hf b hb).1⟩⟩
 done:=by
  intro X hP hw hK hc i pins s σ H E I hf st hg;subst hP hw hK;obtain⟨xs,hq,hx⟩:=hg;obtain⟨its,rv,p,hz⟩:=I.list hq;obtain⟨f0,f1,f2,f3,f4,f5⟩:=hf it (by simp)
  have hl:=rv.length;exact wpAny_pyNext_list_end (I.ok.hd hc) st p.isList (by simp;omega) fun h' eb=>⟨rfl,I.turned (t':=s.toks) (fun b o hb e=>eb b o hb e) f0 f1 f3 f4 f5⟩
 self:=fun _ _ _ _ _ st h=>wpAny_pyIter_listiter st h
theorem zS {P:Program}{w:World}{K:PySem.W.Frag}{tg:Expr}(a it:Addr):Turn P w K tg (Itt K a) [it] it (fun i h=>h.IsTupleIter it a i) where
 mem:=by simp
 obj:=fun i h st b hb=>by
  have e:b=it:=by simpa using hb
  subst e;obtain⟨o,e,c,d⟩:=st;exact⟨o,e,fun v z=>by rw[d]at z;cases z⟩
 keep:=fun i h h' st k=>st.at fun o e=>k it (by simp) o e
 item:=by
  intro X hP hw hK hc i pins s σ H E I hf st hg;subst hP hw hK;obtain⟨xs,x,hq,hx⟩:=hg;obtain⟨its,rv,p,hz⟩:=I.tuple hq;obtain⟨u,hu,ru⟩:=rv.get hx;obtain⟨f0,f1,f2,f3,f4,f5⟩:=hf it (by simp)
  refine wpAny_pyNext_tuple_item st (show s.heap.IsTuple a its.toArray from p) (x:=u) (by simpa using hu) fun h' st' sb=>?_
  have I1:Inv X pins σ H { s with heap:=h' }:=I.turned (t':=s.toks) (fun b o hb e=>(sb.2 b hb).trans e) f0 f1 f3 f4 f5
  obtain⟨o,e,c,d⟩:=id st';exact⟨u,rfl,aAy (s:={ s with heap:=h' }) e c d (by decide) ⟨x,H,I1,ru,⟨rfl,fun ys hy=>by rw[I.tuple_inj hy hq];exact hx⟩,st',fun b hb=>(hf b hb).1⟩⟩
 done:=by
  intro X hP hw hK hc i pins s σ H E I hf st hg;subst hP hw hK;obtain⟨xs,hq,hx⟩:=hg;obtain⟨its,rv,p,hz⟩:=I.tuple hq;obtain⟨f0,f1,f2,f3,f4,f5⟩:=hf it (by simp)
  have hl:=rv.length;exact wpAny_pyNext_tuple_end (I.ok.hd hc) st (show s.heap.IsTuple a its.toArray from p) (by simp;omega) fun h' eb=>⟨rfl,I.turned (t':=s.toks) (fun b o hb e=>eb b o hb e) f0 f1 f3 f4 f5⟩
 self:=fun _ _ _ _ _ st h=>wpAny_pyIter_tupleiter st h
theorem aAf {P:Program}{w:World}{K:PySem.W.Frag}{tg:Expr}(it:Addr)(lo:Int)(n:Nat):Turn P w K tg (Itr lo n) [it] it (fun i h=>IsRangeIter h it (lo+(i:Nat)*1) ((n:Int)-(i:Nat)) 1) where
 mem:=by simp
 obj:=fun i h st b hb=>by
  have e:b=it:=by simpa using hb
  subst e
  exact⟨_,st,fun v z=>by
   have z':Data.fields _=Data.cell v:=z
   cases z'⟩
 keep:=fun i h h' st k=>k it (by simp) _ st
 item:=by
  intro X hP hw hK hc i pins s σ H E I hf st hg;subst hP hw hK;obtain⟨f0,f1,f2,f3,f4,f5⟩:=hf it (by simp)
  have W:=Walks.range (prog:=X.prog) (w:=X.w) (I.ok.hd hc) it lo 1 n;refine W.item i s _ _ hg st fun v h' tk hv st' kk=>?_
  obtain⟨t,rfl⟩:=hv;have I1:Inv X pins σ H { s with heap:=h',toks:=tk }:=I.turned (fun b o hb e=>kk b o (by simpa using hb) e) f0 f1 f3 f4 f5
  refine⟨_,rfl,aAy (s:={ s with heap:=h',toks:=tk }) (n:="range_iterator") st' rfl rfl (by decide) ⟨.int (lo+i),H,I1,⟨t,?_⟩,⟨rfl,rfl⟩,st',fun b hb=>(hf b hb).1⟩⟩
  rw[Int.mul_one]
 done:=by
  intro X hP hw hK hc i pins s σ H E I hf st hg;subst hP hw hK;obtain⟨f0,f1,f2,f3,f4,f5⟩:=hf it (by simp)
  exact wpAny_pyNext_range_end (I.ok.hd hc) st (by have:n<=i:=hg;omega) fun h' eb=>⟨rfl,I.turned (t':=s.toks) (fun b o hb e=>eb b o hb e) f0 f1 f3 f4 f5⟩
 self:=fun _ _ _ _ _ st h=>wpAny_pyIter_rangeiter st h
end L2
namespace L2
open PySem PySem.Spec PyProof.Rows
section
variable {X:Cx}{tg:Expr}
def aN0 (K:PySem.W.Frag)(tl:TE):TI:=fun σ H R=>tl σ H fun x H1=>∃ a,x=.ref a/\(∃ xs,SqL K H1 a xs)/\R (Itl K a) H1
def aQx (K:PySem.W.Frag)(tl:TE):TI:=fun σ H R=>tl σ H fun x H1=>∃ a,x=.ref a/\(∃ xs,SqT K H1 a xs)/\R (Itt K a) H1
theorem aHx {l:Expr}{tl:TE}(hl:PE X l tl):PI X tg l (aN0 X.K tl):=by
 intro pins s σ H R I h;refine thn (hl pins s σ H _ I h) fun v s1 ⟨x,H1,I1,r1,q1⟩=>?_
 obtain⟨a,e,⟨xs,hq⟩,q⟩:=q1;subst e;cases r1;obtain⟨its,rv,p,hz⟩:=I1.list hq;refine wpAny_pyIter_list p.isList ?_
 refine⟨s1.heap.objs.size,[s1.heap.objs.size],_,_,H1,rfl,I1.kept (t':=s1.toks) fun b o e=>Ad _ e,aB5 a _,⟨_,Aq _ rfl,rfl,rfl⟩,fun b hb=>?_,q⟩
 have e:b=s1.heap.objs.size:=by simpa using hb
 subst e;exact I1.fpOk (Af _) (I1.hok.fresh (Af _))
theorem aKu {l:Expr}{tl:TE}(hl:PE X l tl):PI X tg l (aQx X.K tl):=by
 intro pins s σ H R I h;refine thn (hl pins s σ H _ I h) fun v s1 ⟨x,H1,I1,r1,q1⟩=>?_
 obtain⟨a,e,⟨xs,hq⟩,q⟩:=q1;subst e;cases r1;obtain⟨its,rv,p,hz⟩:=I1.tuple hq;refine wpAny_pyIter_tuple (show s1.heap.IsTuple a its.toArray from p) ?_
 refine⟨s1.heap.objs.size,[s1.heap.objs.size],_,_,H1,rfl,I1.kept (t':=s1.toks) fun b o e=>Ad _ e,zS a _,⟨_,Aq _ rfl,rfl,rfl⟩,fun b hb=>?_,q⟩
 have e:b=s1.heap.objs.size:=by simpa using hb
 subst e;exact I1.fpOk (Af _) (I1.hok.fresh (Af _))
theorem zA {pins:List (Addr×Obj)}{σ:St}{H:Hp}{s:Shared}{R:It->Hp->Prop}{E:Value->Shared->Prop}{lo hi:Int}{t u v:Tok}{tk:Nat}(I:Inv X pins σ H s)(h1:-(2^62)<=lo)(h2:lo<2^62)(h3:-(2^62)<=hi)(h4:hi<2^62)
 (q:R (Itr lo (hi-lo).toNat) H):wpAny (model X.prog X.w) X.A (pyIter (.ref s.heap.objs.size)) (PIE X pins σ tg R) E { s with heap:=s.heap.push { cls:=.type "range",data:=.fields #[.int lo t,.int hi u,.int 1 v] },toks:=tk }:=by
 refine wpAny_pyIter_range (IsRange.new ..) (small_one h1 h2 h3 h4) ?_
 have I1:Inv X pins σ H { s with heap:=s.heap.push { cls:=.type "range",data:=.fields #[.int lo t,.int hi u,.int 1 v] },toks:=tk }:=I.kept fun b o e=>Ad _ e
 refine⟨(s.heap.push { cls:=.type "range",data:=.fields #[.int lo t,.int hi u,.int 1 v] }).objs.size,[(s.heap.push { cls:=.type "range",data:=.fields #[.int lo t,.int hi u,.int 1 v] }).objs.size],_,_,H,rfl,
  I1.kept (t':=tk) fun b o e=>Ad _ e,aAf _ lo (hi-lo).toNat,?_,fun b hb=>?_,q⟩
 · have e1:lo+((0:Nat):Int)*1=lo:=by simp
   have e2:(((hi-lo).toNat:Nat):Int)-((0:Nat):Int)=Builtin.Range.rangeSize lo hi 1:=by rw[rangeSize_one];split<;>omega
   show IsRangeIter _ _ (lo+((0:Nat):Int)*1) ((((hi-lo).toNat:Nat):Int)-((0:Nat):Int)) 1
   rw[e1,e2];exact Aq _ rfl
 · have e:b=(s.heap.push { cls:=.type "range",data:=.fields #[.int lo t,.int hi u,.int 1 v] }).objs.size:=by simpa using hb
   subst e;exact I1.fpOk (Af _) (I1.hok.fresh (Af _))
def aP4 (ta:TA):TI:=fun σ H R=>ta σ H fun vs H1=>∃ j:Int,vs=[.int j]/\-(2^62)<=j/\j<2^62/\R (Itr 0 j.toNat) H1
def aOs (ta:TA):TI:=fun σ H R=>ta σ H fun vs H1=>∃ i j:Int,vs=[.int i,.int j]/\(-(2^62)<=i/\i<2^62/\-(2^62)<=j/\j<2^62)/\R (Itr i (j-i).toNat) H1
theorem aB2 {a:Expr}{ta:TA}{p pos:Pos}(hg:Gl X "range")(hm:X.mg "range" = none)(ha:PA X [a] ta)(hs:starEach [a] X.env=[(false,eval a X.env)]:=by rfl):PI X tg (.Call (.Name "range" p) [a] [] pos) (aP4 ta):=by
 intro pins s σ H R I h;refine Call_ (lM I hg hm boot_range (Ch (thn (ha pos pins s σ H _ I h) fun us s1 ⟨vs,H1,I1,r1,q1⟩=>?_) hs rfl))
 obtain⟨j,e,q1,q2,q⟩:=q1;subst e;cases r1 with
 | cons r rr =>
  cases rr;obtain⟨t,rfl⟩:=r;exact call_range_1 (zA I1 (by omega) (by omega) q1 q2 (by simpa using q))
theorem aCg {a b:Expr}{ta:TA}{p pos:Pos}(hg:Gl X "range")(hm:X.mg "range" = none)(ha:PA X [a,b] ta)(hs:starEach [a,b] X.env=[(false,eval a X.env),(false,eval b X.env)]:=by rfl)(hs2:starEach [b] X.env=[(false,eval b X.env)]:=by rfl) :
 PI X tg (.Call (.Name "range" p) [a,b] [] pos) (aOs ta):=by
 intro pins s σ H R I h;refine Call_ (lM I hg hm boot_range (Ch (thn (ha pos pins s σ H _ I h) fun us s1 ⟨vs,H1,I1,r1,q1⟩=>?_) (by rw[hs,hs2]) (by rw[hs2];rfl)))
 obtain⟨i,j,e,⟨q1,q2,q3,q4⟩,q⟩:=q1;subst e;cases r1 with
 | cons r rr =>
  cases rr with
  | cons r' rr =>
   cases rr;obtain⟨t,rfl⟩:=r;obtain⟨t',rfl⟩:=r';exact call_range_2 (zA I1 q1 q2 q3 q4 q)
def aQf (wi:TI)(g:TG)(tb:TS):TS:=fun D σ H=>wi σ H fun J H1=>∃ W:Nat->Nat->St->Hp->Prop,(∃ m,W 0 m σ H1)/\∀ i m σ H,W i m σ H ->
 (J.stop i H/\D.nx σ H)\/(J.go i H/\∃ N:St->Hp->Prop,(∀ σ' H',N σ' H'->∃ m',m'<m/\W (i+1) m' σ' H')/\∀ x H',J.yld i H x H'->g x σ H' fun σ2 H2=>tb { D with nx:=N,ct:=N,bk:=D.nx } σ2 H2)
def rH (fp:List Addr)(h:Heap):List (Addr×Obj):=fp.filterMap fun b=>(h.get? b).map fun o=>(b,o)
theorem gX {fp:List Addr}{h:Heap}{b:Addr}{o:Obj}(hb:b∈fp)(e:h.get? b=some o):(b,o)∈rH fp h:=Fb.mpr ⟨b,hb,by rw[e];rfl⟩
theorem aDc {fp:List Addr}{h:Heap}{p:Addr×Obj}(hp:p∈rH fp h):p.1∈fp/\h.get? p.1=some p.2:=by
 obtain⟨b,hb,e⟩:=Fb.mp hp;cases q:h.get? b with
 | none=>rw[q]at e;cases e
 | some o =>
  rw[q]at e;have e':(b,o)=p:=Cg.inj e;subst e';exact⟨hb,q⟩
theorem Inv.pinned {pins:List (Addr×Obj)}{σ:St}{H:Hp}{s:Shared}{fp:List Addr}(I:Inv X pins σ H s)(hf:∀ b∈fp,lJ X pins H b)(ho:∀ b∈fp,∃ o,s.heap.get? b=some o/\∀ v,o.data≠.cell v):Inv X (pins++rH fp s.heap) σ H s :=
 I.pins_of fun p hp=>(Bg.mp hp).elim (fun z=>I.pin p (Aw _ z)) fun z=>by
  obtain⟨hb,e⟩:=aDc z;obtain⟨f0,f1,f2,_⟩:=hf p.1 hb;obtain⟨o,e',d⟩:=ho p.1 hb;rw[e]at e';cases e';exact⟨e,f0,f1,f2,d⟩
theorem Inv.unpinned {pins pl:List (Addr×Obj)}{σ:St}{H:Hp}{s:Shared}(I:Inv X (pins++pl) σ H s):Inv X pins σ H s:=I.pins_of fun p hp=>I.pin p (Aw _ (Dw _ hp))
theorem aMm {iter:Expr}{body:List Stmt}{wi:TI}{g:TG}{tb:TS}{pos:Pos}(hp:PassesOwn (model X.prog X.w) X.A X.env X.xe)(hc:X.calm=true)(hi:PI X tg iter wi)(hg:PG X tg g)(hb:PSs X body tb)
 (hs:∀ x,foldedSetIterable iter X.env x=pure x:=by intro _;rfl):PS X (.For tg iter body [] pos) (aQf wi g tb):=by
 intro pins s σ H D I h;refine wpAny_For (thn (hi pins s σ H _ I h) fun v s1 h1=>thn h1 fun itv s2 h2=>?_) hs
 obtain⟨it,fp,tn,J,H2,e,I2,T,st2,f2,W,⟨m0,w0⟩,turn⟩:=h2;subst e;have stat:∀ {H':Hp},(∀ b∈fp,H' b=none)->∀ b∈fp,lJ X pins H' b:=fun hn b hb=>⟨hn b hb,(f2 b hb).2⟩;refine codeAny_forLoop_any (fun n s'=>∃ i σ' H',Inv X pins σ' H' s'/\tn i s'.heap/\(∀ b∈fp,H' b=none)/\W i n σ' H') ?_ m0 ⟨0,σ,H2,I2,st2,fun b hb=>(f2 b hb).1,w0⟩
 rintro n s3 ⟨i,σ3,H3,I3,st3,fr3,w3⟩
 rcases turn i n σ3 H3 w3 with ⟨stop,qn⟩ | ⟨go,N,hN,step⟩
 · refine wpAny_passesOwn hp (thn (T.done X rfl rfl rfl hc i pins s3 σ3 H3 X.xe I3 (stat fr3) st3 stop) fun r s4 ⟨hr,I4⟩=>?_)
   subst hr;exact wpAny_execs_nil ⟨σ3,H3,I4,qn⟩
 · refine wpAny_passesOwn hp (thn (T.item X rfl rfl rfl hc i pins s3 σ3 H3 X.xe I3 (stat fr3) st3 go) fun r s4 ⟨u,hr,h4⟩=>?_)
   subst hr;refine wpAny_passesOwn hp (thn h4 fun _ s5 ⟨x,H5,I5,r5,y5,st5,fr5⟩=>?_)
   have I5':=I5.pinned (stat fr5) (T.obj _ _ st5);refine wpAny_passesOwn hp (thn (hg _ s5 σ3 H5 x u _ I5' r5 (step x H5 y5)) fun _ s6 ⟨σ6,H6,I6,q6⟩=>?_)
   refine wpAny_passesOwn hp (thn (hb _ s6 σ6 H6 _ I6 q6) fun f s7 q7=>?_)
   have again:∀ {σ7:St} {H7:Hp},Inv X (pins++rH fp s5.heap) σ7 H7 s7->N σ7 H7->∃ m,m<n/\∃ i σ' H',Inv X pins σ' H' s7/\tn i s7.heap/\(∀ b∈fp,H' b=none)/\W i m σ' H':=fun {σ7 H7} I7 n7=>by
    obtain⟨m',hm,w7⟩:=hN σ7 H7 n7;refine⟨m',hm,i+1,σ7,H7,I7.unpinned,T.keep _ _ _ st5 fun b hb o e=>(I7.pin (b,o) (Aw _ (Aw _ (gX hb e)))).1,fun b hb=>?_,w7⟩
    obtain⟨o,e,d⟩:=T.obj _ _ st5 b hb;exact(I7.pin (b,o) (Aw _ (Aw _ (gX hb e)))).2.1
   cases f with
   | next=>obtain⟨σ7,H7,I7,n7⟩:=q7;exact again I7 n7
   | cont=>obtain⟨σ7,H7,I7,n7⟩:=q7;exact again I7 n7
   | brk=>obtain⟨σ7,H7,I7,q7⟩:=q7;exact⟨σ7,H7,I7.unpinned,q7⟩
   | ret v=>obtain⟨x7,σ7,H7,I7,r7,q7⟩:=q7;exact⟨x7,σ7,H7,I7.unpinned,r7,q7⟩
end
end L2
namespace L2
open PySem PySem.Spec PyProof.Rows
abbrev R2:=V->V->Hp->VK->Prop
def OpR (X:Cx)(f:Value->Value->Sem Value)(r:R2):Prop :=
 ∀ (pins:List (Addr×Obj)) (s:Shared) (σ:St) (H:Hp) (x y:V) (v u:Value) (Q:VK),Inv X pins σ H s->bI x v->bI y u->r x y H Q ->
  wpAny (model X.prog X.w) X.A (f v u) (EP X pins σ Q) X.xe s
def UnR (X:Cx)(f:Value->Sem Value)(r:V->Hp->VK->Prop):Prop :=
 ∀ (pins:List (Addr×Obj)) (s:Shared) (σ:St) (H:Hp) (x:V) (v:Value) (Q:VK),Inv X pins σ H s->bI x v->r x H Q ->
  wpAny (model X.prog X.w) X.A (f v) (EP X pins σ Q) X.xe s
def iO (X:Cx)(f:Value)(r:List V->Hp->VK->Prop):Prop :=
 ∀ (pins:List (Addr×Obj)) (s:Shared) (σ:St) (H:Hp) (xs:List V) (us:List Value) (Q:VK),Inv X pins σ H s->bH xs us->r xs H Q ->
  wpAny (model X.prog X.w) X.A (call f us) (EP X pins σ Q) X.xe s
def aQk (X:Cx)(r:V->Hp->(Bool->Hp->Prop)->Prop):Prop :=
 ∀ (pins:List (Addr×Obj)) (s:Shared) (σ:St) (H:Hp) (x:V) (v:Value) (Q:Bool->Hp->Prop),Inv X pins σ H s->bI x v->r x H Q ->
  wpAny (model X.prog X.w) X.A (truthy v) (TP X pins σ Q) X.xe s
def tOp (r:R2)(ta tb:TE):TE:=fun σ H Q=>ta σ H fun x H1=>tb σ H1 fun y H2=>r x y H2 Q
def tUn (r:V->Hp->VK->Prop)(ta:TE):TE:=fun σ H Q=>ta σ H fun x H1=>r x H1 Q
def rI (C:Int->Int->Prop)(g:Int->Int->V):R2:=fun x y H Q=>∃ i j,x=.int i/\y=.int j/\C i j/\Q (g i j) H
def rI0 (g:Int->Int->V):R2:=fun x y H Q=>∃ i j,x=.int i/\y=.int j/\Q (g i j) H
def rU (g:Int->V):V->Hp->VK->Prop:=fun x H Q=>∃ i,x=.int i/\Q (g i) H
section
variable {X:Cx}{a b c:Expr}{ta tb tc:TE}{pos:Pos}
theorem aLi (ha:PE X a ta)(hb:PE X b tb){pins:List (Addr×Obj)}{s:Shared}{σ:St}{H:Hp}{R:V->V->Hp->Prop}(I:Inv X pins σ H s)
 (h:ta σ H fun x H1=>tb σ H1 fun y H2=>R x y H2) {Q:Value->Shared->Prop} {f:Value->Value->Sem Value}
 (hf:∀ v u s2 x y H2,Inv X pins σ H2 s2->bI x v->bI y u->R x y H2->wpAny (model X.prog X.w) X.A (f v u) Q X.xe s2) :
 wpAny (model X.prog X.w) X.A (eval a X.env) (fun v s₁=>wpAny (model X.prog X.w) X.A (eval b X.env) (fun u s₂=>wpAny (model X.prog X.w) X.A (f v u) Q X.xe s₂) X.xe s₁) X.xe s:=by
 refine thn (ha pins s σ H _ I h) fun v s1 ⟨x,H1,I1,r1,q1⟩=>?_
 refine thn (hb pins s1 σ H1 _ I1 q1) fun u s2 ⟨y,H2,I2,r2,q2⟩=>?_
 exact hf v u s2 x y H2 I2 r1 r2 q2
theorem aGv {op:Operator}{r:R2}(ho:OpR X (binaryOp op) r)(ha:PE X a ta)(hb:PE X b tb):PE X (.BinOp a op b pos) (tOp r ta tb):=by
 intro pins s σ H Q I h;exact wpAny_BinOp (aLi ha hb I h fun v u s2 x y H2 I2 rx ry q=>ho pins s2 σ H2 x y v u Q I2 rx ry q)
theorem aPg {op:UnaryOp}{r:V->Hp->VK->Prop}(ho:UnR X (unaryOp op) r)(ha:PE X a ta):PE X (.UnaryOp op a pos) (tUn r ta):=by
 intro pins s σ H Q I h;exact UnaryOp_ (thn (ha pins s σ H _ I h) fun v s1 ⟨x,H1,I1,r1,q1⟩=>ho pins s1 σ H1 x v Q I1 r1 q1)
theorem opI {f:Value->Value->Sem Value}{C:Int->Int->Prop}{g:Int->Int->Int}
 (rule:∀ (i j:Int) (t u:Tok) (s:Shared) (Q:Value->Shared->Prop) (E:Value->Shared->Prop),C i j->Q (.int (g i j) s.toks) { s with toks:=s.toks+1 }->wpAny (model X.prog X.w) X.A (f (.int i t) (.int j u)) Q E s) :
 OpR X f (rI C fun i j=>.int (g i j)):=by
 intro pins s σ H x y v u Q I rx ry h;obtain⟨i,j,rfl,rfl,hc,q⟩:=h;obtain⟨t,rfl⟩:=rx;obtain⟨t',rfl⟩:=ry;exact rule i j t t' s _ _ hc ⟨.int (g i j),H,I.tok _,⟨_,rfl⟩,q⟩
theorem aOq {f:Value->Value->Sem Value}{g:Int->Int->Int}
 (rule:∀ (i j:Int) (t u:Tok) (s:Shared) (Q:Value->Shared->Prop) (E:Value->Shared->Prop),Q (.int (g i j) s.toks) { s with toks:=s.toks+1 }->wpAny (model X.prog X.w) X.A (f (.int i t) (.int j u)) Q E s) :
 OpR X f (rI0 fun i j=>.int (g i j)):=by
 intro pins s σ H x y v u Q I rx ry h;obtain⟨i,j,rfl,rfl,q⟩:=h;obtain⟨t,rfl⟩:=rx;obtain⟨t',rfl⟩:=ry;exact rule i j t t' s _ _ ⟨.int (g i j),H,I.tok _,⟨_,rfl⟩,q⟩
theorem aIq {f:Value->Value->Sem Value}{g:Int->Int->Bool}
 (rule:∀ (i j:Int) (t u:Tok) (s:Shared) (Q:Value->Shared->Prop) (E:Value->Shared->Prop),Q (.bool (g i j)) s->wpAny (model X.prog X.w) X.A (f (.int i t) (.int j u)) Q E s) :
 OpR X f (rI0 fun i j=>.bl (g i j)):=by
 intro pins s σ H x y v u Q I rx ry h;obtain⟨i,j,rfl,rfl,q⟩:=h;obtain⟨t,rfl⟩:=rx;obtain⟨t',rfl⟩:=ry;exact rule i j t t' s _ _ ⟨.bl (g i j),H,I,rfl,q⟩
def aQl (i j:Int):Prop:=0<=j/\j<=1000000/\i.natAbs<2^64
theorem aLn:OpR X (binaryOp .Add) (rI0 fun i j=>.int (i+j)):=aOq fun _ _ _ _ _ _ _ q=>add_int q
theorem aK6:OpR X (binaryOp .Sub) (rI0 fun i j=>.int (i-j)):=aOq fun _ _ _ _ _ _ _ q=>sub_int q
theorem aK3:OpR X (binaryOp .Mod) (rI (fun _ j=>0<j) fun i j=>.int (i%j)):=opI fun i j _ _ _ _ _ hc q=>by
 have h1:(0:Int)<j:=hc;exact mod_int' (by omega) (by rw[Int.fmod_eq_emod_of_nonneg i (by omega)];exact q)
theorem aM8:OpR X (binaryOp .Pow) (rI aQl fun i j=>.int (i^j.toNat)):=opI fun _ _ _ _ _ _ _ hc q=>pow_int_small hc.1 hc.2.1 hc.2.2 q
theorem unI {f:Value->Sem Value}{g:Int->Int}
 (rule:∀ (i:Int) (t:Tok) (s:Shared) (Q:Value->Shared->Prop) (E:Value->Shared->Prop),Q (.int (g i) s.toks) { s with toks:=s.toks+1 }->wpAny (model X.prog X.w) X.A (f (.int i t)) Q E s) :
 UnR X f (rU fun i=>.int (g i)):=by
 intro pins s σ H x v Q I rx h;obtain⟨i,rfl,q⟩:=h;obtain⟨t,rfl⟩:=rx;exact rule i t s _ _ ⟨.int (g i),H,I.tok _,⟨_,rfl⟩,q⟩
theorem aMt:UnR X (unaryOp .USub) (rU fun i=>.int (-i)):=unI fun _ _ _ _ _ q=>neg_int q
end
section
variable {X:Cx}{a b c:Expr}{ta tb tc:TE}{pos:Pos}
theorem aMh {pins:List (Addr×Obj)}{σ:St}{H:Hp}{s:Shared}{Q:VK}{k k':Bool}(I:Inv X pins σ H s)(q:Q (.bl k) H)(e:k=k'):EP X pins σ Q (.bool k') s:=by
 subst e;exact⟨.bl k,H,I,rfl,q⟩
theorem aNv:OpR X (compareOp .Lt) (rI0 fun i j=>.bl (decide (i<j))):=aIq fun _ _ _ _ _ _ _ q=>lt_int q
theorem aPn:OpR X (compareOp .LtE) (rI0 fun i j=>.bl (decide (i<=j))):=aIq fun _ _ _ _ _ _ _ q=>le_int q
theorem aO5:OpR X (compareOp .Gt) (rI0 fun i j=>.bl (decide (j<i))):=aIq fun _ _ _ _ _ _ _ q=>gt_int q
theorem aOr:OpR X (compareOp .GtE) (rI0 fun i j=>.bl (decide (j<=i))):=aIq fun _ _ _ _ _ _ _ q=>ge_int q
theorem kB (b:Expr){op:CmpOp}(h:op≠.In:=by decide)(h2:op≠.NotIn:=by decide):behindInMarks op b=false:=by
 have e1:(op==CmpOp.In)=false:=by cases op<;>first | rfl | exact absurd rfl h
 have e2:(op==CmpOp.NotIn)=false:=by cases op<;>first | rfl | exact absurd rfl h2
 cases b<;>simp[behindInMarks,e1,e2]
theorem aI7 {op:CmpOp}{r:R2}(ho:OpR X (compareOp op) r)(ha:PE X a ta)(hb:PE X b tb)(hm:behindInMarks op b=false):PE X (.Compare a [op] [b] pos) (tOp r ta tb):=by
 intro pins s σ H Q I h;exact wpAny_Compare1 (aLi ha hb I h fun v u s2 x y H2 I2 rx ry q=>ho pins s2 σ H2 x y v u Q I2 rx ry q) hm
def aPl (t:TE):TT:=fun σ H Q=>t σ H fun x H'=>∃ k,x=.bl k/\Q k H'
theorem aI2 {op:CmpOp}{r:R2}(ho:OpR X (compareOp op) r)(ha:PE X a ta)(hb:PE X b tb)(hm:behindInMarks op b=false):PT X (.Compare a [op] [b] pos) (aPl (tOp r ta tb)):=by
 intro pins s σ H Q I h
 refine wpAny_isTrue_Compare1 (thn (ha pins s σ H _ I h) fun v s1 ⟨x,H1,I1,r1,q1⟩=>thn (hb pins s1 σ H1 _ I1 q1) fun u s2 ⟨y,H2,I2,r2,q2⟩ =>
  thn (ho pins s2 σ H2 x y v u _ I2 r1 r2 q2) fun c s3 ⟨z,H3,I3,r3,k,e,q3⟩=>?_) hm
 subst e;cases r3;exact wpAny_truthy_bool ⟨H3,I3,q3⟩
def aN5 (K:PySem.W.Frag)(x:V)(H:Hp)(k:Bool):Prop :=
 match x with
 | .non=>k=false
 | .bl b=>k=b
 | .int i=>k=(i != 0)
 | .str y=>y.length<=sizeLine/\k=((y.length:Int) != 0)
 | .byt y=>y.size<=sizeLine/\k=((y.size:Int) != 0)
 | .ref p=>(∃ xs,SqL K H p xs/\k=!xs.isEmpty)\/(∃ xs,SqT K H p xs/\k=!xs.isEmpty)\/∃ kvs,H p=some (.dK kvs)/\k=!kvs.isEmpty
 | _=>False
theorem aAe {κ:Type}{kvs:List (κ×V)}{vs:List (κ×Value)}(r:KV kvs vs):(!vs.isEmpty)=!kvs.isEmpty:=by
 cases r<;>rfl
theorem qB {xs:List V}{its:List Value}(r:bH xs its):(!its.toArray.isEmpty)=!xs.isEmpty:=by
 cases r<;>simp
theorem vZ:(sizeLine:Nat)<2^63:=by rw[sizeLine_eq];decide
theorem aAg:aQk X (fun x H Q=>∃ k,aN5 X.K x H k/\Q k H):=by
 intro pins s σ H x v Q I rx h;obtain⟨k,e,q⟩:=h;have hl:=vZ;have hs:sizeLine=16777216:=sizeLine_eq;cases x with
 | non =>
  cases rx;have e':k=false:=e;subst e';exact truthy_none ⟨H,I,q⟩
 | bl b =>
  cases rx;have e':k=b:=e;subst e';exact wpAny_truthy_bool ⟨H,I,q⟩
 | int i =>
  obtain⟨t,rfl⟩:=rx;have e':k=(i != 0):=e;subst e';exact PySem.P.truthy_int ⟨H,I,q⟩
 | str y =>
  obtain⟨t,rfl⟩:=rx;obtain⟨hy,e'⟩:y.length<=sizeLine/\k=((y.length:Int) != 0):=e;subst e';exact PySem.P.truthy_str (by omega) ⟨H,I.tok _,q⟩
 | byt y =>
  obtain⟨t,rfl⟩:=rx;obtain⟨hy,e'⟩:y.size<=sizeLine/\k=((y.size:Int) != 0):=e;subst e';exact PySem.W.truthy_bytes (by omega) ⟨H,I.tok _,q⟩
 | ref p =>
  cases rx;have e':(∃ xs,SqL X.K H p xs/\k=!xs.isEmpty)\/(∃ xs,SqT X.K H p xs/\k=!xs.isEmpty)\/∃ kvs,H p=some (.dK kvs)/\k=!kvs.isEmpty:=e;rcases e' with ⟨xs,hx,e'⟩ | ⟨xs,hx,e'⟩ | ⟨kvs,hx,e'⟩
  · subst e'
    obtain⟨its,r,pl,hz⟩:=I.list hx;have hlen:=r.length;exact wpAny_truthy_list pl.isList (by simp only[Ag];omega) ⟨H,I.tok _,by rw[qB r];exact q⟩
  · subst e'
    obtain⟨its,r,pl,hz⟩:=I.tuple hx;have hlen:=r.length;exact truthy_tuple pl (by simp only[Ag];omega) ⟨H,I.tok _,by rw[qB r];exact q⟩
  · subst e'
    obtain⟨hz,hS,vs,r,m⟩:kvs.length<=sizeLine/\(p==sysModules)=false/\∃ vs,KV kvs vs/\s.heap.DictOf (cU X.prog X.w) p vs:=I.hok p _ hx;have hlen:kvs.length=vs.length:=Paired.length r;exact wpAny_truthy_dict hS m (by omega) ⟨H,I.tok _,by rw[aAe r];exact q⟩
 | _=>exact(show False from e).elim
theorem aDr (ha:PE X a ta)(he:∀ whole,isTrue a X.env whole=(do let v ← whole;standAt a.pos;holding [v] (truthy v))) :
 PT X a (fun σ H Q=>ta σ H fun x H'=>∃ k,aN5 X.K x H' k/\Q k H'):=by
 intro pins s σ H Q I h;exact isTrue_plain (thn (ha pins s σ H _ I h) fun v s1 ⟨x,H1,I1,r1,q1⟩=>aAg pins s1 σ H1 x v Q I1 r1 q1) (he _)
theorem lC {x:V}{us:List Value}(r:bH [x] us):∃ u,us=[u]/\bI x u:=by
 cases r with
 | cons r1 r2=>cases r2;exact⟨_,rfl,r1⟩
theorem aAt {x y:V}{us:List Value}(r:bH [x,y] us):∃ u w',us=[u,w']/\bI x u/\bI y w':=by
 cases r with
 | cons r1 r2 =>
  cases r2 with
  | cons r3 r4=>cases r4;exact⟨_,_,rfl,r1,r3⟩
end
end L2
namespace L2
open PySem PySem.Spec PyProof.Rows
structure ObjM (h:Heap)(x dx C:Addr)(mA:Str->Option Value):Prop where
 obj:h.get? x=some (Fs C dx)
 ns:h.Ns1 dx mA
 ne:dx≠x
theorem aC3 {h:Heap}{dx:Addr}{mA:Str->Option Value}(n:h.Ns1 dx mA):∃ od,h.get? dx=some od/\∀ name,Fz name od=some (mA name):=by
 obtain⟨o,es,ep,ho,hd,hk,_,hm⟩:=n;refine⟨o,ho,fun name=>?_⟩
 have e:=hm name;unfold nsFind findBy at e;rw[←Array.find?_toList]at e;unfold Fz;rw[hd];dsimp only
 split
 · rename_i y q
   rw[q]at e;exact congrArg some e
 · rename_i q
   rw[q]at e
   have a:es.toList.any (·.refKey)=false:=by
    rw[List.any_eq_false];intro y hy;obtain⟨z,t,hkey⟩:=hk y (Array.mem_toList_iff.mp hy);simp[DictEntry.refKey,hkey]
   have a':¬ es.toList.any (·.refKey)=true:=by rw[a];exact Bb
   rw[if_neg a'];exact congrArg some e
theorem ObjM.look {h:Heap}{x dx C:Addr}{mA:Str->Option Value}(I:ObjM h x dx C mA):∃ od,PySem.W.InstAt h x (Fs C dx) C (some od)/\∀ name,Fz name od=some (mA name) :=
 let ⟨od,ho,hl⟩:=aC3 I.ns
 ⟨od,⟨I.obj,rfl,rfl,ho⟩,hl⟩
theorem nP.some_of {v:V}{o:Option Value}(r:nP (some v) o):∃ u,o=some u/\bI v u:=by
 cases o with
 | none=>exact(show False from r).elim
 | some u=>exact⟨u,rfl,r⟩
section
variable {P:Program}{w:World}{H H':Hp}{h h':Heap}{a C dx:Addr}{fs fs':List (Str×V)}
theorem aIk (hok:HOk P w H h)(e:H a=some (.ins C dx fs)):∃ mA,ObjM h a dx C mA/\(∀ f,nP (fs.lookup f) (mA f))/\PySem.Within mA (fs.map (·.1))/\fs.length<=1000/\H dx=some (.own a):=by
 obtain⟨d,z,ne,ob,mA,n,r,q⟩:=(show bN P w H h a (.ins C dx fs) from hok a _ e)
 exact⟨mA,⟨ob,n,ne⟩,r,q,z,d⟩
end
structure Cls (K:PySem.W.Frag)(C:Addr):Prop where
 pg:PySem.W.plainGet K C Str.empty=true
 hd:PySem.W.hasDictIn K C=true
 po:PySem.W.plainOver K C=true
 sa:Cw K (.ref C) "__setattr__" = some (some (.builtin "object.__setattr__"))
theorem Cls.get {K:PySem.W.Frag}{C:Addr}(c:Cls K C)(f:Str):PySem.W.plainGet K C f=true:=c.pg
section
variable {X:Cx}{pins:List (Addr×Obj)}{σ:St}{H:Hp}{s:Shared}{A:Around}{E:Value->Shared->Prop}{Q:Value->Shared->Prop}{c:Value}{b:Bool}
inductive TyOf (K:PySem.W.Frag) (H:Hp):V->Value->Prop where
 | non:TyOf K H .non (.type "NoneType")
 | bl (x:Bool):TyOf K H (.bl x) (.type "bool")
 | int (i:Int):TyOf K H (.int i) (.type "int")
 | str (x:Str):TyOf K H (.str x) (.type "str")
 | flt (x:UInt64):TyOf K H (.flt x) (.type "float")
 | lst {a:Addr} {xs:List V} (e:H a=some (.lst xs)):TyOf K H (.ref a) (.type "list")
 | frz {a:Addr} {o:Obj} {xs:List V} (e:H a=some (.frz o (.lst xs))):TyOf K H (.ref a) (.type "list")
 | tup {a:Addr} {xs:List V} (e:H a=some (.tup xs)):TyOf K H (.ref a) (.type "tuple")
 | dK {a:Addr} {kvs:List (Key×V)} (e:H a=some (.dK kvs)):TyOf K H (.ref a) (.type "dict")
 | dT {a:Addr} {kvs:List (List Key×V)} (e:H a=some (.dT kvs)):TyOf K H (.ref a) (.type "dict")
 | ins {a C dx:Addr} {fs:List (Str×V)} (e:H a=some (.ins C dx fs)) (cl:Cls K C) (ha:Cw K (.ref C) "__class__" = some (some (.builtin "object.__class__")))
  (hn:PySem.W.specialIn K (.builtin "object.__class__") "__get__" = some (some (.builtin "getset_descriptor.__get__"))) (htk:PySem.W.takesIn K (.builtin "object.__class__")=some true)
  (hm:Fi K C (.type "object")=some true):TyOf K H (.ref a) (.ref C)
theorem uG {x:V}{u t:Value}(I:Inv X pins σ H s)(rx:bI x u)(ty:TyOf X.K H x t)(e:Bi X.K t c=some b)(h:∀ tk,Q (.bool b) { s with toks:=tk }) :
 wpAny (model X.prog X.w) A (call (.builtin "isinstance") [u,c]) Q E s:=by
 cases ty with
 | non=>cases (show u=Value.none from rx);exact Bw PySem.W.kitx_none I.kIn True.intro e (fun z=>nomatch z) h
 | bl y=>cases (show u=Value.bool y from rx);exact Bw PySem.W.kitx_bool I.kIn True.intro e (fun z=>nomatch z) h
 | int i=>obtain⟨t,q⟩:=(show ∃ t,u=Value.int i t from rx);cases q;exact Bw PySem.W.kitx_int I.kIn True.intro e (fun z=>nomatch z) h
 | str y=>obtain⟨t,q⟩:=(show ∃ t,u=Value.str y t from rx);cases q;exact Bw PySem.W.kitx_str I.kIn True.intro e (fun z=>nomatch z) h
 | flt y=>obtain⟨t,q⟩:=(show ∃ t,u=Value.float y t from rx);cases q;exact Bw PySem.W.kitx_float I.kIn True.intro e (fun z=>nomatch z) h
 | @lst a xs ea =>
  cases (show u=Value.ref a from rx)
  obtain⟨_,_,n,_,h1⟩:=(show bN X.prog X.w H s.heap a (.lst xs) from I.hok a _ ea)
  exact Bw PySem.W.kitx_list I.kIn ⟨_,h1,rfl⟩ e (fun z=>nomatch z) h
 | @frz a ob xs ea =>
  cases (show u=Value.ref a from rx)
  obtain⟨_,_,_,n,_,h1⟩:=(show bN X.prog X.w H s.heap a (.frz ob (.lst xs)) from I.hok a _ ea)
  exact Bw PySem.W.kitx_list I.kIn ⟨_,h1,rfl⟩ e (fun z=>nomatch z) h
 | @tup a xs ea =>
  cases (show u=Value.ref a from rx)
  obtain⟨_,_,_,p⟩:=(show bN X.prog X.w H s.heap a (.tup xs) from I.hok a _ ea)
  obtain⟨o,h1,h2,_⟩:=p;exact Bw PySem.W.kitx_tuple I.kIn ⟨o,h1,h2⟩ e (fun z=>nomatch z) h
 | @dK a kvs ea =>
  cases (show u=Value.ref a from rx)
  obtain⟨_,_,vs,_,p⟩:=(show bN X.prog X.w H s.heap a (.dK kvs) from I.hok a _ ea)
  obtain⟨o,es,ep,h1,h2,_⟩:=p;exact Bw PySem.W.kitx_dict I.kIn ⟨o,h1,h2.1⟩ e (fun z=>nomatch z) h
 | @dT a kvs ea =>
  cases (show u=Value.ref a from rx)
  obtain⟨_,_,xs,_,o,es,ep,h1,h2,_⟩:=(show bN X.prog X.w H s.heap a (.dT kvs) from I.hok a _ ea)
  exact Bw PySem.W.kitx_dict I.kIn ⟨o,h1,h2.1⟩ e (fun z=>nomatch z) h
 | @ins a C dx fs ea cl ha hn htk hm =>
  cases (show u=Value.ref a from rx)
  obtain⟨mA,O,_⟩:=aIk I.hok ea;obtain⟨od,J,_⟩:=O.look;exact Bw (PySem.W.kitx_own (cl.get _) cl.hd ha hn htk hm) I.kIn J e (fun z=>nomatch z) h
end
end L2
namespace L2
open PySem PySem.Spec PyProof.Rows
structure Room (k:Nat)(A:Around):Prop where
 hd:A.handled=none
 dp:A.depth+3*k+5<recursionLimit
 un:A.units+16*k+200<cLine
theorem Room.mono {j k:Nat}{A:Around}(r:Room k A)(h:j<=k):Room j A:=⟨r.hd,by have:=r.dp;omega,by have:=r.un;omega⟩
theorem Room.deeper {k:Nat}{A:Around}(r:Room (k+1) A)(env:Env):Room k (A.deeper env) :=
 ⟨r.hd,by have:=r.dp;show A.depth+1+3*k+5<_;omega,by have:=r.un;show A.units+3+16*k+200<_;omega⟩
theorem Room.depth {k:Nat}{A:Around}(r:Room k A):A.depth<recursionLimit:=by have:=r.dp;omega
theorem Room.units {k:Nat}{A:Around}(r:Room k A):A.units+64<cLine:=by have:=r.un;omega
def aQj:TA:=fun _ H Q=>Q [] H
def aPy (ta:TE)(tr:TA):TA:=fun σ H Q=>ta σ H fun x H1=>tr σ H1 fun xs H2=>Q (x :: xs) H2
section
variable {X:Cx}{e:Expr}{es:List Expr}{te:TE}{t:TA}{pos:Pos}
theorem lR:PA X [] aQj:=fun _ _ _ _ H Q I h=>Calls.spliced_nil ⟨[],H,I,.nil,h⟩
theorem fY (ha:PE X e te)(hr:PA X es t)(hs:starEach (e :: es) X.env=(false,eval e X.env) :: starEach es X.env:=by rfl):PA X (e :: es) (aPy te t):=by
 intro pos pins s σ H Q I h;rw[hs];show wpAny _ _ (spliced ((false,eval e X.env) :: backTo pos (starEach es X.env))) _ _ s
 refine Calls.spliced_cons (thn (ha pins s σ H _ I h) fun u s1 ⟨x,H1,I1,r1,q1⟩=>?_)
 exact thn (hr pos pins s1 σ H1 _ I1 q1) fun us s2 ⟨xs,H2,I2,r2,q2⟩=>⟨x :: xs,H2,I2,.cons r1 r2,q2⟩
def aQe (t:TA):TE:=fun σ H Q=>t σ H fun xs H1=>xs.length<=sizeLine/\∀ p,H1 p=none->Q (.ref p) (upd H1 p (.tup xs))
def aQo (t:TA):TE:=fun σ H Q=>t σ H fun xs H1=>xs.length<=sizeLine/\∀ p,H1 p=none->Q (.ref p) (upd H1 p (.lst xs))
theorem aLp {x1}(h:PA X es t):PE X (.Tuple es x1 pos) (aQe t):=by
 intro pins s σ H Q I hq;refine wpAny_Tuple_spliced (thn (h pos pins s σ H _ I hq) fun us s1 ⟨xs,H1,I1,r,z,q⟩=>⟨by rw[←r.length];exact z,?_⟩)
 have hf:H1 s1.heap.objs.size=none:=I1.hok.fresh (Af _);refine⟨.ref s1.heap.objs.size,upd H1 s1.heap.objs.size (.tup xs),I1.laid (t':=s1.toks) (fun b u e=>Ad _ e) (Af _) ?_,rfl,q _ hf⟩
 exact⟨z,us,r,⟨_,Aq _ rfl,rfl,_,rfl⟩⟩
theorem aMq (h:PA X es t):PE X (.List es pos) (aQo t):=by
 intro pins s σ H Q I hq;refine wpAny_List_spliced (thn (h pos pins s σ H _ I hq) fun us s1 ⟨xs,H1,I1,r,z,q⟩=>⟨by rw[←r.length];exact z,?_⟩)
 have hf:H1 s1.heap.objs.size=none:=I1.hok.fresh (Af _);refine⟨.ref s1.heap.objs.size,upd H1 s1.heap.objs.size (.lst xs),I1.laid (t':=s1.toks) (fun b u e=>Ad _ e) (Af _) ?_,rfl,q _ hf⟩
 exact⟨z,us,0,r,Aq _ rfl⟩
end
abbrev Sp:=List V->Hp->VK->XK->Prop
abbrev CXT:=List Env->Hp->Shared->XK->Value->Shared->Prop
structure Env0 (P:Program)(w:World)(K:PySem.W.Frag)(mg:Str->Option Value)(base:Heap)(A:Around)(outer:List Env)(s:Shared)(H:Hp):Prop where
 frames:A.frames=some outer
 mod:Mod K mg base
 bs:∀ b o,base.get? b=some o->s.heap.get? b=some o/\H b=none
 bsz:base.objs.size<=s.heap.objs.size
 funs:s.heap.FunFrames base outer
 frf:∀ b∈frs outer,H b=none
 hok:HOk P w H s.heap
 bare:AllBare s.gens
def CE (outer:List Env)(P:Program)(w:World)(H:Hp)(s:Shared)(Q:VK)(u:Value)(s':Shared):Prop :=
 ∃ v H',s'.os=s.os/\AllBare s'.gens/\Un (frs outer) [] H H' s.heap s'.heap/\HOk P w H' s'.heap/\bI v u/\Q v H'
def CR (CX:CXT)(outer:List Env)(P:Program)(w:World)(H:Hp)(s:Shared)(Q:VK)(E:XK)(r:Result)(s':Shared):Prop :=
 match r with
 | .ok (.ret u)=>CE outer P w H s Q u s'
 | .ok _=>False
 | .error e=>CX outer H s E e s'
structure FnOk (P:Program)(w:World)(K:PySem.W.Frag)(mg:Str->Option Value)(base:Heap)(CX:CXT)(k:Nat)(f:Addr)(fd:FuncData)(ps:List Str)(sp:Sp):Prop where
 len:∀ vs H Q E,sp vs H Q E->vs.length=ps.length
 run:∀ (A:Around) (outer:List Env) (s:Shared) (H:Hp) (args:Args) (us:List Value) (vs:List V) (Q:VK) (E:XK),Room k A->Env0 P w K mg base A outer s H->BindsTo s fd args (ps.zip us)->bH vs us->sp vs H Q E ->
  codeAny (model P w) A (.call (.ref f) args) (CR CX outer P w H s Q E) s
theorem FnOk.mono {P:Program}{w:World}{K:PySem.W.Frag}{mg:Str->Option Value}{base:Heap}{CX:CXT}{j k:Nat}{f:Addr}{fd:FuncData}{ps:List Str}{sp:Sp}(F:FnOk P w K mg base CX j f fd ps sp)(h:j<=k) :
 FnOk P w K mg base CX k f fd ps sp:=⟨F.len,fun A outer s H args us vs Q E hr=>F.run A outer s H args us vs Q E (hr.mono h)⟩
section
variable {X:Cx}{pins:List (Addr×Obj)}{σ:St}{H:Hp}{s s':Shared}
theorem Inv.env0 (I:Inv X pins σ H s):Env0 X.prog X.w X.K X.mg X.base X.A X.stack s H :=
 ⟨I.ok.frames,I.ok.mod,I.bs,Ak I.ok.bsz I.sz,I.stack,I.stkFree,I.hok,I.bare⟩
theorem Inv.after {Q:VK}{u:Value}(I:Inv X pins σ H s)(h:CE X.stack X.prog X.w H s Q u s'):EP X pins σ Q u s':=by
 obtain⟨v,H',os,bare,un,hok,r,q⟩:=h;obtain⟨hh,g,d,t,os'⟩:=s';obtain rfl:os'=s.os:=os;exact⟨v,H',I.call (h':=hh) (g':=g) (d':=d) (t':=t) (ch:=[]) un hok bare (fun b z=>absurd z (by simp)),r,q⟩
end
def tF (K:PySem.W.Frag)(fd:FuncData)(ps:List Str)(ds:List Value):Prop :=
 ∀ (s:Shared) (us:List Value),K.In s.heap->(us++ds).length=ps.length->BindsTo s fd ⟨us,[]⟩ (ps.zip (us++ds))
theorem tF.all {K:PySem.W.Frag}{fd:FuncData}{ps:List Str}(h:∀ us:List Value,us.length=ps.length->bindArgs fd ⟨us,[]⟩=pure (ps.zip us)):tF K fd ps []:=fun s us _ hl=>by
 rw[Ce]at hl ⊢;exact .of_eq (h us hl)
structure FnScope (N P:List Str)(sc:Scope):Prop where
 kind:sc.kind=.function
 co:sc.isCoroutine=false
 gen:sc.isGenerator=false
 nd:N.Nodup
 pre:N.take P.length=P
 par:∀ x∈P,sc.names.lookup x=some .local\/sc.names.lookup x=some .cell
 nofree:∀ y∈sc.names,y.2≠.free
theorem sS {kindOf:Str->Option NameKind}{x:Str}:∀ {binds:List (Str×Value)} {m:Str->Option Value},(∀ v,(x,v)∉binds)->bindL kindOf binds m x=m x
 | [],_,_=>rfl
 | (n,v) :: r,m,h=>by
  unfold bindL;rw[sS fun w hw=>h w (Ac _ hw)];split
  · have:x≠n:=by rintro rfl;exact h v Aa
    simp[this]
  · rfl
theorem uB {kindOf:Str->Option NameKind}{x:Str}:∀ {binds:List (Str×Value)} {m:Str->Option Value},(∀ v,(x,v)∉binds)->bindC kindOf binds m x=m x
 | [],_,_=>rfl
 | (n,v) :: r,m,h=>by
  unfold bindC;rw[uB fun w hw=>h w (Ac _ hw)];split
  · rfl
  · have:x≠n:=by rintro rfl;exact h v Aa
    simp[this]
theorem sX {kindOf:Str->Option NameKind}{x:Str}{v:Value}:∀ {P:List Str} {vs:List Value} {i:Nat} {m:Str->Option Value},P.Nodup->P[i]?=some x->vs[i]?=some v->kindOf x=some .local ->
 bindL kindOf (P.zip vs) m x=some v
 | [],_,_,_,_,h,_,_=>by simp at h
 | _ :: _,[],_,_,_,_,h,_=>by simp at h
 | p :: P,w :: vs,0,m,nd,h1,h2,hk=>by
  simp at h1 h2;subst h1;subst h2
  show bindL kindOf ((p,w) :: P.zip vs) m p=_
  unfold bindL;rw[sS fun v hv=>(Ca.mp nd).1 (Et hv).1,if_pos hk];simp
 | p :: P,w :: vs,i+1,m,nd,h1,h2,hk=>by
  show bindL kindOf ((p,w) :: P.zip vs) m x=_
  unfold bindL;exact sX (i:=i) (Ca.mp nd).2 (by simpa using h1) (by simpa using h2) hk
theorem tZ {kindOf:Str->Option NameKind}{x:Str}{v:Value}:∀ {P:List Str} {vs:List Value} {i:Nat} {m:Str->Option Value},P.Nodup->P[i]?=some x->vs[i]?=some v->kindOf x≠some .local ->
 bindC kindOf (P.zip vs) m x=some v
 | [],_,_,_,_,h,_,_=>by simp at h
 | _ :: _,[],_,_,_,_,h,_=>by simp at h
 | p :: P,w :: vs,0,m,nd,h1,h2,hk=>by
  simp at h1 h2;subst h1;subst h2
  show bindC kindOf ((p,w) :: P.zip vs) m p=_
  unfold bindC;rw[uB fun v hv=>(Ca.mp nd).1 (Et hv).1,if_neg hk];simp
 | p :: P,w :: vs,i+1,m,nd,h1,h2,hk=>by
  show bindC kindOf ((p,w) :: P.zip vs) m x=_
  unfold bindC;exact tZ (i:=i) (Ca.mp nd).2 (by simpa using h1) (by simpa using h2) hk
def start (N:List Str)(vs:List V):St:=vs.map some++Dh (N.length-vs.length) none
def oN (CX:CXT)(P:Program)(w:World)(K:PySem.W.Frag)(mg:Str->Option Value)(base:Heap)(N:List Str)(qual:Str)(scope:Scope)(f:Addr)(cd:Value)(A:Around)(outer:List Env)(s:Shared)(H:Hp)(E:XK):Cx where
 prog:=P
 w:=w
 K:=K
 mg:=mg
 base:=base
 A:=A.deeper (envOfC qual scope s.heap.objs.size f cd)
 N:=N
 s₀:=s
 H₀:=H
 env:=envOfC qual scope s.heap.objs.size f cd
 outer:=outer
 stack:=envOfC qual scope s.heap.objs.size f cd :: outer
 ex:=[]
 calm:=true
 fn:=fun _=>true
 pn:=[]
 xe:=fun e s'=>wpAny (model P w) (A.deeper (envOfC qual scope s.heap.objs.size f cd)) (leaving (envOfC qual scope s.heap.objs.size f cd) e) (fun _ s''=>CX outer H s E e s'') (fun e' s''=>CX outer H s E e' s'') s'
theorem xG {sc:Scope}{n:Nat}{x:Str}(h:sc.names.lookup x=some .cell):∃ c,(cellsFrom n sc.names []).lookup x=some c:=by
 have q:=Dq sc.names n [] (.inl h);exact Ea.mp q
theorem aC0 {CX:CXT}{P:Program}{w:World}{K:PySem.W.Frag}{mg:Str->Option Value}{base:Heap}{N ps:List Str}{qual:Str}{scope:Scope}{f:Addr}{cd:Value}{A:Around}{outer:List Env}{s s1:Shared}{H:Hp}{E:XK}{us:List Value}{vs:List V}
 (S:FnScope N ps scope) (hd:A.handled=none) (e0:Env0 P w K mg base A outer s H) (hl:vs.length=ps.length) (r:bH vs us)
 (x:InCallC s s.heap.objs.size (bindL (envOfC qual scope s.heap.objs.size f cd).kindOf (ps.zip us) fun _=>none) (cellsFrom (s.heap.objs.size+1) scope.names []) (bindC (envOfC qual scope s.heap.objs.size f cd).kindOf (ps.zip us) fun _=>none) s1) :
 Inv (oN CX P w K mg base N qual scope f cd A outer s H E) [] (start N vs) H s1:=by
 have hpl:ps.length<=N.length:=by have:=congrArg Ep S.pre;rw[Dj]at this;omega
 obtain⟨h1,tk,rfl,hk⟩:=x.done;have noA:∀ b:Addr,b∉(oN CX P w K mg base N qual scope f cd A outer s H E).ex:=fun b z=>absurd (show b∈([]:List Addr) from z) (by simp)
 refine⟨⟨e0.mod,S.kind,rfl,rfl,Af _,fun y z c h1 h2=>?_,fun y hy=>?_,fun y c _ h=>?_,fun _=>hd,Around.frames_deeper e0.frames,.inr ⟨rfl,rfl⟩,fun b z=>absurd z (noA b),e0.bs,e0.bsz,fun b _ _=>noA b,fun b z=>absurd z (noA b),e0.funs,e0.frf⟩,
  rfl,e0.bare,Un.kept hk,⟨_,x.toInCall.ns,fun i y v h1 h2 h3=>?_⟩,fun y c h=>⟨_,x.cell y c h⟩,e0.hok.fresh (Af _),fun y c h=>?_,fun p hp=>absurd (show p∈([]:List (Addr×Obj)) from hp) (by simp),e0.hok.kept hk,?_⟩
 · exact name_of_addr x.apart (PySem.mem_of_lookup h1) (PySem.mem_of_lookup h2)
 · have hy:scope.names.lookup y=some .cell\/scope.names.lookup y=some .free:=hy
   rcases hy with hy | hy
   · exact xG hy
   · exact absurd rfl (S.nofree _ (PySem.mem_of_lookup hy))
 · exact Ex (x.above y c (PySem.mem_of_lookup h))
 · have hi:i<vs.length:=by
    unfold start at h2;by_cases hi:i<vs.length
    · exact hi
    · rw[Bt (by simpa using hi)]at h2
      rw[Dl]at h2;split at h2<;>cases h2
   have ha:vs[i]?=some v:=by
    unfold start at h2;rw[Bv (by simpa using hi),As]at h2
    cases e:vs[i]? with
    | none=>rw[e]at h2;cases h2
    | some a=>rw[e]at h2;cases h2;rfl
   obtain⟨u,hu,rv⟩:=r.get ha
   have hp:ps[i]?=some y:=by
    rw[←S.pre,List.getElem?_take_of_lt (by omega)];exact h1
   have ndP:ps.Nodup:=by rw[←S.pre];exact S.nd.sublist (List.take_sublist _ _)
   refine⟨u,rv,?_⟩
   rcases S.par y (List.mem_of_getElem? hp) with k | k
   · exact .inl ⟨k,sX ndP hp hu k⟩
   · obtain⟨c,e⟩:=xG (n:=s.heap.objs.size+1) k
     refine .inr ⟨.inl k,c,e,?_⟩
     have q:=x.cell y c e;rw[tZ ndP hp hu (by show scope.names.lookup y≠_;rw[k];decide)]at q
     exact q
 · exact e0.hok.fresh (Ex (x.above y c (PySem.mem_of_lookup h)))
 · unfold start
   show _=N.length
   rw[An,Ab,Du];omega
theorem aP2 {CX:CXT}{P:Program}{w:World}{K:PySem.W.Frag}{mg:Str->Option Value}{base:Heap}{k:Nat}{f:Addr}{name qual:Str}{params:Arguments}{body:List Stmt}{scope:Scope}{dV kV doc pm cdv ct oc:Value}{an od:Option Addr}
 {osl:Array (Option Value)} {N ps:List Str} {sp:Sp} (lk:K.lookup f=some ⟨oc,od,.func (Cs name qual params body scope dV kV doc pm an cdv ct),osl⟩) (hcd:Ei K cdv qual=true) (S:FnScope N ps scope)
 (len:∀ vs H Q E,sp vs H Q E->vs.length=ps.length)
 (hbody:∀ (A:Around) (outer:List Env) (s:Shared) (H:Hp) (vs:List V) (Q:VK) (E:XK),Room k (A.deeper (envOfC qual scope s.heap.objs.size f cdv))->sp vs H Q E ->
  ∃ t,PSs (oN CX P w K mg base N qual scope f cdv A outer s H E) body t/\t { nx:=fun _ H'=>Q .non H',rt:=Q } (start N vs) H) :
 FnOk P w K mg base CX (k+1) f (Cs name qual params body scope dV kV doc pm an cdv ct) ps sp:=by
 refine⟨len,fun A outer s H args us vs Q E hr e0 hb r hsp=>?_⟩
 have hl:=len _ _ _ _ hsp;have KX:K.In s.heap:=e0.mod.kin.keeps fun b o e=>(e0.bs b o e).1;have lim:s.heap.NoLimit:=e0.mod.nolimit.keeps fun b o e=>(e0.bs b o e).1
 have hkind:∀ y∈ps.zip us,scope.names.lookup y.1=some .local\/(scope.names.lookup y.1=some .cell/\((cellsFrom (s.heap.objs.size+1) scope.names []).lookup y.1).isSome=true):=fun⟨n,v⟩ hy=>by
  rcases S.par n (Et hy).1 with q | q
  · exact .inl q
  · exact .inr ⟨q,Dq _ _ _ (.inl q)⟩
 refine codeAny_call_function hr.depth (KX _ _ lk) rfl S.co S.gen rfl (PySem.W.codeRec_of KX hcd) (hb _ _ _ _ ?_)
 refine wpAny_newFunctionEnv_cells S.kind hkind fun env he s1 x=>?_
 subst he;refine⟨lim.keeps x.toInCall.keep,codeAny_func ?_⟩
 obtain⟨t,ht,hq⟩:=hbody A outer s H vs Q E (hr.deeper _) hsp;have I:Inv (oN CX P w K mg base N qual scope f cdv A outer s H E) [] (start N vs) H s1:=aC0 S hr.hd e0 hl r x;refine wpAny_mono (ht [] s1 (start N vs) H _ I hq) (fun fl s' hs=>?_) fun e s' hs=>hs
 have fin:∀ {σ':St} {H':Hp} {v:V} {u:Value},Inv (oN CX P w K mg base N qual scope f cdv A outer s H E) [] σ' H' s'->bI v u->Q v H'->CE outer P w H s Q u s' :=
  fun {σ' H' v u} J rv q=>⟨v,H',J.os,J.bare,J.base,J.hok,rv,q⟩
 cases fl with
 | ret u =>
  obtain⟨v,σ',H',J,rv,q⟩:=hs;exact fin J rv q
 | next =>
  obtain⟨σ',H',J,q⟩:=hs;exact fin (v:=V.non) (u:=Value.none) J rfl q
 | brk =>
  obtain⟨_,_,_,q⟩:=hs;exact False.elim q
 | cont =>
  obtain⟨_,_,_,q⟩:=hs;exact False.elim q
end L2
namespace L2
open PySem PySem.Spec PyProof.Rows
section
variable {X:Cx}{x:Str}{p pos:Pos}{e:Expr}{es:List Expr}{t:TA}{id T:String}{r:List V->Hp->VK->Prop}
def tCB (r:List V->Hp->VK->Prop)(t:TA):TE:=fun σ H Q=>t σ H fun vs H1=>r vs H1 Q
theorem fP (hc:iO X (.builtin id) r)(hg:Gl X x)(hm:X.mg x=none)(hv:bootBuiltins x=some (.builtin id))(ha:PA X (e :: es) t)(hn:x ≠ "__name__":=by decide)(hdb:(x==("__debug__":Str))=false:=by decide)
 (he:starEach (e :: es) X.env=(false,eval e X.env) :: starEach es X.env:=by rfl) (hpl:(backTo pos (starEach es X.env)).any (·.1)=false:=by rfl):PE X (.Call (.Name x p) (e :: es) [] pos) (tCB r t):=by
 intro pins s σ H Q I h;refine wpAny_Call_Name_kw (lM I hg hm hv ?_ hn hdb)
 exact PyProof.Rows.callWith_builtin1 (thn (ha pos pins s σ H _ I h) fun us s1 ⟨vs,H1,I1,r1,q1⟩=>hc pins s1 σ H1 vs us Q I1 r1 q1) he hpl
theorem kU (hc:iO X (.type T) r)(hg:Gl X x)(hm:X.mg x=none)(hv:bootBuiltins x=some (.type T))(ha:PA X (e :: es) t)(hn:x ≠ "__name__":=by decide)(hdb:(x==("__debug__":Str))=false:=by decide)
 (he:starEach (e :: es) X.env=(false,eval e X.env) :: starEach es X.env:=by rfl) (hpl:(backTo pos (starEach es X.env)).any (·.1)=false:=by rfl):PE X (.Call (.Name x p) (e :: es) [] pos) (tCB r t):=by
 intro pins s σ H Q I h;refine wpAny_Call_Name_kw (lM I hg hm hv ?_ hn hdb)
 exact Ch (thn (ha pos pins s σ H _ I h) fun us s1 ⟨vs,H1,I1,r1,q1⟩=>hc pins s1 σ H1 vs us Q I1 r1 q1) he hpl
end
end L2
namespace HT
open PySem PyProof.Rows
def cT:List Int->List Int->Bool
 | [],[]=>false
 | [],_ :: _=>true
 | _ :: _,[]=>false
 | x :: xs,y :: ys=>if x=y then cT xs ys else decide (x<y)
theorem lP (x y:Int)(xs ys:List Int):cT (x :: xs) (y :: ys)=if x=y then cT xs ys else decide (x<y):=rfl
theorem sK:cT [] []=false:=rfl
theorem pB (y:Int)(ys:List Int):cT [] (y :: ys)=true:=rfl
theorem qY (x:Int)(xs:List Int):cT (x :: xs) []=false:=rfl
theorem xP (A:Around)(s:Shared)(a:Int)(t:Tok)(c:Int)(u:Tok):∃ e,SeqAt.EqAt A s (.int a t) (.int c u) e/\(e=true↔a=c) :=
 ⟨(a==c),SeqAt.EqAt.int_int a t c u,by simp⟩
theorem aEg (A:Around)(s:Shared)(a:Int)(t:Tok)(c:Int)(u:Tok)(prog:Program)(w:World)(E:Value->Shared->Prop)(Q:Value->Shared->Prop)(h:Q (.bool (decide (a<c))) s) :
 wpAny (model prog w) A (richCompare .Lt (.int a t) (.int c u)) Q E s :=
 (Eu h:wpAny (model prog w) A (compareOp .Lt (.int a t) (.int c u)) Q E s)
section
open PySem.SeqAt
open PySem.AutoSeq1 (wpAny_loadPart')
open PySem.MeetsSeq PySem.MeetsSeq2 PySem.MeetsSeq3
theorem sF (l b:Addr)(items items2:Array Value)(n n2:Nat)(dd dd2:Option Addr)(sl sl2:Array (Option Value))(ns ms:List Int)(hi:IntsAre items.toList ns)(hj:IntsAre items2.toList ms) :
 Meets (Builtin.«tuple.__lt__» ⟨[.ref l,.ref b],[]⟩)
  (fun _ R s=>s.heap.get? l=some { cls:=.type "tuple",dict:=dd,data:=.seq items n,slots:=sl }/\s.heap.get? b=some { cls:=.type "tuple",dict:=dd2,data:=.seq items2 n2,slots:=sl2 } /\
   R (.ok (.ret (.bool (cT ns ms)))) s) :=
 .of_wp fun prog w A R s h=>by
  obtain⟨hp,g,d,tk,os⟩:=s;obtain⟨hl,hb,h⟩:=h;have f2:=AutoSeq1.sub_tuple_tuple;have z1:items.size=ns.length:=by rw[←hi.length];simp
  have z2:items2.size=ms.length:=by rw[←hj.length];simp
  wp_walk using wpAny_loadPart' hl,wpAny_loadPart' hb,wpAny_forIn_list _ (fun rest b s'=>b.1=none/\s'=⟨hp,g,d,tk,os⟩/\∃ (vs ws:List Value) (ns' ms':List Int),rest=vs.zip ws /\
   IntsAre vs ns'/\IntsAre ws ms'/\ns'.length+items2.size=ms'.length+items.size/\R (.ok (.ret (.bool (cT ns' ms')))) ⟨hp,g,d,tk,os⟩) _
  case turn =>
   rintro⟨y,x⟩ rest b s' ⟨hb',rfl,vs,ws,ns',ms',hz,hvi,hwi,hlen,hR⟩
   cases hvi with
   | nil=>rw[List.zip_nil_left]at hz;cases hz
   | cons a t hvi' =>
    cases hwi with
    | nil=>rw[List.zip_nil_right]at hz;cases hz
    | cons c u hwi' =>
     rw[Ed]at hz;injection hz with hyx hrest
     injection hyx with hy hx
     subst hy hx;rw[lP]at hR;simp only[Av]at hlen;obtain⟨e,he,hiff⟩:=xP A.in1 ⟨hp,g,d,tk,os⟩ a t c u;refine wpAny_bind (he prog w _ _ ?_)
     cases e with
     | true =>
      rw[if_pos (hiff.mp rfl)]at hR;wp_walk
      exact⟨rfl,rfl,_,_,_,_,hrest,hvi',hwi',by omega,hR⟩
     | false =>
      rw[if_neg (fun q=>absurd (hiff.mpr q) Bb)]at hR;have hri:=aEg A.in1 ⟨hp,g,d,tk,os⟩ a t c u prog w;wp_walk using hri
      exact⟨_,rfl,by simpa using hR⟩
  case fin =>
   rintro⟨b1,b2⟩ s' ⟨hb',rfl,vs,ws,ns',ms',hz,hvi,hwi,hlen,hR⟩
   simp only at hb';subst hb'
   have hv:cT ns' ms'=decide (items.size<items2.size):=by
    cases hvi with
    | nil =>
     cases hwi with
     | nil =>
      simp only[Bp]at hlen;rw[sK];exact(decide_eq_false (by omega)).symm
     | cons c u hw =>
      simp only[Bp,Av]at hlen;rw[pB];exact(decide_eq_true (by omega)).symm
    | cons a t hv =>
     cases hwi with
     | nil =>
      simp only[Bp,Av]at hlen;rw[qY];exact(decide_eq_false (by omega)).symm
     | cons c u hw =>
      rw[Ed]at hz;cases hz
   rw[hv]at hR;wp_walk
   exact⟨_,rfl,by simpa[Builtin.Tuple.tupleCompareSizes] using hR⟩
  case h =>
   exact⟨rfl,rfl,items.toList,items2.toList,ns,ms,rfl,hi,hj,by omega,h⟩
end
section
variable {prog:Program}{w:World}{A:Around}{E:Value->Shared->Prop}{s:Shared}
theorem zC {l b:Addr}{items items2:Array Value}{ns ms:List Int}{Q:Value->Shared->Prop}(hl:IsTup s.heap l items)(hb:IsTup s.heap b items2)(hi:IntsAre items.toList ns)(hj:IntsAre items2.toList ms)
 (hu:A.units<cLine) (h:Q (.bool (cT ns ms)) s):wpAny (model prog w) A (compareOp .Lt (.ref l) (.ref b)) Q E s:=by
 obtain⟨⟨cls,dd,data,sl⟩,ho,hc,n,hd⟩:=id hl;obtain⟨⟨cls2,dd2,data2,sl2⟩,ho2,hc2,n2,hd2⟩:=id hb;simp only at hc hd hc2 hd2;subst hc hd hc2 hd2
 exact richCompare_meets_room (op:=.Lt) ⟨_,ho,rfl⟩ ⟨_,ho2,rfl⟩ PySem.F.slot_tuple_lt PySem.F.entry_tuple_lt (PySem.F.args_tuple_lt_2 _ _) (sF l b items items2 n n2 dd dd2 sl sl2 ns ms hi hj)
  ⟨ho,ho2,show Value.bool (cT ns ms)≠Value.notImplemented/\Q (.bool (cT ns ms)) s from ⟨(fun x=>nomatch x),h⟩⟩ hu
theorem aHj {t b:Addr}{vs ws:List Value}{Q:Value->Shared->Prop}(ht:IsTup s.heap t vs.toArray)(hb:IsTup s.heap b ws.toArray)(hv:vs≠[])
 (h1:ws=[]->Q (.ref t) s) (h2:ws≠[]->Q (.ref s.heap.objs.size) { s with heap:=s.heap.push { cls:=.type "tuple",data:=.seq (vs++ws).toArray } })
 (hsz:vs.length+ws.length<=sizeLine):wpAny (model prog w) A (binaryOp .Add (.ref t) (.ref b)) Q E s:=by
 obtain⟨⟨cls,dd,data,sl⟩,ho,hc,n,hd⟩:=id ht;obtain⟨⟨cls2,dd2,data2,sl2⟩,ho2,hc2,n2,hd2⟩:=id hb;simp only at hc hd hc2 hd2;subst hc hd hc2 hd2;have e:vs.toArray++ws.toArray=(vs++ws).toArray:=by simp
 by_cases hw:ws=[]
 · exact concat_meets ⟨_,ho,rfl⟩ ⟨_,ho2,rfl⟩ noFill_tuple_add seq_tuple_add PySem.F.slot_tuple_add PySem.F.entry_tuple_add (PySem.F.args_tuple_add_2 _ _)
    (tuple_addW1 t b vs.toArray ws.toArray n n2 dd dd2 sl sl2 (by simpa using hv) (by simp[hw])) ⟨ho,ho2,h1 hw⟩
 · refine concat_meets ⟨_,ho,rfl⟩ ⟨_,ho2,rfl⟩ noFill_tuple_add seq_tuple_add PySem.F.slot_tuple_add PySem.F.entry_tuple_add (PySem.F.args_tuple_add_2 _ _)
    (tuple_addW2 t b vs.toArray ws.toArray n n2 dd dd2 sl sl2 (by simpa using hv) (by simpa using hw) (by rw[Ag,Ag];exact hsz)) ⟨ho,ho2,?_⟩
   rw[e];exact h2 hw
def sIx (n d:Nat):Option Int->Nat
 | none=>d
 | some v=>if v<0 then (v+(n:Int)).toNat else min v.toNat n
theorem yV (n d:Nat):sIx n d none=d:=rfl
theorem vL (n d k:Nat):sIx n d (some (k:Int))=min k n:=by
 show (if (k:Int)<0 then ((k:Int)+(n:Int)).toNat else min (k:Int).toNat n)=min k n
 rw[if_neg (by omega),Dc]
theorem aM3 (n d:Nat)(hd:d<=n)(o:Option Int):sIx n d o<=n:=by
 cases o with
 | none=>exact hd
 | some v =>
  show (if v<0 then (v+(n:Int)).toNat else min v.toNat n)<=n
  by_cases hv:v<0
  · rw[if_pos hv];omega
  · rw[if_neg hv];exact Nat.min_le_right _ _
theorem aBs (v:Int)(n d:Nat):(if v<0 then max (v+(n:Int)) 0 else min v (n:Int))=((sIx n d (some v):Nat):Int):=by
 show (if v<0 then max (v+(n:Int)) 0 else min v (n:Int))=(((if v<0 then (v+(n:Int)).toNat else min v.toNat n):Nat):Int)
 by_cases hv:v<0
 · simp only[if_pos hv];omega
 · simp only[if_neg hv];omega
theorem zX (lo hi:Option Int)(n:Nat):Builtin.Slice.sliceAdjust lo hi 1 (n:Int)=(((sIx n 0 lo:Nat):Int),((sIx n n hi:Nat):Int)):=by
 have h1:¬ ((1:Int)<0):=by omega
 unfold Builtin.Slice.sliceAdjust;simp only[h1,if_false];refine Prod.ext ?_ ?_
 · cases lo with
   | none=>rfl
   | some v=>exact aBs v n 0
 · cases hi with
   | none=>rfl
   | some v=>exact aBs v n n
theorem zQ (i j:Nat):Builtin.Slice.slicePlaces (i:Int) (j:Int) 1=j-i:=by
 unfold Builtin.Slice.slicePlaces;have h1:(1:Int)>0:=by omega
 simp only[h1,if_true,Int.ediv_one];split<;>omega
theorem pU {v:Value}{o:Option Int}{Q:Option Int->Shared->Prop}(p:IsPart v o)(h:Q o s):wpAny (model prog w) A (Builtin.Slice.slicePartIndex v) Q E s:=by
 cases p with
 | none=>exact slicePart_none h
 | int i t=>exact slicePart_int h
theorem nK {sl:Addr}{vl vu:Value}{lo hi:Option Int}{n:Nat}{Q:Int×Int×Nat->Shared->Prop}(hs:s.heap.IsSliceOf sl vl vu .none)(pl:IsPart vl lo)(pu:IsPart vu hi)
 (h:Q (((sIx n 0 lo:Nat):Int),1,sIx n n hi-sIx n 0 lo) s):wpAny (model prog w) A (Builtin.Slice.sliceApplied (.ref sl) (pure (n:Int))) Q E s:=by
 obtain⟨os,hos,hcs,hds⟩:=id hs;unfold Builtin.Slice.sliceApplied Builtin.Slice.sliceFields;refine wpAny_bind (wpAny_bind (wpAny_field hos hds (x:=vl) rfl (wpAny_bind (wpAny_field hos hds (x:=vu) rfl (wpAny_bind (wpAny_field hos hds (x:=.none) rfl (wpAny_pure ?_)))))))
 refine wpAny_bind (slicePart_none ?_)
 show wpAny _ _ (if ((1:Int)==0)=true then _ else _) _ _ s
 rw[if_neg (by decide)]
 refine wpAny_bind (pU pl (wpAny_bind (pU pu (wpAny_bind (wpAny_pure ?_)))))
 show wpAny _ _ (match Builtin.Slice.sliceAdjust lo hi 1 (n:Int) with | (lo,hi)=>pure (lo,(1:Int),Builtin.Slice.slicePlaces lo hi 1)) _ _ s
 rw[zX lo hi n];show wpAny _ _ (pure (((sIx n 0 lo:Nat):Int),(1:Int),Builtin.Slice.slicePlaces ((sIx n 0 lo:Nat):Int) ((sIx n n hi:Nat):Int) 1)) _ _ s
 rw[zQ];exact wpAny_pure h
theorem aD5 (xs:Array Value)(i k:Nat):((Bd k).filterMap fun (m:Nat)=>xs[((i:Int)+(m:Int)*1).toNat]?).toArray=((xs.toList.drop i).take k).toArray:=by
 have e:(fun (m:Nat)=>xs[((i:Int)+(m:Int)*1).toNat]?)=fun m=>xs[i+m]?:=by
  funext m
  have:((i:Int)+(m:Int)*1).toNat=i+m:=by omega
  rw[this]
 rw[e];have:=pick_run xs i k
 rw[List.filterMap_map]at this;have e2:((fun x=>xs[x]?)∘fun x=>i+x)=fun m=>xs[i+m]?:=rfl;rw[e2]at this;rw[this]
theorem mJ {t sl:Addr}{items:Array Value}{vl vu:Value}{lo hi:Option Int}{Q:Value->Shared->Prop}(ht:IsTup s.heap t items)(hs:s.heap.IsSliceOf sl vl vu .none)(pl:IsPart vl lo)(pu:IsPart vu hi)
 (hw:¬ (sIx items.size 0 lo=0/\sIx items.size items.size hi=items.size))
 (h:Q (.ref s.heap.objs.size) { s with heap:=s.heap.push { cls:=.type "tuple",data:=.seq ((items.toList.drop (sIx items.size 0 lo)).take (sIx items.size items.size hi-sIx items.size 0 lo)).toArray } })
 (hsz:items.size<=sizeLine):wpAny (model prog w) A (getItem (.ref t) (.ref sl)) Q E s:=by
 have htake:sizeOk (.seq ((items.toList.drop (sIx items.size 0 lo)).take (sIx items.size items.size hi-sIx items.size 0 lo)).toArray):=by
  show ((items.toList.drop (sIx items.size 0 lo)).take (sIx items.size items.size hi-sIx items.size 0 lo)).toArray.size<=sizeLine
  rw[Ag,Dj,List.length_drop,Array.length_toList];omega
 have hj:sIx items.size items.size hi<=items.size:=aM3 _ _ (Af _) hi;obtain⟨os,hos,hcs,hds⟩:=id hs;have hTs:s.TypeIs (.ref sl) "slice":=⟨os,hos,hcs⟩;unfold getItem;try with_reducible refine wpAny_holding ?_
 first | refine wpAny_bind (wpAny_pure ?_) | skip
 refine wpAny_bind (wpAny_sequenceKey ht.typeIs (by decide) ?_)
 refine wpAny_bind (wpAny_callSpecial?_slot (name:=Str.ofString "__getitem__") ht.typeIs Df
  (wpAny_call_entry Df ht.typeIs entry_tuple_getitem ?_ (args_tuple_getitem _ _)))
 show wpAny _ _ (Builtin.Tuple.tupleItemsOf (.ref t) >>= _) _ _ s
 refine wpAny_bind (tupleItemsOf_ ht ?_)
 refine wpAny_bind (wpAny_typeOf hTs ?_)
 rw[if_pos (by decide)]
 refine wpAny_bind (nK hs pl pu ?_)
 have hno:¬ ((((sIx items.size 0 lo:Nat):Int)==0&&(1:Int)==1&&(sIx items.size items.size hi-sIx items.size 0 lo)==items.size)=true):=by
  intro q;rw[Br,Br]at q;have q1:((sIx items.size 0 lo:Nat):Int)=0:=eq_of_beq q.1.1;have q2:sIx items.size items.size hi-sIx items.size 0 lo=items.size:=eq_of_beq q.2;exact hw ⟨by omega,by omega⟩
 show wpAny _ _ (if (((sIx items.size 0 lo:Nat):Int)==0&&(1:Int)==1&&(sIx items.size items.size hi-sIx items.size 0 lo)==items.size)=true then _ else _) _ _ s
 rw[if_neg hno,aD5]
 first
  | exact wpAny_bind (m:=Builtin.Tuple.tupleExact _) (wpAny_newObj_type (wpAny_pure ⟨_,rfl,wpAny_pure h⟩) htake)
  | exact wpAny_bind (m:=Builtin.Tuple.tupleExact _) (wpAny_newObj_type (wpAny_bind (wpAny_pure (wpAny_pure ⟨_,rfl,wpAny_pure h⟩))) htake)
  | exact wpAny_bind (wpAny_bind (m:=Builtin.Tuple.tupleExact _) (wpAny_newObj_type (wpAny_pure (wpAny_pure ⟨_,rfl,wpAny_pure h⟩)) htake))
  | exact wpAny_bind (wpAny_bind (m:=Builtin.Tuple.tupleExact _) (wpAny_newObj_type (wpAny_pure ⟨_,rfl,wpAny_pure h⟩) htake))
end
end HT
namespace L2
open PySem PySem.Spec PyProof.Rows
abbrev TO:=St->Hp->(Option Int->Hp->Prop)->Prop
def PO (X:Cx)(e:Option Expr)(t:TO):Prop :=
 ∀ (pins:List (Addr×Obj)) (s:Shared) (σ:St) (H:Hp) (Q:Option Int->Hp->Prop),Inv X pins σ H s->t σ H Q ->
  wpAny (model X.prog X.w) X.A (evalPart e X.env) (fun u s'=>∃ o H',Inv X pins σ H' s'/\IsPart u o/\Q o H') X.xe s
def aGw:TO:=fun _ H Q=>Q none H
def aPa (t:TE):TO:=fun σ H Q=>t σ H fun x H1=>∃ i,x=.int i/\Q (some i) H1
theorem zV {ns:List Int}:∀ {us:List Value},bH (ns.map V.int) us->IntsAre us ns:=by
 induction ns with
 | nil=>intro us r;rw[List.map_nil]at r;cases r;exact .nil
 | cons n ns ih =>
  intro us r;rw[Ap]at r;cases r with
  | cons r1 r2 =>
   obtain⟨t,e⟩:=r1;subst e;exact .cons n t (ih r2)
section
variable {X:Cx}{e:Expr}{te:TE}{lo hi:Option Expr}{tl th:TO}{pos p2:Pos}
theorem aIg:PO X none aGw:=by
 intro pins s σ H Q I h;rw[evalPart_none];exact wpAny_pure ⟨none,H,I,.none,h⟩
theorem aG0 (h:PE X e te):PO X (some e) (aPa te):=by
 intro pins s σ H Q I hw;rw[evalPart_some];refine thn (h pins s σ H _ I hw) fun u s1 ⟨x,H1,I1,r1,q1⟩=>?_
 obtain⟨i,rfl,q⟩:=q1;obtain⟨t,rfl⟩:=r1;exact⟨some i,H1,I1,.int i t,q⟩
def SlR (X:Cx)(r:V->Option Int->Option Int->Hp->VK->Prop):Prop :=
 ∀ (pins:List (Addr×Obj)) (s:Shared) (σ:St) (H:Hp) (x:V) (v vl vu:Value) (lo hi:Option Int) (sl:Addr) (Q:VK),Inv X pins σ H s->bI x v->s.heap.IsSliceOf sl vl vu .none->IsPart vl lo->IsPart vu hi->r x lo hi H Q ->
  ∃ T id,typeLookup (.type T) "__getitem__" = pure (some (.builtin id))/\s.TypeIs v T/\wpAny (model X.prog X.w) X.A (getItem v (.ref sl)) (EP X pins σ Q) X.xe s
def tSl (r:V->Option Int->Option Int->Hp->VK->Prop)(te:TE)(tl th:TO):TE:=fun σ H Q=>te σ H fun x H1=>tl σ H1 fun l H2=>th σ H2 fun u H3=>r x l u H3 Q
theorem wW {r:V->Option Int->Option Int->Hp->VK->Prop}(hr:SlR X r)(he:PE X e te)(hl:PO X lo tl)(hu:PO X hi th):PE X (.Subscript e (.Slice lo hi none p2) pos) (tSl r te tl th):=by
 intro pins s σ H Q I h;refine Subscript_ (thn (he pins s σ H _ I h) fun v s1 ⟨x,H1,I1,r1,q1⟩=>?_)
 refine wpAny_Slice (thn (hl pins s1 σ H1 _ I1 q1) fun vl s2 ⟨l,H2,I2,pl,q2⟩=>thn (hu pins s2 σ H2 _ I2 q2) fun vu s3 ⟨u,H3,I3,pu,q3⟩=>?_)
 rw[evalPart_none];refine wpAny_pure ?_
 have I4:Inv X pins σ H3 { s3 with heap:=s3.heap.push { cls:=.type "slice",data:=.fields #[vl,vu,.none] } }:=I3.kept (t':=s3.toks) fun b ob q=>Ad _ q
 obtain⟨T,id,hT,ht,hg⟩:=hr pins { s3 with heap:=s3.heap.push { cls:=.type "slice",data:=.fields #[vl,vu,.none] } } σ H3 x v vl vu l u s3.heap.objs.size Q I4 r1 (Heap.IsSliceOf.new ..) pl pu q3
 show wpAny (model X.prog X.w) X.A (subscriptTail e (.Slice lo hi none p2) v (.ref s3.heap.objs.size)) (EP X pins σ Q) X.xe { s3 with heap:=s3.heap.push { cls:=.type "slice",data:=.fields #[vl,vu,.none] } }
 exact tail_any (ops:=[.ref s3.heap.objs.size,v]) ht hT hg (by with_unfolding_all rfl)
def rQ (xs:List V)(lo hi:Option Int):List V:=(xs.drop (HT.sIx xs.length 0 lo)).take (HT.sIx xs.length xs.length hi-HT.sIx xs.length 0 lo)
theorem nY (xs:List V)(lo hi:Option Int):(rQ xs lo hi).length<=xs.length:=by
 unfold rQ;rw[Dj,List.length_drop];omega
def aOp (K:PySem.W.Frag):V->Option Int->Option Int->Hp->VK->Prop:=fun x lo hi H Q=>∃ a xs,x=.ref a/\SqT K H a xs /\
 ¬ (HT.sIx xs.length 0 lo=0/\HT.sIx xs.length xs.length hi=xs.length)/\∀ p,H p=none->Q (.ref p) (upd H p (.tup (rQ xs lo hi)))
theorem aNp:SlR X (aOp X.K):=by
 intro pins s σ H x v vl vu lo hi sl Q I rx hs pl pu h;obtain⟨a,xs,rfl,hx,hw,q⟩:=h;cases rx;obtain⟨its,r,ht,hz⟩:=I.tuple hx;have hlen:its.toArray.size=xs.length:=by rw[Ag];exact r.length.symm
 refine⟨"tuple",_,Df.lookup,ht.typeIs,?_⟩
 refine HT.mJ ht hs pl pu (by rw[hlen];exact hw) ?_ (by rw[hlen];exact hz)
 rw[hlen];refine⟨.ref s.heap.objs.size,_,I.laid (t':=s.toks) (o:=.tup (rQ xs lo hi)) (fun b ob q=>Ad _ q) (Af _) ?_,rfl,q _ (I.hok.fresh (Af _))⟩
 exact⟨Ak (nY xs lo hi) hz,_,(r.drop (HT.sIx xs.length 0 lo)).take (HT.sIx xs.length xs.length hi-HT.sIx xs.length 0 lo),IsTup.new _ _⟩
def aOe (K:PySem.W.Frag):R2:=fun x y H Q=>∃ a b xs ys,x=.ref a/\y=.ref b/\SqT K H a xs/\SqT K H b ys/\xs≠[]/\xs.length+ys.length<=sizeLine /\
 (ys=[]->Q (.ref a) H)/\(ys≠[]->∀ p,H p=none->Q (.ref p) (upd H p (.tup (xs++ys))))
theorem bH.nil_iff {xs:List V}{us:List Value}(r:bH xs us):us=[]↔xs=[]:=by
 cases r with
 | nil=>simp
 | cons _ _=>simp
theorem aHz:OpR X (binaryOp .Add) (aOe X.K):=by
 intro pins s σ H x y v u Q I rx ry h;obtain⟨a,b,xs,ys,rfl,rfl,ha,hb,hx,hz,q1,q2⟩:=h;cases rx;cases ry;obtain⟨its,r1,p1,_⟩:=I.tuple ha;obtain⟨its2,r2,p2,_⟩:=I.tuple hb;refine HT.aHj p1 p2 (fun z=>hx (r1.nil_iff.mp z)) (fun z=>⟨.ref a,H,I,rfl,q1 (r2.nil_iff.mp z)⟩) (fun z=>?_) (by rw[←r1.length,←r2.length];exact hz)
 refine⟨.ref s.heap.objs.size,_,I.laid (t':=s.toks) (o:=.tup (xs++ys)) (fun b ob q=>Ad _ q) (Af _) ?_,rfl,q2 (fun w=>z (r2.nil_iff.mpr w)) _ (I.hok.fresh (Af _))⟩
 exact⟨by rw[An];exact hz,_,r1.append r2,IsTup.new _ _⟩
end
end L2
namespace L2
open PySem PySem.Spec PyProof.Rows
def ixN (n:Nat)(i:Int):Option Nat:=if 0<=i then (if i<n then some i.toNat else none) else if -(n:Int)<=i then some (i+n).toNat else none
def atI {α:Type}(xs:List α)(i:Int):Option α:=(ixN xs.length i).bind fun j=>xs[j]?
theorem aI8 {n:Nat}{i:Int}{j:Nat}(h:ixN n i=some j):seqIndex? i n=some j/\j<n/\-(n:Int)<=i/\i<n:=by
 unfold ixN at h;by_cases h0:0<=i
 · rw[if_pos h0]at h
   by_cases h1:i<n
   · rw[if_pos h1]at h
     have e:i.toNat=j:=Cg.inj h;exact⟨by rw[seqIndex_of h0 h1,e],by omega,by omega,h1⟩
   · rw[if_neg h1]at h;cases h
 · rw[if_neg h0]at h
   by_cases h1:-(n:Int)<=i
   · rw[if_pos h1]at h
     have e:(i+n).toNat=j:=Cg.inj h;exact⟨by rw[seqIndex_neg (by omega) h1,e],by omega,h1,by omega⟩
   · rw[if_neg h1]at h;cases h
theorem aBp {α:Type}{xs:List α}{i:Int}{v:α}(h:atI xs i=some v):∃ j,seqIndex? i xs.length=some j/\xs[j]?=some v/\j<xs.length/\-(xs.length:Int)<=i/\i<xs.length:=by
 unfold atI at h;cases e:ixN xs.length i with
 | none=>rw[e]at h;cases h
 | some j =>
  rw[e]at h;obtain⟨h1,h2,h3,h4⟩:=aI8 e;exact⟨j,h1,h,h2,h3,h4⟩
theorem uS {α:Type}{xs:List α}{j:Nat}{v:α}(h:xs[j]?=some v):atI xs (j:Int)=some v:=by
 have hj:j<xs.length:=(Aj.mp h).1
 have e:ixN xs.length (j:Int)=some j:=by
  unfold ixN;rw[if_pos (by omega),if_pos (by omega)];simp
 unfold atI;rw[e];exact h
def aA5 (b:Expr):Prop:=∀ o i,subscripted b false o i=operate [o,i] (getItem o i)
def IxR (X:Cx)(r:R2):Prop :=
 ∀ (value slice:Expr) (pins:List (Addr×Obj)) (s:Shared) (σ:St) (H:Hp) (x y:V) (v u:Value) (Q:VK),Inv X pins σ H s->bI x v->bI y u->r x y H Q ->
  subscripted slice false v u=operate [v,u] (getItem v u)->wpAny (model X.prog X.w) X.A (subscriptTail value slice v u) (EP X pins σ Q) X.xe s
def MtR (X:Cx)(id:String)(r:V->List V->Hp->VK->Prop):Prop :=
 ∀ (pins:List (Addr×Obj)) (s:Shared) (σ:St) (H:Hp) (x:V) (xs:List V) (v:Value) (us:List Value) (Q:VK),Inv X pins σ H s->bI x v->bH xs us->r x xs H Q ->
  wpAny (model X.prog X.w) X.A (call (.builtin id) (v :: us)) (EP X pins σ Q) X.xe s
section
variable {X:Cx}{a b:Expr}{ta tb:TE}{pos:Pos}
theorem aP3 {r:R2}(hr:IxR X r)(ha:PE X a ta)(hb:PE X b tb)(hs:aA5 b):PE X (.Subscript a b pos) (tOp r ta tb):=by
 intro pins s σ H Q I h;exact Subscript_ (aLi ha hb I h fun v u s2 x y H2 I2 rx ry q=>hr a b pins s2 σ H2 x y v u Q I2 rx ry q (hs _ _))
def aHt (K:PySem.W.Frag):R2:=fun x y H Q=>∃ p xs i v,x=.ref p/\y=.int i/\SqL K H p xs/\atI xs i=some v/\Q v H
def aJp (K:PySem.W.Frag):R2:=fun x y H Q=>∃ p xs i v,x=.ref p/\y=.int i/\SqT K H p xs/\atI xs i=some v/\Q v H
theorem aIz:IxR X (aHt X.K):=by
 intro value slice pins s σ H x y v u Q I rx ry h hs;obtain⟨p,xs,i,z,rfl,rfl,hq,he,q⟩:=h;cases rx;obtain⟨t,rfl⟩:=ry;obtain⟨its,r,pl,hz⟩:=I.list hq;obtain⟨j,h1,h2,h3,h4,h5⟩:=aBp he;obtain⟨w,ew,rw'⟩:=r.get h2;have hl:=r.length;have hn:=vZ;have fin:EP X pins σ Q w s:=⟨z,H,I,rw',q⟩;by_cases h0:0<=i
 · have hj:i.toNat=j:=by
    rw[seqIndex_of h0 h5]at h1;exact Cg.inj h1
   exact item_listR pl.isList h0 (by omega) (by rw[hj];simpa using ew) fin hs
 · have hj:(i+(its.toArray.size:Int)).toNat=j:=by
    rw[seqIndex_neg (by omega) h4]at h1
    rw[Ag,←hl];exact Cg.inj h1
   exact subscriptTail_builtinR (x:=w) pl.isList.typeIs slot_list_getitem.lookup
    (wpAny_getItem_list_neg (Q:=fun r s'=>r=w/\EP X pins σ Q r s') pl.isList (by omega) (by rw[Ag]<;>omega) (by omega) (by rw[hj];simpa using ew) ⟨rfl,fin⟩) hs
theorem aNm:IxR X (aJp X.K):=by
 intro value slice pins s σ H x y v u Q I rx ry h hs;obtain⟨p,xs,i,z,rfl,rfl,hq,he,q⟩:=h;cases rx;obtain⟨t,rfl⟩:=ry;obtain⟨its,r,pl,hz⟩:=I.tuple hq;obtain⟨j,h1,h2,h3,h4,h5⟩:=aBp he;obtain⟨w,ew,rw'⟩:=r.get h2;have hl:=r.length;have hn:=vZ;have fin:EP X pins σ Q w s:=⟨z,H,I,rw',q⟩
 exact subscriptTail_builtinR (x:=w) pl.typeIs slot_tuple_getitem.lookup
  (getItem_tuple (j:=j) (Q:=fun r s'=>r=w/\EP X pins σ Q r s') pl (by omega) (by omega) (by rw[Ag,←hl];exact h1) (by simpa using ew) ⟨rfl,fin⟩) hs
theorem Inv.lst {pins:List (Addr×Obj)}{σ:St}{H:Hp}{s:Shared}{p:Addr}{xs:List V}(I:Inv X pins σ H s)(h:H p=some (.lst xs)) :
 ∃ (its:List Value) (n:Nat),bH xs its/\s.heap.get? p=some { cls:=.type "list",data:=.seq its.toArray n }/\xs.length<=sizeLine:=by
 obtain⟨z,its,n,r,e⟩:=I.hok p _ h;exact⟨its,n,r,e,z⟩
theorem wA (lo hi:Option Int)(n:Nat):(sliceBounds lo hi none n).1=((HT.sIx n 0 lo:Nat):Int)/\(sliceBounds lo hi none n).2.1=((HT.sIx n n hi:Nat):Int)/\(sliceBounds lo hi none n).2.2=1:=by
 refine⟨?_,?_,rfl⟩
 · cases lo with
   | none=>simp[sliceBounds,HT.sIx]
   | some i =>
    simp only[sliceBounds,HT.sIx,Option.getD_none,show (1:Int)>0 by decide,if_true]
    by_cases h:i<0
    · simp only[h,if_true]<;>omega
    · simp only[h,if_false]<;>omega
 · cases hi with
   | none=>simp[sliceBounds,HT.sIx]
   | some i =>
    simp only[sliceBounds,HT.sIx,Option.getD_none,show (1:Int)>0 by decide,if_true]
    by_cases h:i<0
    · simp only[h,if_true]<;>omega
    · simp only[h,if_false]<;>omega
theorem rL (its:List Value)(lo hi:Option Int):slicePick its.toArray lo hi none=((its.drop (HT.sIx its.length 0 lo)).take (HT.sIx its.length its.length hi-HT.sIx its.length 0 lo)).toArray:=by
 obtain⟨h1,h2,h3⟩:=wA lo hi its.toArray.size;unfold slicePick;rw[h1,h2,h3];simp only[sliceRange_one,pick_run,Ag]<;>rfl
def aNx (K:PySem.W.Frag):V->Option Int->Option Int->Hp->VK->Prop:=fun x lo hi H Q=>∃ a xs,x=.ref a/\SqL K H a xs/\∀ p,H p=none->Q (.ref p) (upd H p (.lst (rQ xs lo hi)))
theorem aIr:SlR X (aNx X.K):=by
 intro pins s σ H x v vl vu lo hi sl Q I rx hs pl pu h;obtain⟨a,xs,rfl,hx,q⟩:=h;cases rx;obtain⟨its,r,ht,hz⟩:=I.list hx;have hlen:=r.length;refine⟨"list",_,slot_list_getitem.lookup,ht.isList.typeIs,?_⟩
 refine wpAny_getItem_list_slice ht.isList hs pl pu .none (by simp) ?_ (by rw[Ag]<;>omega)
 rw[rL,←hlen];refine⟨.ref s.heap.objs.size,_,I.laid (t':=s.toks) (o:=.lst (rQ xs lo hi)) (fun b ob q=>Ad _ q) (Af _) ?_,rfl,q _ (I.hok.fresh (Af _))⟩
 exact⟨Ak (nY xs lo hi) hz,_,0,(r.drop (HT.sIx xs.length 0 lo)).take (HT.sIx xs.length xs.length hi-HT.sIx xs.length 0 lo),Aq _ rfl⟩
def mM:V->Bool
 | .non=>true
 | .bl _=>true
 | .int _=>true
 | .str _=>true
 | _=>false
def eqV:V->V->Bool
 | .non,.non=>true
 | .bl a,.bl b=>a==b
 | .bl a,.int b=>(if a then 1 else 0)==b
 | .int a,.bl b=>a==(if b then 1 else 0)
 | .int a,.int b=>a==b
 | .str a,.str b=>a==b
 | _,_=>false
theorem aKp {A:Around}{s:Shared}{y x:V}{u v:Value}(ry:bI y u)(rx:bI x v)(fy:mM y=true)(fx:mM x=true):SeqAt.EqAt A s u v (eqV y x):=by
 cases y with
 | non =>
  cases ry;cases x with
  | non=>cases rx;exact SeqAt.EqAt.same _
  | bl b=>cases rx;exact SeqAt.EqAt.none_bool b
  | int b=>obtain⟨t,rfl⟩:=rx;exact SeqAt.EqAt.none_int b t
  | str b=>obtain⟨t,rfl⟩:=rx;exact SeqAt.EqAt.none_str b t
  | _=>exact absurd (show false=true from fx) Bb
 | bl a =>
  cases ry;cases x with
  | non=>cases rx;exact SeqAt.EqAt.bool_none a
  | bl b=>cases rx;exact SeqAt.EqAt.bool_bool a b
  | int b=>obtain⟨t,rfl⟩:=rx;exact SeqAt.EqAt.bool_int a b t
  | str b=>obtain⟨t,rfl⟩:=rx;exact SeqAt.EqAt.bool_str a b t
  | _=>exact absurd (show false=true from fx) Bb
 | int a =>
  obtain⟨t',rfl⟩:=ry;cases x with
  | non=>cases rx;exact SeqAt.EqAt.int_none a t'
  | bl b=>cases rx;exact SeqAt.EqAt.int_bool a t' b
  | int b=>obtain⟨t,rfl⟩:=rx;exact SeqAt.EqAt.int_int a t' b t
  | str b=>obtain⟨t,rfl⟩:=rx;exact SeqAt.EqAt.int_str a t' b t
  | _=>exact absurd (show false=true from fx) Bb
 | str a =>
  obtain⟨t',rfl⟩:=ry;cases x with
  | non=>cases rx;exact SeqAt.EqAt.str_none a t'
  | bl b=>cases rx;exact SeqAt.EqAt.str_bool a t' b
  | int b=>obtain⟨t,rfl⟩:=rx;exact SeqAt.EqAt.str_int a t' b t
  | str b=>obtain⟨t,rfl⟩:=rx;exact SeqAt.EqAt.str_str a t' b t
  | _=>exact absurd (show false=true from fx) Bb
 | _=>exact absurd (show false=true from fy) Bb
def eqU (x:V)(u:Value):Bool:=match u with
 | .none=>eqV .non x
 | .bool b=>eqV (.bl b) x
 | .int i _=>eqV (.int i) x
 | .str z _=>eqV (.str z) x
 | _=>false
theorem aFh {x y:V}{u:Value}(r:bI y u)(f:mM y=true):eqU x u=eqV y x:=by
 cases y with
 | non=>cases r;rfl
 | bl b=>cases r;rfl
 | int i=>obtain⟨t,rfl⟩:=r;rfl
 | str z=>obtain⟨t,rfl⟩:=r;rfl
 | _=>exact absurd (show false=true from f) Bb
theorem uN {x:V}:∀ {xs:List V} {us:List Value},bH xs us->xs.all mM=true->us.any (eqU x)=xs.any fun y=>eqV y x
 | _,_,.nil,_=>rfl
 | y :: xs,u :: us,.cons r t,f=>by
  rw[List.all_cons,Br]at f;rw[Eo,Eo,aFh r f.1,uN t f.2]
theorem rD {A:Around}{s:Shared}{x:V}{v:Value}(rx:bI x v)(fx:mM x=true):∀ {xs:List V} {us:List Value},bH xs us->xs.all mM=true->∀ u∈us,SeqAt.EqAt A s u v (eqU x u)
 | _,_,.nil,_=>fun u hu=>by cases hu
 | y :: xs,u :: us,.cons r t,f=>fun u' hu=>by
  rw[List.all_cons,Br]at f;rcases Ai.mp hu with rfl | hu
  · rw[aFh r f.1];exact aKp r rx f.1 fx
  · exact rD rx fx t f.2 u' hu
def inV (x:V)(xs:List V):Bool:=xs.any fun y=>eqV y x
def rIn (K:PySem.W.Frag)(neg:Bool):R2:=fun x y H Q=>∃ p xs,y=.ref p/\(SqL K H p xs\/SqT K H p xs)/\mM x=true/\xs.all mM=true/\Q (.bl (if neg then !inV x xs else inV x xs)) H
theorem vP:OpR X (compareOp .NotIn) (rIn X.K true):=by
 intro pins s σ H x y v u Q I rx ry h;obtain⟨p,xs,rfl,hq,fx,fs,q⟩:=h;cases ry;rcases hq with hq | hq
 · obtain⟨its,r,pl,hz⟩:=I.list hq
   refine SeqAt.notIn_listAt (eqU x) pl.isList (fun w hw=>rD rx fx r fs w (by simpa using hw)) ⟨.bl _,H,I,rfl,?_⟩
   rw[show its.toArray.any (eqU x)=its.any (eqU x) by simp,uN r fs]
   exact q
 · obtain⟨its,r,pl,hz⟩:=I.tuple hq
   refine SeqAt.notIn_tupleAt (eqU x) pl (fun w hw=>rD rx fx r fs w (by simpa using hw)) ⟨.bl _,H,I,rfl,?_⟩
   rw[show its.toArray.any (eqU x)=its.any (eqU x) by simp,uN r fs]
   exact q
theorem wF:iO X (.builtin "len") (fun xs H Q=>∃ p ys,xs=[.ref p]/\(SqL X.K H p ys\/SqT X.K H p ys)/\Q (.int ys.length) H):=by
 intro pins s σ H xs us Q I r h;obtain⟨p,ys,rfl,hq,q⟩:=h;obtain⟨u,rfl,rx⟩:=lC r;cases rx;have hn:=vZ;rcases hq with hq | hq
 · obtain⟨its,r',pl,hz⟩:=I.list hq
   have hlen:=r'.length;exact Calls.call_len_list pl.isList (by simp only[Ag]<;>omega) ⟨.int ys.length,H,I.tok _,⟨s.toks+1,by rw[Ag,hlen]⟩,q⟩
 · obtain⟨its,r',pl,hz⟩:=I.tuple hq
   have hlen:=r'.length;exact len_tuple pl (by simp only[Ag]<;>omega) ⟨.int ys.length,H,I.tok _,⟨s.toks+1,by rw[Ag,hlen]⟩,q⟩
theorem uX:iO X (.type "list") (fun xs H Q=>∃ p ys,xs=[.ref p]/\(SqL X.K H p ys\/SqT X.K H p ys)/\∀ l,H l=none->Q (.ref l) (upd H l (.lst ys))):=by
 intro pins s σ H xs us Q I r h;obtain⟨p,ys,rfl,hq,q⟩:=h;obtain⟨u,rfl,rx⟩:=lC r;cases rx
 have fin:∀ (its:List Value),bH ys its->ys.length<=sizeLine->∀ (h':Heap) (c':Nat),(∀ b o',s.heap.get? b=some o'->h'.get? b=some o') ->
  h'.get? s.heap.objs.size=some { cls:=.type "list",dict:=none,data:=.seq its.toArray c',slots:=#[] }->EP X pins σ Q (.ref s.heap.objs.size) { s with heap:=h' }:=fun its r' hz h' c' kp e =>
  ⟨.ref s.heap.objs.size,_,I.laid (t':=s.toks) kp (Af _) (show bN X.prog X.w _ h' _ (.lst ys) from ⟨hz,its,c',r',e⟩),rfl,q _ (I.hok.fresh (Af _))⟩
 rcases hq with hq | hq
 · obtain⟨its,r',pl,hz⟩:=I.list hq
   have hlen:=r'.length;obtain⟨o,ho,hc,n,hd⟩:=pl.isList;exact call_list_seq p (.inl rfl) ho hc hd (fun h' c' kp e=>fin its r' hz h' c' kp e) (by simp only[Ag]<;>omega)
 · obtain⟨its,r',pl,hz⟩:=I.tuple hq
   have hlen:=r'.length;obtain⟨o,ho,hc,n,hd⟩:=pl;exact call_list_seq p (.inr rfl) ho hc hd (fun h' c' kp e=>fin its r' hz h' c' kp e) (by simp only[Ag]<;>omega)
theorem rN:iO X (.type "tuple") (fun xs H Q=>∃ p ys,xs=[.ref p]/\((SqL X.K H p ys/\∀ l,H l=none->Q (.ref l) (upd H l (.tup ys)))\/(SqT X.K H p ys/\Q (.ref p) H))):=by
 intro pins s σ H xs us Q I r h;obtain⟨p,ys,rfl,h⟩:=h;obtain⟨u,rfl,rx⟩:=lC r;cases rx;rcases h with ⟨hq,q⟩ | ⟨hq,q⟩
 · obtain⟨its,r',pl,hz⟩:=I.list hq
   have hlen:=r'.length;refine call_tuple_list pl.isList (fun h' kp=>?_) (by simp only[Ag]<;>omega)
   have I1:Inv X pins σ H { s with heap:=h' }:=I.kept (t':=s.toks) kp
   have I2:Inv X pins σ (upd H h'.objs.size (.tup ys)) { s with heap:=h'.push { cls:=.type "tuple",data:=.seq its.toArray } } :=
    I1.laid (t':=s.toks) (fun b o e=>Ad _ e) (Af _) (show bN X.prog X.w _ _ _ (.tup ys) from ⟨hz,its,r',IsTup.new _ _⟩)
   exact⟨.ref h'.objs.size,_,I2,rfl,q _ (I1.hok.fresh (Af _))⟩
 · obtain⟨its,r',pl,hz⟩:=I.tuple hq
   exact call_tuple_same pl ⟨.ref p,H,I,rfl,q⟩
def tyV (K:PySem.W.Frag)(T:String)(x:V)(H:Hp):Prop:=match x with
 | .str _=>T = "str"
 | .int _=>T = "int"
 | .ref p=>(T = "list"/\∃ xs,SqL K H p xs)\/(T = "tuple"/\∃ o,K.lookup p=some o/\o.cls=.type "tuple"/\o.dict=none) \/
  (T = "dict"/\((∃ kvs,H p=some (.dK kvs))\/∃ kvs,H p=some (.dT kvs)))\/(T = "set"/\∃ S n,H p=some (.set S n))
 | _=>False
theorem aK5 {pins:List (Addr×Obj)}{σ:St}{H:Hp}{s:Shared}{T:String}{x:V}{v:Value}(I:Inv X pins σ H s)(r:bI x v)(ty:tyV X.K T x H) :
 s.TypeIs v T/\∀ a,v=.ref a->∃ ob,s.heap.get? a=some ob/\ob.dict=none:=by
 cases x with
 | str z =>
  obtain⟨t,rfl⟩:=r;cases (show T = "str" from ty)
  exact⟨typeIs_str s z t,fun _ e=>nomatch e⟩
 | int i =>
  obtain⟨t,rfl⟩:=r;cases (show T = "int" from ty)
  exact⟨typeIs_int s i t,fun _ e=>nomatch e⟩
 | ref p =>
  cases r;rcases ty with ⟨rfl,xs,hq⟩ | ⟨rfl,o,hk,hc,hd⟩ | ⟨rfl,hk⟩ | ⟨rfl,S,n,hk⟩
  · obtain⟨its,_,pl,_⟩:=I.list hq
    refine⟨pl.isList.typeIs,fun a e=>?_⟩
    cases e;obtain⟨o,n,e,c,hd,_⟩:=pl;exact⟨o,e,hd⟩
  · refine⟨⟨o,I.kIn p o hk,hc⟩,fun a e=>?_⟩
    cases e;exact⟨o,I.kIn _ o hk,hd⟩
  · have z:∃ o,s.heap.get? p=some o/\o.ExactDict:=by
     rcases hk with ⟨kvs,hk⟩ | ⟨kvs,hk⟩
     · obtain⟨_,_,_,_,o,_,_,e,ex,_⟩:=I.hok p _ hk
       exact⟨o,e,ex⟩
     · obtain⟨_,_,_,_,o,_,_,e,ex,_⟩:=I.hok p _ hk
       exact⟨o,e,ex⟩
    obtain⟨o,e,ex⟩:=z;refine⟨⟨o,e,ex.1⟩,fun a e2=>?_⟩
    cases e2;exact⟨o,e,ex.2.1⟩
  · obtain⟨o,_,_,_,e,ex,_⟩:=I.hok p _ hk
    refine⟨⟨o,e,ex.1⟩,fun a e2=>?_⟩
    cases e2;exact⟨o,e,ex.2.1⟩
 | _=>exact False.elim ty
def tBM (K:PySem.W.Frag)(T:String)(r:V->List V->Hp->VK->Prop)(to:TE)(t:TA):TE:=fun σ H Q=>to σ H fun x H1=>tyV K T x H1/\t σ H1 fun xs H2=>r x xs H2 Q
variable {o e:Expr}{es:List Expr}{to:TE}{t:TA}{name:Str}{apos cpos:Pos}{T id:String}{r:V->List V->Hp->VK->Prop}
theorem aJ8 (pa:PlainAttrs T)(slot:Slot T name id)(hty:typeOf (.builtin id)=pure (.type "method_descriptor"))(hm:MtR X id r)(ho:PE X o to)(ha:PA X (e :: es) t)
 (hbase:attributeBase o name X.env (eval o X.env)=eval o X.env:=by rfl)
 (hfew:((backTo cpos (starEach (e :: es) X.env)).all (fun x=>!x.1)&&(backToKw cpos (keywordEach [] X.env)).all (fun x=>x.1.isSome)
  && decide ((e :: es).length+([]:List Keyword).length+(if ([]:List Keyword).isEmpty then 0 else 1)<30))=true:=by rfl)
 (hline:(apos.endLine==cpos.line)=true:=by rfl) (hs:starEach (e :: es) X.env=(false,eval e X.env) :: starEach es X.env:=by rfl) (hplain:(backTo cpos (starEach es X.env)).any (·.1)=false:=by rfl) :
 PE X (.Call (.Attribute o name apos) (e :: es) [] cpos) (tBM X.K T r to t):=by
 intro pins s σ H Q I h;refine wpAny_Call_method_late hbase hfew hline rfl (thn (ho pins s σ H _ I h) fun v s1 ⟨x,H1,I1,r1,ty,q1⟩=>?_)
 obtain⟨h1,h2⟩:=aK5 I1 r1 ty;refine⟨T,id,pa,slot,hty,h1,h2,?_⟩
 have hA:=ha cpos pins s1 σ H1 _ I1 q1;rw[hs]at hA ⊢;refine Calls.callWith_builtin (by show (false||(backTo cpos (starEach es X.env)).any (·.1))=false;rw[hplain]<;>rfl) (Calls.evalArgs_plain ?_)
 exact thn hA fun us s2 ⟨vs,H2,I2,r2,q2⟩=>hm pins s2 σ H2 x vs v us Q I2 r1 r2 q2
end
end L2
namespace L2
open PySem PySem.Spec PyProof.Rows
def MtM (X:Cx)(id:String)(r:V->List V->Hp->VK->Prop):Prop :=
 ∀ (pins:List (Addr×Obj)) (s:Shared) (σ:St) (H:Hp) (x:V) (xs:List V) (v:Value) (us:List Value) (Q:VK),Inv X pins σ H s->bI x v->bH xs us->r x xs H Q ->
  wpAny (model X.prog X.w) X.A (call (.builtin id) (v :: us)) (EP X pins σ Q) X.xe s
theorem bH.one:∀ {x:V} {us:List Value},bH [x] us->∃ u,us=[u]/\bI x u
 | _,_,.cons r .nil=>⟨_,rfl,r⟩
theorem bH.two:∀ {x y:V} {us:List Value},bH [x,y] us->∃ u v,us=[u,v]/\bI x u/\bI y v
 | _,_,_,.cons r (.cons q .nil)=>⟨_,_,rfl,r,q⟩
theorem bH.zero:∀ {us:List Value},bH [] us->us=[]
 | _,.nil=>rfl
theorem bH.dropLast {xs:List V}{us:List Value}(h:bH xs us):bH xs.dropLast us.dropLast:=by
 induction h with
 | nil=>exact .nil
 | cons r t ih =>
  cases t with
  | nil=>exact .nil
  | cons q t'=>exact .cons r ih
section
variable {X:Cx}{pins:List (Addr×Obj)}{σ:St}{H:Hp}{s:Shared}{l b:Addr}{xs ys zs:List V}
theorem Inv.lset {its its':List Value}{n:Nat}{f:Array Value->Array Value}{t':Nat}(I:Inv X pins σ H s)(hH:H l=some (.lst xs))
 (e:s.heap.get? l=some { cls:=.type "list",data:=.seq its.toArray n }) (hf:f its.toArray=its'.toArray) (hv:bH ys its') (hz:ys.length<=sizeLine) :
 Inv X pins σ (upd H l (.lst ys)) { s with heap:=s.heap.update l (Obj.mapSeq f),toks:=t' }:=by
 have q:=PySem.IsL.update e f;rw[hf]at q;refine I.write (x:=l) (e:=l) (by rw[hH];exact trivial) (.inl rfl) (fun b' u hb hu=>(Dr s.heap (Obj.mapSeq f) (Ne.symm hb)).trans hu) ⟨_,q⟩ ?_
 exact⟨hz,its',_,hv,q⟩
theorem Inv.lnew {its:List Value}{t':Nat}(I:Inv X pins σ H s)(hv:bH ys its)(hz:ys.length<=sizeLine) :
 Inv X pins σ (upd H s.heap.objs.size (.lst ys)) { s with heap:=s.heap.push { cls:=.type "list",data:=.seq its.toArray },toks:=t' } :=
 I.laid (fun _ _ q=>Ad _ q) (Af _) ⟨hz,its,0,hv,Aq _ rfl⟩
theorem Inv.fresh (I:Inv X pins σ H s):H s.heap.objs.size=none:=I.hok.fresh (Af _)
theorem Inv.lstM (I:Inv X pins σ H s)(hH:H l=some (.lst xs)):xs.length<=sizeLine/\∃ (its:List Value) (n:Nat),bH xs its/\xs.length=its.length/\s.heap.get? l=some { cls:=.type "list",data:=.seq its.toArray n }:=by
 obtain⟨z,its,n,r,e⟩:=I.hok l _ hH;exact⟨z,its,n,r,r.length,e⟩
theorem aGc {n:Nat}(h:n<=sizeLine):Builtin.List.listTooLong n=false:=by
 unfold Builtin.List.listTooLong;exact decide_eq_false (by omega)
end
section
variable {X:Cx}
def aHo:V->List V->Hp->VK->Prop:=fun x vs H Q=>∃ l xs y,x=.ref l/\vs=[y]/\H l=some (.lst xs)/\xs.length<sizeLine/\Q .non (upd H l (.lst (xs++[y])))
theorem sP:MtM X "list.append" aHo:=by
 intro pins s σ H x vs v us Q I rx rv h;obtain⟨l,xs,y,rfl,rfl,hH,hz,q⟩:=h;cases rx;obtain⟨u,rfl,ru⟩:=rv.one;obtain⟨z,its,n,r,hl,e⟩:=I.lstM hH;refine call_meets F.slot_list_append ⟨_,e,rfl⟩ F.entry_list_append (F.args_list_append_2 _ _) (PySem.list_append l its.toArray n u (by rw[Ag];omega)) ⟨e,?_⟩
 refine⟨.non,_,I.lset (its':=its++[u]) hH e (by simp) (r.append (.cons ru .nil)) ?_,rfl,q⟩
 rw[An,Ck];omega
def aI0:V->List V->Hp->VK->Prop:=fun x vs H Q=>∃ l b xs zs,x=.ref l/\vs=[.ref b]/\H l=some (.lst xs)/\H b=some (.lst zs)/\xs.length+zs.length<=sizeLine/\Q .non (upd H l (.lst (xs++zs)))
theorem aB7:MtM X "list.extend" aI0:=by
 intro pins s σ H x vs v us Q I rx rv h;obtain⟨l,b,xs,zs,rfl,rfl,hH,hB,hz,q⟩:=h;cases rx;obtain⟨u,rfl,ru⟩:=rv.one;cases ru;obtain⟨z,its,n,r,hl,e⟩:=I.lstM hH;obtain⟨z2,its2,n2,r2,hl2,e2⟩:=I.lstM hB;have hsz:its.toArray.size+its2.toArray.size<=sizeLine:=by rw[Ag,Ag];omega
 have hlong:¬ (!its.toArray.isEmpty&&Builtin.List.listTooLong (its.toArray.size+its2.toArray.size))=true:=by
  rw[aGc hsz,Bool.and_false];exact Bb
 refine call_meets F.slot_list_extend ⟨_,e,rfl⟩ F.entry_list_extend (F.args_list_extend_2 _ _)
  (AutoSeq1.list_extend_list_list_0 l its.toArray n b its2.toArray n2 hlong (by rw[Ag];omega) (by omega)) ⟨e,e2,?_⟩
 refine⟨.non,_,I.lset (its':=its++its2) hH e (by simp) (r.append r2) ?_,rfl,q⟩
 rw[An];omega
end
end L2
namespace Att
open PySem PySem.W PySem.Calls PyProof.Rows
theorem oH {P:Params}{h:Heap}:∀ (ns:List Int) (vs:List Value),WellAll P h vs (ns.map WData.int)->IntsAre vs ns:=by
 intro ns;induction ns with
 | nil =>
  intro vs w;rw[List.map_nil]at w;cases w;exact .nil
 | cons n ns ih =>
  intro vs w;rw[Ap]at w;cases w with
  | cons a b =>
   cases a;exact .cons _ _ (ih _ b)
theorem aB1 {l:OpenLaw}{n:Nat}(hn:l.most=some n){P:Params}{h:Heap}{args:List WData}{vals:List Value}
 (hpre:l.row.toRowW.claim.pre args=true) (hwl:WellAll P h vals args) :
 ∃ a vs ns,vals=[Value.ref a]/\args=[WData.list (ns.map WData.int)]/\h.get? a=some { cls:=.type "list",data:=.seq vs.toArray }/\IntsAre vs ns/\ns.length<=n:=by
 have hsh:WShape.hasAll [] args [.list .int]=true:=(pre_splitW hpre).1;have hc:l.pre.holds [] { args:=args }=true:=(pre_splitW hpre).2;obtain⟨d,r,rfl,h1,h2⟩:=hasAllW_cons hsh;obtain rfl:=hasAllW_nil h2;obtain⟨xs,rfl,h3⟩:=hasW_list h1;obtain⟨ns,rfl⟩:=items_int h3
 have hlen:ns.length<=n:=by
  unfold OpenLaw.pre at hc
  have h4:(WTm.not (.lt (.lit (.int (n:Int))) (.len (.arg 0)))).holds [] { args:=[.list (ns.map .int)] }=true:=by
   have h4:=(holds_andW hc).1;rw[hn]at h4;exact h4
  have h5:=condW_of h4 (w_not (w_lt w_lit (w_len_list (w_arg rfl))));rw[Ab]at h5;refine Nat.le_of_not_lt fun q=>?_
  have q':(n:Int)<((ns.length:Nat):Int):=by omega
  first
   | (rw[decide_eq_true q']at h5;exact absurd h5 (by decide))
   | (simp at h5;omega)
 cases hwl with
 | cons w1 w2 =>
  cases w2;cases w1 with
  | list ho hall=>exact⟨_,_,ns,rfl,rfl,ho,oH ns _ hall,hlen⟩
theorem aDn (l:OpenLaw)(args:List WData):l.row.toRowW.claim.post args (.bool true) args=true :=
 postW_of (r:=l.row.toRowW) (X:=(true==true))
  (show WShape.has [] (.bool true) .bool=true by first | rfl | decide | simp[WShape.has,WShape.arms,WShape.armsAll])
  (show (WTm.eq .res (.lit (.bool true))).value [] { args:=args,res:=some (.bool true),after:=args }=some (.bool (true==true)) from w_eq_bool (w_res rfl) w_lit) rfl
theorem yT {l:OpenLaw}{n:Nat}{q:Program}{loose:List Str}{XP:(Str->Option Value)->Heap->Prop}{YP:World->Heap->Prop}{d:DefRec}
 (hn:l.most=some n) (hdf:d.params.defaults=[])
 (call:∀ (w:World) (s₀ s₁:Shared) (mg mb:Str->Option Value) (fa:Addr) (o:Obj) (pm cd doc:Value) (a:Addr) (vs:List Value) (ns:List Int),
  Ground q loose [] XP w s₀ mg mb s₁.heap->YP w s₁.heap ->
  s₁.heap.get? fa=some o->o.data=.func (docDef d.name d.params d.body d.scope pm cd doc)->s₁.heap.CodeRec cd d.name->mg d.name=some (.ref fa) ->
  s₁.heap.get? a=some { cls:=.type "list",data:=.seq vs.toArray }->IntsAre vs ns->ns.length<=n->s₁.gens=#[] ->
  codeAny (model l.prog w) callerA (.call (.ref fa) ⟨[.ref a],[]⟩) (fun r s'=>r=.ok (.ret (.bool true))/\OldK s₁.heap s'.heap/\s'.os=s₁.os/\AllBare s'.gens) s₁) :
 WalkO q loose XP YP l.row.toRowW d [] (fun f vs=>PySem.call f vs):=by
 intro w s₀ s₁ mg mb G Y fa o pm cd doc dV kV ho hd hcd hD hmg hg args vals as hpre hlay hrd hwl hlo;obtain rfl:dV=.none:=Dflts.none hD hdf;obtain rfl:kV=.none:=Dflts.noKw hD;obtain⟨a,vs,ns,rfl,rfl,hobj,hints,hlen⟩:=aB1 hn hpre hwl;refine enter_call (codeAny_mono (call w s₀ s₁ mg mb fa o pm cd doc a vs ns G Y ho (fd_plain hd) hcd hmg hobj hints hlen hg) fun r s' hq=>?_)
 obtain⟨rfl,h2,h3,h4⟩:=hq;exact⟨.inl ⟨.bool true,.bool true,[],rfl,fun _=>rfl,.bool true,aDn l _,fun _=>⟨Cp,fun _ hm=>(nomatch hm)⟩⟩,h2,h3,h4⟩
end Att
namespace L2
open PySem PySem.Spec PyProof.Rows
theorem uF:∀ {vs:List Value} {ns:List Int},IntsAre vs ns->bH (ns.map V.int) vs
 | _,_,.nil=>.nil
 | _,_,.cons n t h=>.cons ⟨t,rfl⟩ (uF h)
def aLo (H:Hp):Prop:=∀ b,H b=none\/∃ o xs,H b=some (.frz o (.lst xs))
theorem aE4 {P:Program}{w:World}{K:PySem.W.Frag}{mg mb:Str->Option Value}{CX:CXT}{k:Nat}{fa a:Addr}{fd:FuncData}{x:Str}{sp:Sp}{s₁:Shared}{vs:List Value}{ns:List Int}
 (KX:K.In s₁.heap) (hns:s₁.heap.Ns mainGlobals mg) (hb:s₁.heap.Ns builtinsNs mb) (hbb:∀ x:Str,x ≠ "__name__"->mb x=bootBuiltins x) (hlim:s₁.heap.NoLimit) (hg:s₁.gens=#[])
 (ha:s₁.heap.get? a=some { cls:=.type "list",data:=.seq vs.toArray }) (hi:IntsAre vs ns) (hl:ns.length<=sizeLine) (hr:Room k callerA)
 (F:∀ base:Heap,K.In base->base.Ns mainGlobals mg->FnOk P w K mg base CX k fa fd [x] sp) (hbind:∀ (s:Shared) (u:Value),BindsTo s fd ⟨[u],[]⟩ [(x,u)])
 (hsp:∀ H:Hp,aLo H->SqL K H a (ns.map V.int)->sp [.ref a] H (fun v _=>v=.bl true) fun _ _ _=>False)
 (hCX:∀ H e s',CX [] H s₁ (fun _ _ _=>False) e s'->False) :
 codeAny (model P w) callerA (.call (.ref fa) ⟨[.ref a],[]⟩) (fun r s'=>r=.ok (.ret (.bool true))/\OldK s₁.heap s'.heap/\s'.os=s₁.os/\AllBare s'.gens) s₁:=by
 have rv:=uF hi;have lenV:=hi.length
 have core:∀ H:Hp,aLo H->SqL K H a (ns.map V.int)->HOk P w H s₁.heap->(∀ b,H b≠none->b=a)->(H a≠none->K.lookup a=none) ->
  codeAny (model P w) callerA (.call (.ref fa) ⟨[.ref a],[]⟩) (fun r s'=>r=.ok (.ret (.bool true))/\OldK s₁.heap s'.heap/\s'.os=s₁.os/\AllBare s'.gens) s₁:=by
  intro H hO hS hok hA hK;have base_of:∀ {b:Addr} {o:Obj},s₁.heap.get? b=some o->H b=none->(vR s₁.heap H).get? b=some o:=fun e n=>aE2 e n
  have noA:∀ {b:Addr} {o:Obj} {es:Array DictEntry} {ep:Nat},s₁.heap.get? b=some o->o.data=.dict es ep->H b=none:=fun {b o es ep} e d=>by
   cases q:H b with
   | none=>rfl
   | some u =>
    have e':b=a:=hA b (by rw[q];simp)
    subst e';rw[ha]at e;cases e;have d':Data.seq vs.toArray _=Data.dict es ep:=d;cases d'
  have nsK:∀ {b:Addr} {m:Str->Option Value},s₁.heap.Ns b m->(vR s₁.heap H).Ns b m:=fun {b m} ⟨o,es,ep,e,d,r⟩=>⟨o,es,ep,base_of e (noA e d),d,r⟩
  have hKb:K.In (vR s₁.heap H):=fun b o e=>base_of (KX b o e) (by
   cases q:H b with
   | none=>rfl
   | some u =>
    have e':b=a:=hA b (by rw[q];simp)
    subst e'
    rw[hK (by rw[q];simp)]at e;cases e)
  have hM:Mod K mg (vR s₁.heap H):=⟨hKb,nsK hns,⟨mb,nsK hb,hbb⟩,let ⟨mc,h1,h2⟩:=hlim;⟨mc,nsK h1,h2⟩⟩
  have e0:Env0 P w K mg (vR s₁.heap H) callerA [] s₁ H:=⟨rfl,hM,fun b o e=>aH6 e,Nat.le_of_eq (aDo _ _),trivial,fun b hb=>absurd (show b∈([]:List Addr) from hb) (by simp),hok,.of_eq hg⟩
  refine codeAny_mono ((F _ hKb (nsK hns)).run callerA [] s₁ H ⟨[.ref a],[]⟩ [.ref a] [.ref a] _ _ hr e0 (hbind s₁ (.ref a)) (.cons rfl .nil) (hsp H hO hS)) fun r s' h=>?_
  cases r with
  | error e=>exact(hCX H e s' h).elim
  | ok fl =>
   cases fl with
   | next=>exact False.elim h
   | brk=>exact False.elim h
   | cont=>exact False.elim h
   | ret u =>
    obtain⟨v,H',os,bare,un,hok',r',q⟩:=h;have q':v=.bl true:=q;subst q';obtain rfl:u=Value.bool true:=r';refine⟨rfl,OldK.of_keep fun b o e=>?_,os,bare⟩
    cases q:H b with
    | none=>exact un.keep b o e q (by intro z;exact absurd (show b∈([]:List Addr) from z) (by simp)) (by simp)
    | some u =>
     rcases hO b with z | ⟨ob,xs,z⟩
     · rw[q]at z;cases z
     · have z2:=un.frzs b ob _ z
       obtain⟨e1,_⟩:=hok b _ z;obtain⟨e2,_⟩:=hok' b _ z2;rw[e]at e1;cases e1;exact e2
 cases hk:K.lookup a with
 | some o =>
  have e:=KX a o hk;rw[ha]at e;cases e;refine core (fun _=>none) (fun _=>.inl rfl) (.inr ⟨_,vs.toArray,_,hk,rfl,rfl,rfl,by rw[Ag,lenV];exact hl,by simpa using rv⟩) (fun b u z=>by have z':(none:Option HO)=some u:=z;cases z') (fun b z=>absurd rfl z) fun z=>absurd rfl z
 | none =>
  refine core (fun b=>if b=a then some (.frz { cls:=.type "list",data:=.seq vs.toArray } (.lst (ns.map V.int))) else none) (fun b=>?_) (.inl (.inr ⟨{ cls:=.type "list",data:=.seq vs.toArray },if_pos rfl⟩)) (fun b u z=>?_) (fun b z=>?_) fun _=>hk
  · by_cases hb:b=a
    · exact .inr ⟨_,_,if_pos hb⟩
    · exact .inl (if_neg hb)
  · by_cases hb:b=a
    · have z':=(if_pos hb).symm.trans z
      cases z';subst hb;exact⟨ha,by rw[Ab];exact hl,vs,_,rv,ha⟩
    · have z':=(if_neg hb).symm.trans z
      cases z'
  · by_cases hb:b=a
    · exact hb
    · exact absurd (if_neg hb) z
end L2
namespace L2
open PySem PySem.Spec PyProof.Rows
theorem aJk {l:PySem.W.OpenLaw}{n k:Nat}{q:Program}{loose:List Str}{XP:(Str->Option Value)->Heap->Prop}{YP:World->Heap->Prop}{d:DefRec}{K:Params->PySem.W.Frag}{CX:World->CXT}{sp:World->Sp}{x:Str}
 (hn:l.most=some n) (hn2:n<=sizeLine) (hdf:d.params.defaults=[]) (hr:Room k callerA)
 (hY:∀ (w:World) (h:Heap),YP w h->(K w.params).In h)
 (F:∀ (w:World) (mg:Str->Option Value) (fa:Addr) (h:Heap),(K w.params).In h->h.Ns mainGlobals mg->mg d.name=some (.ref fa) ->
  ∃ fd:FuncData,(∀ (s:Shared) (u:Value),BindsTo s fd ⟨[u],[]⟩ [(x,u)]) /\
   ∀ base:Heap,(K w.params).In base->base.Ns mainGlobals mg->FnOk l.prog w (K w.params) mg base (CX w) k fa fd [x] (sp w))
 (hsp:∀ (w:World) (H:Hp) (a:Addr) (ns:List Int),ns.length<=n->aLo H->SqL (K w.params) H a (ns.map V.int)->sp w [.ref a] H (fun v _=>v=.bl true) fun _ _ _=>False)
 (hCX:∀ (w:World) (H:Hp) (s:Shared) (e:Value) (s':Shared),CX w [] H s (fun _ _ _=>False) e s'->False) :
 PySem.W.WalkO q loose XP YP l.row.toRowW d [] (fun f vs=>PySem.call f vs):=by
 refine Att.yT hn hdf fun w s₀ s₁ mg mb fa o pm cd doc a vs ns G Y ho hd hcd hmg hobj hints hlen hg=>?_
 have KX:=hY w _ Y;obtain⟨fd,hb,hF⟩:=F w mg fa _ KX G.T.g hmg;exact aE4 KX G.T.g G.T.b G.T.builtins G.T.nolimit hg hobj hints (Ak hlen hn2) hr hF hb (fun H hO hS=>hsp w H a ns hlen hO hS) fun H e s'=>hCX w H s₁ e s'
end L2
namespace L2
open PySem PySem.Spec PyProof.Rows
def hJ (s:Stmt):Arguments:=match s with
 | .FunctionDef _ a _ _ _ _ _ _ _ _=>a
 | _=>{ posonlyargs:=[],args:=[],vararg:=none,kwonlyargs:=[],kw_defaults:=[],kwarg:=none,defaults:=[] }
def fO (s:Stmt):List Stmt:=match s with
 | .FunctionDef _ _ b _ _ _ _ _ _ _=>b
 | _=>[]
def aY (s:Stmt):Scope:=match s with
 | .FunctionDef _ _ _ _ _ _ sc _ _ _=>sc
 | _=>{ kind:=.function,names:=[],isGenerator:=false,isCoroutine:=false }
structure Fun (K:PySem.W.Frag)(x qual:Str)(st:Stmt)(f:Addr)(fd:FuncData):Prop where
 ex:∃ (oc:Value) (od:Option Addr) (kV doc pm:Value) (an:Option Addr) (cdv ct:Value) (osl:Array (Option Value)),
  fd=Cs x qual (hJ st) (fO st) (aY st) .none kV doc pm an cdv ct/\K.lookup f=some ⟨oc,od,.func fd,osl⟩/\Ei K cdv qual=true
 kp:Eh K (.ref f)=true
section
variable {P:Program}{w:World}{K:PySem.W.Frag}{mg:Str->Option Value}{base:Heap}
theorem Fun.binds {x qual:Str}{st:Stmt}{f:Addr}{fd:FuncData}{ps:List Str}(F:Fun K x qual st f fd)
 (h:∀ (kV doc pm:Value) (an:Option Addr) (cdv ct:Value) (us:List Value),us.length=ps.length->bindArgs (Cs x qual (hJ st) (fO st) (aY st) .none kV doc pm an cdv ct) ⟨us,[]⟩=pure (ps.zip us)):tF K fd ps []:=by
 obtain⟨oc,od,kV,doc,pm,an,cdv,ct,osl,rfl,lk,hcd⟩:=F.ex;exact .all (h kV doc pm an cdv ct)
theorem aEv {x qual:Str}{st:Stmt}{f:Addr}{oc:Value}{od an:Option Addr}{osl:Array (Option Value)}{kV doc pm cdv ct:Value}(l:K.lookup f=some ⟨oc,od,.func (Cs x qual (hJ st) (fO st) (aY st) .none kV doc pm an cdv ct),osl⟩)
 (c:Ei K cdv qual=true) (k:Eh K (.ref f)=true):Fun K x qual st f (Cs x qual (hJ st) (fO st) (aY st) .none kV doc pm an cdv ct):=⟨⟨oc,od,kV,doc,pm,an,cdv,ct,osl,rfl,l,c⟩,k⟩
end
theorem aKx {A B:Prop}(h:B):if false=true then A else B:=by
 rw[if_neg Bb];exact h
theorem aMw {A B:Prop}(h:A):if true=true then A else B:=by
 rw[if_pos rfl];exact h
def aI (H H':Hp):Prop:=∀ b o,H b=some o->H' b=some o
theorem aI.refl (H:Hp):aI H H:=fun _ _ h=>h
theorem aI.trans {H H1 H2:Hp}(a:aI H H1)(b:aI H1 H2):aI H H2:=fun c o h=>b c o (a c o h)
theorem aI.free {H H':Hp}(e:aI H H'){l:Addr}(h:H' l=Fy):H l=Fy:=by
 cases q:H l with
 | none=>rfl
 | some o =>
  rw[e l o q]at h;cases h
theorem aI.seq {K:PySem.W.Frag}{H H':Hp}{a:Addr}{xs:List V}(e:aI H H')(h:SqL K H a xs):SqL K H' a xs:=by
 rcases h with (h | ⟨o,h⟩) | h
 · exact .inl (.inl (e _ _ h))
 · exact .inl (.inr ⟨o,e _ _ h⟩)
 · exact .inr h
end L2
namespace L2
open PySem PySem.Spec PyProof.Rows
section
variable {pg:Program}{w:World}{A:Around}
abbrev nox:Value->Shared->Prop:=fun _ _=>False
abbrev wpN {α:Type}(pg:Program)(w:World)(A:Around)(t:Sem α)(Q:α->Shared->Prop)(s:Shared):Prop:=wpAny (model pg w) A t Q nox s
def aFs (ifs:List Expr)(env:Env):Sem Bool :=
 forIn ifs true fun c r =>
  if r=true then do
   let ok ← isTrue c env (eval c env)
   pure (ForInStep.yield ok)
  else pure (ForInStep.yield r)
def aE3 (pg:Program)(w:World)(A:Around)(elt tg:Expr)(ifs:List Expr)(it acc:Value)(env:Env)(J:Shared->Prop)(v:Value)(s:Shared):Prop :=
 wpN pg w A (letOwnedTupleGo tg it v) (fun _ sa=>wpN pg w A (assign tg env v) (fun _ sb=>wpN pg w A (aFs ifs env) (fun ok sc =>
  if ok=true then wpN pg w A (eval elt env) (fun x sd=>wpN pg w A (call (.builtin "list.append") [acc,x]) (fun _ se=>J se) sd) sc else J sc) sb) sa) s
theorem mo {α:Type}{t:Sem α}{Q Q':α->Shared->Prop}{E:Value->Shared->Prop}{s:Shared}(h:wpN pg w A t Q s)(k:∀ a s',Q a s'->Q' a s'):wpAny (model pg w) A t Q' E s :=
 wpAny_mono h k (fun _ _ f=>False.elim f)
theorem vT {elt target iter:Expr}{ifs:List Expr}{scope:Scope}{pos:Pos}{it acc:Value}{env:Env}{R:Result->Shared->Prop}{s₀:Shared}(I:Nat->Shared->Prop)
 (turn:∀ n s,I n s->wpN pg w A (pyNext it) (fun r s₁=>match r with
  | none=>R (.ok .next) s₁
  | some v=>aE3 pg w A elt target ifs it acc env (fun s'=>∃ m,m<n/\I m s') v s₁) s)
 (top:Nat) (start:I top s₀):codeAny (model pg w) A (.compLoop (.ListComp elt [⟨target,iter,ifs,0⟩] scope pos) 0 it acc env) R s₀:=by
 apply codeAny_loop rfl I _ top start
 intro n s hI;apply wpAny_noted
 rw[compTurn_list];refine wpAny_bind (wpAny_standAt (wpAny_bind (mo (turn n s hI) ?_)))
 rintro (_ | v) s₁ goal
 · exact wpAny_pure goal
 · refine wpAny_bind (mo goal fun _ sa ga=>wpAny_bind (mo ga fun _ sb gb=>wpAny_bind (mo gb ?_)))
   rintro (_ | _) sc gc
   · exact wpAny_pure (And.intro rfl gc)
   · refine wpAny_bind (wpAny_bind (mo gc fun x sd gd=>wpAny_bind (mo gd fun _ se ge=>?_)))
     exact wpAny_pure (wpAny_pure (And.intro rfl ge))
end
theorem cL:∀ (names:List (Str×NameKind)) (n:Nat) (acc:List (Str×Addr)),cellsFrom n names acc=cellsFrom n names []++acc
 | [],_,_=>rfl
 | (x,k) :: r,n,acc=>by
  unfold cellsFrom;split
  · rw[cL r (n+1) ((x,n) :: acc),cL r (n+1) [(x,n)],Db];rfl
  · exact cL r n acc
theorem iI:∀ (names:List (Str×NameKind)) (n:Nat) {x:Str} {c:Addr},(x,c)∈cellsFrom n names []->(x,NameKind.cell)∈names
 | [],_,_,_,h=>by simp[cellsFrom]at h
 | (y,k) :: r,n,x,c,h=>by
  unfold cellsFrom at h;split at h
  · rename_i hk
    rw[cL]at h;have two:=Bg.mp h;rcases two with h | h
    · exact Ac _ (iI r _ h)
    · have e:(x,c)=(y,n):=by simpa using h
      have e2:k=NameKind.cell:=by simpa using hk
      cases e;rw[e2];exact Aa
  · exact Ac _ (iI r n h)
def jA (cells:List (Str×Addr)):List (Str×NameKind)->List (Str×Addr)->List (Str×Addr)
 | [],acc=>acc
 | (n,k) :: r,acc=>jA cells r (if k==.free then ((cells.lookup n).map fun c=>(n,c)).toList++acc else acc)
theorem qH {cells:List (Str×Addr)}:∀ (names:List (Str×NameKind)) (acc:List (Str×Addr)) {x:Str} {c:Addr},(x,c)∈jA cells names acc->(x,c)∈acc\/cells.lookup x=some c
 | [],_,_,_,h=>.inl h
 | (n,k) :: r,acc,x,c,h=>by
  unfold jA at h;rcases qH r _ h with h | h
  · split at h
    · have two:=Bg.mp h
      rcases two with h | h
      · cases e:cells.lookup n with
        | none=>rw[e]at h;simp at h
        | some c' =>
         rw[e]at h;have e2:(x,c)=(n,c'):=by simpa using h
         cases e2;exact .inr e
      · exact .inl h
    · exact .inl h
  · exact .inr h
theorem rA {cells:List (Str×Addr)}:∀ (names:List (Str×NameKind)) (acc:List (Str×Addr)) {x:Str} {c:Addr},((x,c)∈acc\/((x,NameKind.free)∈names/\cells.lookup x=some c))->(x,c)∈jA cells names acc
 | [],_,_,_,h=>h.elim id fun h=>by simp at h
 | (n,k) :: r,acc,x,c,h=>by
  unfold jA;refine rA r _ ?_
  rcases h with h | ⟨h,e⟩
  · left
    split
    · exact Aw _ h
    · exact h
  · rcases Ai.mp h with h | h
    · cases h
      left
      rw[if_pos (by rfl),e]
      simp
    · exact .inr ⟨h,e⟩
theorem rX {scope:Scope}{env:Env}(h:∀ y∈scope.names,y.2=.free->∃ c,env.cells.lookup y.1=some c):closureFor scope env=pure (jA env.cells scope.names []):=by
 unfold closureFor
 have go:∀ (names:List (Str×NameKind)) (acc:List (Str×Addr)),(∀ y∈names,y.2=.free->∃ c,env.cells.lookup y.1=some c) ->
  (forIn names acc fun x r=>match x with
   | (name,kind)=>if (kind==NameKind.free)=true then do let a ← cellOf env name;pure (ForInStep.yield ((name,a) :: r)) else pure (ForInStep.yield r):Sem (List (Str×Addr)))=pure (jA env.cells names acc):=by
  intro names;induction names with
  | nil=>intro acc _;rfl
  | cons y r ih =>
   obtain⟨n,k⟩:=y;intro acc hh;rw[List.forIn_cons];unfold jA;by_cases hk:(k==NameKind.free)=true
   · have e2:k=NameKind.free:=by simpa using hk
     obtain⟨c,hc⟩:=hh (n,k) Aa e2;have hcell:cellOf env n=pure c:=by unfold cellOf;rw[hc]
     simp only[hk,if_true,hcell,pure_bind,hc,Ec,Option.toList_some,List.singleton_append];exact ih _ fun y hy=>hh y (Ac _ hy)
   · simp only[hk,if_false,pure_bind]
     exact ih _ fun y hy=>hh y (Ac _ hy)
 have:=go scope.names [] h
 simp only[this,pure_bind]
theorem lH {α:Type}:∀ {l:List (Str×α)} {x:Str} {a:α},(l.map (·.1)).Nodup->(x,a)∈l->l.lookup x=some a
 | (y,b) :: r,x,a,hn,h=>by
  have hn:=Ca.mp (show (y :: r.map (·.1)).Nodup from hn)
  rcases Ai.mp h with h | h
  · cases h
    simp
  · have hne:x≠y:=fun e=>hn.1 (by rw[←e];exact Ar.mpr ⟨(x,a),h,rfl⟩)
    rw[Bq,beq_false_of_ne hne];exact lH hn.2 h
theorem cD {α:Type}:∀ {l:List (Str×α)} {x:Str},x∈l.map (·.1)->∃ a,l.lookup x=some a
 | (y,b) :: r,x,h=>by
  rw[Bq];cases e:x==y with
  | true=>exact⟨b,rfl⟩
  | false =>
   rw[Ap]at h;rcases Ai.mp h with h | h
   · rw[h]at e;simp at e
   · exact cD h
def yK (scope:Scope)(C:Addr)(env:Env):Env:=compEnvC scope (cellsFrom (C+1) scope.names (jA env.cells scope.names [])) C env
def cQ (X:Cx)(scope:Scope)(N:List Str)(fp:List Addr)(s:Shared)(H:Hp):Cx :=
 { X with N:=N,s₀:=s,H₀:=H,env:=yK scope s.heap.objs.size X.env,outer:=X.stack,stack:=X.stack,ex:=fp,fn:=fun x=>decide (scope.names.lookup x=some .cell),pn:=[],xe:=fun _ _=>False }
structure CompOk (X:Cx)(scope:Scope)(N:List Str)(k:Nat)(fs:List Nat):Prop where
 kind:scope.kind=.function
 nd:(scope.names.map (·.1)).Nodup
 free:∀ y∈scope.names,y.2=.free->y.1∈X.env.cells.map (·.1)
 len:N.length=k+fs.length
 out:∀ (j i:Nat),fs[j]?=some i->∃ x,N[k+j]?=some x/\X.N[i]?=some x/\scope.names.lookup x=some .free/\(X.env.kindOf x=some .cell\/X.env.kindOf x=some .free)
def eO (k:Nat)(fs:List Nat)(σ:St):St:=Dh k none++fs.map fun i=>(σ[i]?).join
def sH (k:Nat)(g:TG):Prop:=∀ x σ H Q,g x σ H Q->g x σ H fun σ' H'=>Q σ' H'/\σ'.length=σ.length/\∀ i,k<=i->σ'[i]?=σ[i]?
def xE (k:Nat)(g:TGs):Prop:=∀ x σ H Q,g x σ H Q->g x σ H fun σ' H'=>Q σ' H'/\σ'.length=σ.length/\∀ i,k<=i->σ'[i]?=σ[i]?
theorem aGr {k i:Nat}(h:i<k):sH k (xU i):=fun x σ H Q q=>⟨q,by simp,fun j hj=>by rw[Ah (by omega)]⟩
theorem aFp {k:Nat}:xE k aG6:=fun x σ H Q ⟨e,q⟩=>⟨e,q,rfl,fun _ _=>rfl⟩
def wU (g:TG):Prop:=∀ x σ H Q Q',(∀ σ' H',Q σ' H'->Q' σ' H')->g x σ H Q->g x σ H Q'
def nN (g:TGs):Prop:=∀ x σ H Q Q',(∀ σ' H',Q σ' H'->Q' σ' H')->g x σ H Q->g x σ H Q'
theorem aCt {i:Nat}:wU (xU i):=fun _ _ _ _ _ h q=>h _ _ q
theorem aDa:nN aG6:=fun _ _ _ _ _ h ⟨e,q⟩=>⟨e,h _ _ q⟩
theorem zK {t:TG}{u:TGs}(h1:wU t)(h2:nN u):nN (aBd t u):=fun x σ H Q Q' h ⟨v,r,e,q⟩=>⟨v,r,e,h1 _ _ _ _ _ (fun σ' H' q'=>h2 _ _ _ _ _ h q') q⟩
theorem aFy {K:PySem.W.Frag}{n:Nat}{u:TGs}(h:nN u):wU (aGy K n u):=fun x σ H Q Q' hq ⟨a,xs,e,h1,h2,q⟩=>⟨a,xs,e,h1,h2,h _ _ _ _ _ hq q⟩
theorem aB4 {k:Nat}{t:TG}{u:TGs}(m1:wU t)(m2:nN u)(h1:sH k t)(h2:xE k u):xE k (aBd t u):=fun x σ H Q ⟨v,r,e,q⟩=>by
 refine⟨v,r,e,?_⟩
 refine m1 _ _ _ _ _ (fun σ' H' q'=>?_) (h1 _ _ _ _ q)
 obtain⟨q1,l1,a1⟩:=q';refine m2 _ _ _ _ _ (fun σ2 H2 q2=>?_) (h2 _ _ _ _ q1)
 obtain⟨q3,l3,a3⟩:=q2;exact⟨q3,l3.trans l1,fun i hi=>(a3 i hi).trans (a1 i hi)⟩
theorem aIc {k n:Nat}{K:PySem.W.Frag}{u:TGs}(h:xE k u):sH k (aGy K n u):=fun x σ H Q ⟨a,xs,e,h1,h2,q⟩=>⟨a,xs,e,h1,h2,h _ _ _ _ q⟩
section
variable {X:Cx}{pins:List (Addr×Obj)}{σ:St}{H:Hp}{s:Shared}{scope:Scope}{N:List Str}{k:Nat}{fs:List Nat}{fp:List Addr}
theorem CompOk.clos (C:CompOk X scope N k fs):closureFor scope X.env=pure (jA X.env.cells scope.names []):=rX fun y hy hf=>cD (C.free y hy hf)
theorem CompOk.names (C:CompOk X scope N k fs):∀ y∈scope.names,y.2=.local->scope.names.lookup y.1=some .local:=fun y hy e=>lH C.nd (by rw[←e];exact hy)
theorem xV {cells:List (Str×Addr)}{names:List (Str×NameKind)}{x:Str}{c:Addr}(h:(jA cells names []).lookup x=some c):cells.lookup x=some c :=
 (qH names [] (mem_of_lookup h)).elim (fun z=>by simp at z) id
theorem gN {cells:List (Str×Addr)}{C:Nat}{x:Str}{c:Addr}(h:(cellsFrom (C+1) scope.names (jA cells scope.names [])).lookup x=some c) :
 (x,c)∈cellsFrom (C+1) scope.names []\/cells.lookup x=some c:=by
 rw[cL]at h;rcases Bg.mp (mem_of_lookup h) with z | z
 · exact .inl z
 · exact .inr ((qH _ _ z).elim (fun z=>by simp at z) id)
theorem vM {env:Env}{x:Str}:(relabel scope env).names.lookup x=some .cell\/(relabel scope env).names.lookup x=some .free->scope.names.lookup x=some .cell\/scope.names.lookup x=some .free:=by
 unfold relabel;generalize scope.names=names
 induction names with
 | nil=>simp
 | cons y r ih =>
  obtain⟨n,kd⟩:=y;simp only[Ap];by_cases hx:(x==n)=true
  · split
    · rename_i hc
      intro _
      have:(kd==NameKind.free)=true:=by
       have hc:=De.mp hc;exact(De.mp hc.1).1
      have e:kd=NameKind.free:=by simpa using this
      rw[Bq,hx,e];exact .inr rfl
    · intro h
      simp only[Bq,hx]at h ⊢;exact h
  · have hx':(x==n)=false:=by simpa using hx
    intro h
    have h':(List.lookup x (r.map fun x=>match x with | (n,k)=>if (k==NameKind.free&&env.scope.kind==.function&&env.kindOf n==some .cell)=true then (n,NameKind.cell) else (n,k))=some .cell\/List.lookup x (r.map fun x=>match x with | (n,k)=>if (k==NameKind.free&&env.scope.kind==.function&&env.kindOf n==some .cell)=true then (n,NameKind.cell) else (n,k))=some .free):=by
     split at h<;>simpa only[Bq,hx'] using h
    rw[Bq,hx'];exact ih h'
theorem uV {env:Env}{x:Str}:scope.names.lookup x=some .free->(relabel scope env).names.lookup x=some .cell\/(relabel scope env).names.lookup x=some .free:=by
 unfold relabel;generalize scope.names=names
 induction names with
 | nil=>simp
 | cons y r ih =>
  obtain⟨n,kd⟩:=y;simp only[Ap];intro h;by_cases hx:(x==n)=true
  · rw[Bq,hx]at h
    cases h;split
    · left;rw[Bq,hx]
    · right;rw[Bq,hx]
  · have hx':(x==n)=false:=by simpa using hx
    rw[Bq,hx']at h;have:=ih h
    split<;>simpa only[Bq,hx'] using this
theorem aHb (C:CompOk X scope N k fs)(I:Inv X pins σ H s)(hf:∀ b∈fp,lJ X pins H b)(ho:∀ b∈fp,b<s.heap.objs.size):(cQ X scope N fp s H).Ok where
 mod:=I.ok.mod
 kind:=C.kind
 glob:=I.ok.glob
 blt:=I.ok.blt
 above:=Af _
 inj:=fun x y c hx hy=>by
  have ok:=cellsFrom_ok scope.names (s.heap.push { cls:=.type "dict",data:=.dict #[] }) (s.heap.objs.size+1) [] ⟨fun _ _ hm=>(nomatch hm),Cp⟩ (by rw[Cd];exact Af _)
  rw[Cd]at ok;have old:∀ z c,X.env.cells.lookup z=some c->c<s.heap.objs.size:=fun z c e=>let ⟨_,q⟩:=I.cell z c e;q.lt
  rcases gN hx with h1 | h1<;>rcases gN hy with h2 | h2
  · exact name_of_addr ok.apart h1 h2
  · exact absurd (old _ _ h2) (Nat.not_lt.mpr (Dv (ok.empty _ _ h1).2))
  · exact absurd (old _ _ h1) (Nat.not_lt.mpr (Dv (ok.empty _ _ h2).2))
  · exact I.ok.inj x y c h1 h2
 has:=fun x h=>by
  have h':scope.names.lookup x=some .cell\/scope.names.lookup x=some .free:=vM h
  have:((cellsFrom (s.heap.objs.size+1) scope.names (jA X.env.cells scope.names [])).lookup x).isSome=true:=by
   refine Dq _ _ _ ?_
   rcases h' with h' | h'
   · exact .inl h'
   · right
     obtain⟨c,hc⟩:=cD (C.free _ (mem_of_lookup h') rfl);have hm:x∈(jA X.env.cells scope.names []).map (·.1):=Ar.mpr ⟨(x,c),rA _ _ (.inr ⟨mem_of_lookup h',hc⟩),rfl⟩;obtain⟨a,ha⟩:=cD hm;rw[ha];rfl
  exact Ea.mp this
 cab:=fun x c hx hl=>by
  have hx':scope.names.lookup x=some .cell:=of_decide_eq_true hx;have hsome:((cellsFrom (s.heap.objs.size+1) scope.names []).lookup x).isSome=true:=Dq _ _ _ (.inl hx');obtain⟨c',hc'⟩:=Ea.mp hsome;have hl':(cellsFrom (s.heap.objs.size+1) scope.names (jA X.env.cells scope.names [])).lookup x=some c:=hl;rw[cL,List.lookup_append,hc']at hl';cases hl';have ok:=cellsFrom_ok scope.names (s.heap.push { cls:=.type "dict",data:=.dict #[] }) (s.heap.objs.size+1) [] ⟨fun _ _ hm=>(nomatch hm),Cp⟩ (by rw[Cd];exact Af _)
  rw[Cd]at ok;exact Dv (ok.empty _ _ (mem_of_lookup hc')).2
 hd:=I.ok.hd
 frames:=I.ok.frames
 stk:=.inl rfl
 exf:=fun b hb=>⟨Ax (ho b hb),fun x c e z=>by
  have ok:=cellsFrom_ok scope.names (s.heap.push { cls:=.type "dict",data:=.dict #[] }) (s.heap.objs.size+1) [] ⟨fun _ _ hm=>(nomatch hm),Cp⟩ (by rw[Cd];exact Af _)
  rw[Cd]at ok;rcases gN (cells:=X.env.cells) e with h1 | h1
  · have h2:=(ok.empty _ _ h1).2
    have h3:=ho b hb;rw[z]at h2;exact Cu _ (Al h3 (Dv h2))
  · exact(hf b hb).2.2.2.2.1 x c h1 z⟩
 bs:=I.bs
 bsz:=Ak I.ok.bsz I.sz
 noex:=fun b o e hb=>by
  rcases (hf b hb).2.2.2.1 with z | z
  · exact I.ok.noex b o e z
  · exact absurd (Al (Ae e) (Ak I.ok.bsz z)) (Cu _)
 exfs:=fun b hb z=>by
  rcases Ai.mp (I.stkSub b z) with e | e
  · exact(hf b hb).2.1 e
  · exact(hf b hb).2.2.1 e
 funs:=I.stack
 frf:=I.stkFree
theorem zO (σ:St):(eO k fs σ).length=k+fs.length:=by simp[eO]
theorem rG {σ:St}{i:Nat}{v:V}(h:(eO k fs σ)[i]?=some (some v)):∃ j i',i=k+j/\fs[j]?=some i'/\σ[i']?=some (some v):=by
 unfold eO at h;by_cases hi:i<k
 · rw[Bv (by simpa using hi),List.getElem?_replicate_of_lt hi]at h
   cases h
 · rw[Bt (by simpa using Nat.le_of_not_lt hi),Du,As]at h
   cases e:fs[i-k]? with
   | none=>rw[e]at h;cases h
   | some i' =>
    rw[e]at h;refine⟨i-k,i',by omega,e,?_⟩
    have h':(σ[i']?).join=some v:=Cg.inj h;cases e2:σ[i']? with
    | none=>rw[e2]at h';cases h'
    | some o =>
     rw[e2]at h';have:o=some v:=h'
     rw[this]
theorem aD1 (C:CompOk X scope N k fs)(I:Inv X pins σ H s)(hf:∀ b∈fp,lJ X pins H b)(ho:∀ b∈fp,b<s.heap.objs.size) :
 Inv (cQ X scope N fp s H) [] (eO k fs σ) H { s with heap:=pushCells (s.heap.push { cls:=.type "dict",data:=.dict #[] }) scope.names }:=by
 have keep:∀ b o,s.heap.get? b=some o->(pushCells (s.heap.push { cls:=.type "dict",data:=.dict #[] }) scope.names).get? b=some o:=fun b o e=>pushCells_keeps _ _ b o (Ad _ e);have ok:=cellsFrom_ok scope.names (s.heap.push { cls:=.type "dict",data:=.dict #[] }) (s.heap.objs.size+1) [] ⟨fun _ _ hm=>(nomatch hm),Cp⟩ (by rw[Cd];exact Af _)
 rw[Cd]at ok;refine⟨aHb C I hf ho,rfl,I.bare,Un.kept keep,⟨fun _=>none,?_,fun i x v hN hσ hv=>?_⟩,fun x c e=>?_,I.hok.fresh (Af _),fun x c e=>?_,(fun p hp=>by simp[cQ]at hp),I.hok.kept keep,by rw[zO];exact C.len.symm⟩
 · exact(Heap.Ns.new s.heap (.type "dict")).keeps (pushCells_keeps _ _)
 · obtain⟨j,i',rfl,hj,hσ'⟩:=rG hσ
   obtain⟨y,hy1,hy2,hy3,hy4⟩:=C.out j i' hj;have e:y=x:=Cg.inj (hy1.symm.trans hN);subst e;obtain⟨m,hn,hl⟩:=I.loc
   have hvis:Vis X.env.scope y:=by
    rcases hy4 with z | z
    · exact .inr (.inl z)
    · exact .inr (.inr z)
   obtain⟨u,ru,lk⟩:=hl i' y v hy2 hσ' hvis;refine⟨u,ru,.inr ⟨?_,?_⟩⟩
   · exact uV hy3
   · rcases lk with ⟨hk,_⟩ | ⟨_,c,hc,hcell⟩
     · rcases hy4 with z | z<;>(rw[hk]at z;cases z)
     · refine⟨c,?_,hcell.keeps keep⟩
       show (cellsFrom (s.heap.objs.size+1) scope.names (jA X.env.cells scope.names [])).lookup y=some c
       have h1:(cellsFrom (s.heap.objs.size+1) scope.names []).lookup y=none:=by
        cases e2:(cellsFrom (s.heap.objs.size+1) scope.names []).lookup y with
        | none=>rfl
        | some c' =>
         have:=lH C.nd (iI _ _ (mem_of_lookup e2))
         rw[hy3]at this;cases this
       have h2:y∈(jA X.env.cells scope.names []).map (·.1):=Ar.mpr ⟨(y,c),rA _ _ (.inr ⟨mem_of_lookup hy3,hc⟩),rfl⟩;obtain⟨c2,hc2⟩:=cD h2;have h3:=xV hc2;rw[hc]at h3;cases h3;rw[cL,List.lookup_append,h1,hc2];rfl
 · rcases gN (cells:=X.env.cells) e with h1 | h1
   · exact⟨none,(ok.empty _ _ h1).1⟩
   · obtain⟨v,z⟩:=I.cell x c h1
     exact⟨v,z.keeps keep⟩
 · rcases gN (cells:=X.env.cells) e with h1 | h1
   · exact I.hok.fresh (Dv (ok.empty _ _ h1).2)
   · exact I.freeC x c h1
end
end L2
namespace L2
open PySem PySem.Spec PyProof.Rows
theorem xN {M:Model}{A:Around}{E:Value->Shared->Prop}{s:Shared}{scope:Scope}{env:Env}{Q:Env->Shared->Prop}
 (h:Q (newEnv scope s.heap.objs.size env.globals (cellsFrom (s.heap.objs.size+1) scope.names (jA env.cells scope.names [])) env.qual none .none (some env) builtinsNs)
  { s with heap:=pushCells (s.heap.push { cls:=.type "dict",data:=.dict #[] }) scope.names }) :
 wpAny M A (newFunctionEnv scope env.globals (jA env.cells scope.names []) [] env.qual none .none (some env)) Q E s:=by
 have sz:(s.heap.push { cls:=.type "dict",data:=.dict #[] }).objs.size=s.heap.objs.size+1:=Cd ..;unfold newFunctionEnv;rw[if_pos (show (some env).isSome=true from rfl)]
 apply wpAny_bind
 apply wpAny_alloc
 apply wpAny_bind
 apply wpAny_layCells
 · intro name kind cells
   cases e:kind==NameKind.cell<;>simp[e]
 · rw[sz]
   apply wpAny_bind
   apply wpAny_pure
   exact wpAny_pure h
def pC (J:It)(k:Nat)(fs:List Nat)(g:TG)(tb:St->Hp->(Option V->Hp->Prop)->Prop)(σ:St)(acc:Addr)(Qf:Hp->Prop)(H:Hp):Prop :=
 ∃ W:Nat->Nat->List V->Hp->Prop,(∃ m,W 0 m [] (upd H acc (.lst [])))/\∀ i m ys H2,W i m ys H2->H2 acc=some (.lst ys) /\
  ((J.stop i H2/\Qf H2)\/(J.go i H2/\ys.length<sizeLine/\∀ x H3,J.yld i H2 x H3->g x (eO k fs σ) H3 fun σ4 H4=>tb σ4 H4 fun o H5 =>
   match o with
   | some v=>H5 acc=some (.lst ys)/\∃ m',m'<m/\W (i+1) m' (ys++[v]) (upd H5 acc (.lst (ys++[v])))
   | none=>∃ m',m'<m/\W (i+1) m' ys H5))
def PB (X:Cx)(ifs:List Expr)(elt:Expr)(tb:St->Hp->(Option V->Hp->Prop)->Prop):Prop :=
 ∀ (pins:List (Addr×Obj)) (s:Shared) (σ:St) (H:Hp) (Q:Option V->Hp->Prop),Inv X pins σ H s->tb σ H Q ->
  wpAny (model X.prog X.w) X.A (aFs ifs X.env)
   (fun ok s1=>if ok=true then wpAny (model X.prog X.w) X.A (eval elt X.env) (fun u s2=>∃ v H',Inv X pins σ H' s2/\bI v u/\Q (some v) H') X.xe s1 else ∃ H',Inv X pins σ H' s1/\Q none H') X.xe s
def aQ4 (te:TE):St->Hp->(Option V->Hp->Prop)->Prop:=fun σ H Q=>te σ H fun v H'=>Q (some v) H'
def bIf (tc:TT)(te:TE):St->Hp->(Option V->Hp->Prop)->Prop:=fun σ H Q=>tc σ H fun b H1=>if b=true then te σ H1 fun v H'=>Q (some v) H' else Q none H1
theorem aLe {X:Cx}{elt:Expr}{te:TE}(he:PE X elt te):PB X [] elt (aQ4 te):=by
 intro pins s σ H Q I h;refine wpAny_tests_nil ?_
 rw[if_pos rfl];exact thn (he pins s σ H _ I h) fun u s2 ⟨v,H',I',r,q⟩=>⟨v,H',I',r,q⟩
theorem aN8 {X:Cx}{elt c:Expr}{te:TE}{tc:TT}(hc:PT X c tc)(he:PE X elt te):PB X [c] elt (bIf tc te):=by
 intro pins s σ H Q I h;refine wpAny_tests_one (thn (hc pins s σ H _ I h) fun b s1 ⟨H1,I1,q1⟩=>?_)
 cases b with
 | true =>
  rw[if_pos rfl]at q1 ⊢;exact thn (he pins s1 σ H1 _ I1 q1) fun u s2 ⟨v,H',I',r,q⟩=>⟨v,H',I',r,q⟩
 | false =>
  rw[if_neg Bb]at q1 ⊢;exact⟨H1,I1,q1⟩
section
variable {X:Cx}{pins:List (Addr×Obj)}{σ:St}{H:Hp}{s:Shared}{scope:Scope}{N:List Str}{k:Nat}{fs:List Nat}{tg iter elt:Expr}{ifs:List Expr}{pos:Pos}{g:TG}{tb:St->Hp->(Option V->Hp->Prop)->Prop}
theorem pX {J:It}{fp:List Addr}{it:Addr}{tn:Nat->Heap->Prop}{Qf:Addr->Hp->Prop}{RR:Value->Addr->Result->Shared->Prop}{E:Value->Shared->Prop}(hc:X.calm=true)(C:CompOk X scope N k fs)(I:Inv X pins σ H s)
 (T:Turn X.prog X.w X.K tg J fp it tn) (t0:tn 0 s.heap) (f0:∀ b∈fp,lJ X pins H b) (hg:∀ fp s H,PG (cQ X scope N fp s H) tg g) (gl:sH k g) (hb:∀ fp s H,PB (cQ X scope N fp s H) ifs elt tb)
 (h:∀ acc,H acc=none->pC J k fs g tb σ acc (Qf acc) H)
 (hRR:∀ (acc B:Addr) (H':Hp) (s':Shared) (m:Str->Option Value),Qf acc H'->Inv X pins σ H' s'->lJ X pins H' B->s'.heap.Ns B m->RR (.ref acc) B (.ok .next) s') :
 wpAny (model X.prog X.w) X.A (newList []) (fun acc s₃=>wpAny (model X.prog X.w) X.A (newFunctionEnv scope X.env.globals (jA X.env.cells scope.names []) [] X.env.qual none .none (some X.env)) (fun cenv s₄ =>
  codeAny (model X.prog X.w) X.A (.compStart (.ListComp elt [⟨tg,iter,ifs,0⟩] scope pos) 0 (.ref it) acc { cenv with scope:=relabel scope X.env }) (RR acc cenv.locals) s₄) E s₃) E s:=by
 have hfr:H s.heap.objs.size=none:=I.fresh;refine wpAny_newObj_type ?_
 have I1:Inv X pins σ (upd H s.heap.objs.size (.lst [])) { s with heap:=s.heap.push { cls:=.type "list",data:=.seq ([]:List Value).toArray } }:=I.lnew (t':=s.toks) (its:=[]) .nil (Bz _)
 obtain⟨W,⟨m0,w0⟩,turn⟩:=h _ hfr;generalize hacc:s.heap.objs.size=acc at *
 generalize hs1:({ s with heap:=s.heap.push { cls:=.type "list",data:=.seq ([]:List Value).toArray } }:Shared)=s1 at *
 have keep1:∀ b o,s.heap.get? b=some o->s1.heap.get? b=some o:=fun b o e=>by rw[←hs1];exact Ad _ e
 have fpl:∀ b∈fp,b<s.heap.objs.size:=fun b hb=>let ⟨o,e,_⟩:=T.obj _ _ t0 b hb;Ae e
 have sz1:s1.heap.objs.size=acc+1:=by rw[←hs1,←hacc];exact Cd ..
 have f1:∀ b∈fp,lJ X pins (upd H acc (.lst [])) b:=fun b hb=>⟨by rw[aK (Ax (by rw[←hacc];exact fpl b hb))];exact(f0 b hb).1,(f0 b hb).2⟩
 have ho1:∀ b∈fp,b<s1.heap.objs.size:=fun b hb=>by rw[sz1,←hacc];exact Nat.lt_succ_of_lt (fpl b hb)
 have t1:tn 0 s1.heap:=T.keep _ _ _ t0 fun b _ o e=>keep1 b o e;refine xN ?_
 have I2:=aD1 (fp:=fp) C I1 f1 ho1;have keep2:∀ b o,s1.heap.get? b=some o->(pushCells (s1.heap.push { cls:=.type "dict",data:=.dict #[] }) scope.names).get? b=some o:=fun b o e=>pushCells_keeps _ _ b o (Ad _ e);generalize hs2:({ s1 with heap:=pushCells (s1.heap.push { cls:=.type "dict",data:=.dict #[] }) scope.names }:Shared)=s2 at *
 have t2:tn 0 s2.heap:=T.keep _ _ _ t1 fun b _ o e=>by rw[←hs2];exact keep2 b o e
 have stat:∀ {H':Hp},(∀ b∈fp,H' b=none)->∀ b∈fp,lJ (cQ X scope N fp s1 (upd H acc (.lst []))) [] H' b:=fun {H'} hn b hb =>
  ⟨hn b hb,((I2.ok.exf b hb)).1,I2.ok.exfs b hb,.inl hb,(I2.ok.exf b hb).2,(fun p hp=>by simp[cQ]at hp)⟩
 have vV:∀ {σ':St} {H':Hp} {s':Shared},Inv (cQ X scope N fp s1 (upd H acc (.lst []))) [] σ' H' s'->Inv X pins σ H' s'/\lJ X pins H' s1.heap.objs.size/\∃ m,s'.heap.Ns s1.heap.objs.size m:=fun {σ' H' s'} J=>by
  refine⟨I1.call' (ch:=fp) J.os J.base J.hok J.bare fun b hb=>⟨(f1 b hb).2.2.2.1,(f1 b hb).2.1,(f1 b hb).2.2.2.2.1,(f1 b hb).2.2.2.2.2⟩,I1.fpOk (Af _) J.free,?_⟩
  obtain⟨m,hn,_⟩:=J.loc;exact⟨m,hn⟩
 have loop:codeAny (model X.prog X.w) X.A (.compLoop (.ListComp elt [⟨tg,iter,ifs,0⟩] scope pos) 0 (.ref it) (.ref acc) (yK scope s1.heap.objs.size X.env)) (RR (.ref acc) s1.heap.objs.size) s2:=by
  refine vT (fun n s'=>∃ i σ' H' ys,Inv (cQ X scope N fp s1 (upd H acc (.lst []))) [] σ' H' s'/\tn i s'.heap/\(∀ b∈fp,H' b=none)/\W i n ys H'/\σ'.length=(eO k fs σ).length/\∀ j,k<=j->σ'[j]?=(eO k fs σ)[j]?) ?_ m0
   ⟨0,_,_,[],I2,t2,fun b hb=>(f1 b hb).1,w0,rfl,fun _ _=>rfl⟩
  rintro n s3 ⟨i,σ3,H3,ys,I3,st3,fr3,w3,len3,ag3⟩
  have I3':=I3.weak (σ':=eO k fs σ) len3.symm fun j v e=>by
   obtain⟨j',i',rfl,_,_⟩:=rG e;rw[ag3 _ (Cm _ _)];exact e
  obtain⟨ha,hcase⟩:=turn i n ys H3 w3;rcases hcase with ⟨stop,q⟩ | ⟨go,hlt,step⟩
  · refine thn (T.done (cQ X scope N fp s1 (upd H acc (.lst []))) rfl rfl rfl hc i [] s3 _ H3 _ I3' (stat fr3) st3 stop) fun r s4 ⟨hr,I4⟩=>?_
    subst hr;obtain⟨b1,b2,m,b3⟩:=vV I4;exact hRR acc _ H3 s4 m q b1 b2 b3
  · refine thn (T.item (cQ X scope N fp s1 (upd H acc (.lst []))) rfl rfl rfl hc i [] s3 _ H3 _ I3' (stat fr3) st3 go) fun r s4 ⟨u,hr,h4⟩=>?_
    subst hr;refine thn h4 fun _ s5 ⟨x,H5,I5,r5,y5,st5,fr5⟩=>?_
    have I5':=I5.pinned (stat fr5) (T.obj _ _ st5);refine thn (hg _ _ _ _ s5 _ H5 x u _ I5' r5 (gl _ _ _ _ (step x H5 y5))) fun _ s6 ⟨σ6,H6,I6,q6,len6,ag6⟩=>?_
    refine thn (hb _ _ _ _ s6 σ6 H6 _ I6 q6) fun ok s7 q7=>?_
    have again:∀ {H8:Hp} {s8:Shared} {ys':List V} {m':Nat},Inv (cQ X scope N fp s1 (upd H acc (.lst []))) ([]++rH fp s5.heap) σ6 H8 s8->m'<n->W (i+1) m' ys' H8 ->
     ∃ m,m<n/\∃ i σ' H' ys,Inv (cQ X scope N fp s1 (upd H acc (.lst []))) [] σ' H' s8/\tn i s8.heap/\(∀ b∈fp,H' b=none)/\W i m ys H'/\σ'.length=(eO k fs σ).length/\∀ j,k<=j->σ'[j]?=(eO k fs σ)[j]?:=fun {H8 s8 ys' m'} I8 hm w8=>by
     refine⟨m',hm,i+1,σ6,H8,ys',I8.unpinned,T.keep _ _ _ st5 fun b hb o e=>(I8.pin (b,o) (Aw _ (Aw _ (gX hb e)))).1,fun b hb=>?_,w8,len6,ag6⟩
     obtain⟨o,e,d⟩:=T.obj _ _ st5 b hb;exact(I8.pin (b,o) (Aw _ (Aw _ (gX hb e)))).2.1
    cases ok with
    | false =>
     rw[if_neg Bb]at q7 ⊢;obtain⟨H8,I8,m',hm,w8⟩:=q7;exact again I8 hm w8
    | true =>
     rw[if_pos rfl]at q7 ⊢;refine thn q7 fun u8 s8 ⟨v,H8,I8,r8,ha8,m',hm,w8⟩=>?_
     refine thn (sP _ s8 σ6 H8 (.ref acc) [v] (.ref acc) [u8] (fun _ H'=>H'=upd H8 acc (.lst (ys++[v]))) I8 rfl (.cons r8 .nil) ⟨acc,ys,v,rfl,rfl,ha8,hlt,rfl⟩) fun _ s9 ⟨_,H9,I9,_,e9⟩=>?_
     subst e9;exact again I9 hm w8
 exact codeAny_compStart_list loop (T.self _ 0 _ _ _ t2 loop)
def aKa (wi:TI)(k:Nat)(fs:List Nat)(g:TG)(tb:St->Hp->(Option V->Hp->Prop)->Prop):TE:=fun σ H Q=>wi σ H fun J H1=>∀ acc,H1 acc=none->pC J k fs g tb σ acc (fun H2=>Q (.ref acc) H2) H1
theorem aAx {wi:TI}(hc:X.calm=true)(C:CompOk X scope N k fs)(hi:PI X tg iter wi)(hg:∀ fp s H,PG (cQ X scope N fp s H) tg g)(gl:sH k g)(hb:∀ fp s H,PB (cQ X scope N fp s H) ifs elt tb)
 (hs:∀ x,foldedSetIterable iter X.env x=pure x:=by intro _;rfl):PE X (.ListComp elt [⟨tg,iter,ifs,0⟩] scope pos) (aKa wi k fs g tb):=by
 intro pins s σ H Q I h;rw[eval_ListComp];refine wpAny_comprehension_free (use:=none) rfl hs C.clos C.kind C.names (thn (hi pins s σ H _ I h) fun v s1 h1=>thn h1 fun itv s2 h2=>?_)
 obtain⟨it,fp,tn,J,H2,e,I2,T,st2,f2,q2⟩:=h2;subst e;refine pX (RR:=fun acc B=>compPost (model X.prog X.w) X.A X.xe none (EP X pins σ Q) acc B) hc C I2 T st2 f2 hg gl hb q2 ?_
 intro acc B H' s' m q I' F n;exact⟨m,n,fun h' sb=>⟨.ref acc,H',I'.turned (t':=s'.toks) (fun b o hb e=>sb.extBut b o hb e) F.1 F.2.1 F.2.2.2.1 F.2.2.2.2.1 F.2.2.2.2.2,rfl,q⟩⟩
def aMl (i:Nat)(wi:TI)(k:Nat)(fs:List Nat)(g:TG)(tb:St->Hp->(Option V->Hp->Prop)->Prop):TS:=fun D σ H=>wi σ H fun J H1=>∀ acc,H1 acc=none->pC J k fs g tb σ acc (fun H2=>D.nx (σ.set i (some (.ref acc))) H2) H1
theorem aJe {wi:TI}{i:Nat}{y:Str}{py spos:Pos}(hc:X.calm=true)(hN:X.N.Nodup)(hi':X.N[i]?=some y)(hy:X.env.scope.names.lookup y=some .local)(C:CompOk X scope N k fs)(hi:PI X tg iter wi)(hg:∀ fp s H,PG (cQ X scope N fp s H) tg g)(gl:sH k g)
 (hb:∀ fp s H,PB (cQ X scope N fp s H) ifs elt tb) (hsw:swapsWith (.ListComp elt [⟨tg,iter,ifs,0⟩] scope pos) (some (.Name y py)) spos.line X.env=pure true)
 (hs:∀ x,foldedSetIterable iter X.env x=pure x:=by intro _;rfl):PS X (.Assign [.Name y py] (.ListComp elt [⟨tg,iter,ifs,0⟩] scope pos) spos) (aMl i wi k fs g tb):=by
 intro pins s σ H D I h;refine(exec_Assign_Name_used _ _ _ _ hsw).symm▸wpAny_bind (wpAny_standAt (wpAny_bind ?_))
 show wpAny _ X.A (do let _ ← comprehension (.ListComp elt [⟨tg,iter,ifs,0⟩] scope pos) scope X.env _ (newList []) false (eval iter X.env) (some (assign (.Name y py) X.env))) _ _ s
 refine wpAny_bind (wpAny_mono (wpAny_comprehension_free (use:=some (assign (.Name y py) X.env)) (Q:=fun _ s'=>SP X pins D .next s') rfl hs C.clos C.kind C.names
  (thn (hi pins s σ H _ I h) fun v s1 h1=>thn h1 fun itv s2 h2=>?_)) (fun _ s' hq=>wpAny_pure (wpAny_pure hq)) fun _ _ e=>e)
 obtain⟨it,fp,tn,J,H2,e,I2,T,st2,f2,q2⟩:=h2;subst e;refine pX (RR:=fun acc B=>compPost (model X.prog X.w) X.A X.xe (some (assign (.Name y py) X.env)) (fun _ s'=>SP X pins D .next s') acc B) hc C I2 T st2 f2 hg gl hb q2 ?_
 intro acc B H' s' m q I' F n
 have hoB:∃ o,s'.heap.get? B=some o/\∀ v,o.data≠.cell v:=by
  obtain⟨o,es,ep,ho,hd,_⟩:=n;exact⟨o,ho,fun v z=>by rw[hd]at z;cases z⟩
 have I'':=I'.pinned (fp:=[B]) (fun b hb=>by rw[Ay.mp hb];exact F) (fun b hb=>by rw[Ay.mp hb];exact hoB)
 show wpAny _ X.A (assign (.Name y py) X.env (.ref acc)) _ _ _
 refine wpAny_assign_Name (iZ (v:=.ref acc) I'' hN hi' (.inl hy) rfl (fun s3 I3=>?_) (.inr hy))
 obtain⟨o,ho,_⟩:=hoB;have pin:=(I3.pin (B,o) (Aw _ (Aw _ (gX (Ay.mpr rfl) ho)))).1;refine⟨m,n.at' fun o' e'=>?_,fun h' sb=>?_⟩
 · rw[ho]at e'
   cases e';exact pin
 · exact⟨_,H',(I3.unpinned).turned (t':=s3.toks) (fun b o hb e=>sb.extBut b o hb e) F.1 F.2.1 F.2.2.2.1 F.2.2.2.2.1 F.2.2.2.2.2,q⟩
end
end L2
namespace Zp
open PySem
section
variable {prog:Program}{w:World}{A:Around}{E:Value->Shared->Prop}{s:Shared}
def Out (N:List Addr)(h h':Heap):Prop:=∀ c o,c∉N->h.get? c=some o->h'.get? c=some o
theorem Out.of {a:Addr}{N:List Addr}{h h':Heap}(e:Heap.ExtBut a h h')(m:a∈N):Out N h h':=fun c o n q=>e c o (fun x=>n (x▸m)) q
theorem Out.then {N:List Addr}{h h1 h2:Heap}(a:Out N h h1)(b:Out N h1 h2):Out N h h2:=fun c o n q=>b c o n (a c o n q)
theorem Out.up {N:List Addr}{h h1:Heap}{o:Obj}(a:Out N h h1):Out N h (h1.push o):=fun c u n q=>Ad o (a c u n q)
variable {z TI TO T i1 i2 l1 l2:Addr}{f:Bool}{oT:Obj}{k:Nat}{xs ys:Array Value}
end
end Zp
namespace Zp
open PySem
def mk (vs:List Value)(c:Nat):Obj:={ cls:=.type "list",data:=.seq vs.toArray c }
structure Feed (prog:Program)(w:World)(A:Around)(z S:Addr)(P:Nat->List Value->Heap->Prop)(L:List Value->Heap->Prop):Prop where
 more:∀ (n:Nat) (vs:List Value) (s:Shared) (Q:Option Value->Shared->Prop) (E:Value->Shared->Prop),P (n+1) vs s.heap ->
  (∀ v h',P n (vs++[v]) h'->(∀ o,s.heap.get? S=some o->h'.get? S=some o)->Q (some v) { s with heap:=h' })->wpAny (model prog w) A (pyNext (.ref z)) Q E s
 over:∀ (vs:List Value) (s:Shared) (Q:Option Value->Shared->Prop) (E:Value->Shared->Prop),P 0 vs s.heap ->
  (∀ h',L vs h'->(∀ o,s.heap.get? S=some o->h'.get? S=some o)->Q none { s with heap:=h' })->wpAny (model prog w) A (pyNext (.ref z)) Q E s
 blind:∀ (n:Nat) (vs:List Value) (h h':Heap),P n vs h->Heap.SameBut S h h'->P n vs h'
section
variable {prog:Program}{w:World}{A:Around}{z S:Addr}{P:Nat->List Value->Heap->Prop}{L:List Value->Heap->Prop}{R:Result->Shared->Prop}
theorem turn {s:Shared}{as:Args}(h:wpAny (model prog w) A.in1 (Builtin.«list.extend.loop» as) (fun r s'=>match r with | .done f=>R (.ok f) s' | .again c=>c.quiet=true/\codeAny (model prog w) A c R s') (fun e s'=>R (.error e) s') s) :
 codeAny (model prog w) A (.builtin "list.extend.loop" as) R s :=
 codeAny_builtin PySem.F.entry_extend_loop (by rw[Around.under_plainId PySem.F.plain_extend_loop];exact h)
theorem aO1 (F:Feed prog w A.in1 z S P L)(r:Value):∀ (n:Nat) (vs:List Value) (c:Nat) (s:Shared),P n vs s.heap->s.heap.get? S=some (mk vs c)->vs.length+n<=sizeLine ->
 (∀ h' us c',L us h'->h'.get? S=some (mk us c')->R (.ok (.ret r)) { s with heap:=h' })->codeAny (model prog w) A (.builtin "list.extend.loop" ⟨[.ref S,.ref z,r],[]⟩) R s
 | 0,vs,c,s,p,e,_,q=>by
  refine turn (wpAny_bind (F.over vs s _ _ p fun h' l k=>wpAny_pure ?_))
  exact q h' vs c l (k _ e)
 | n+1,vs,c,s,p,e,b,q=>by
  refine turn (wpAny_bind (F.more n vs s _ _ p fun v h' p' k=>?_))
  have e':=k _ e;have len:(vs.toArray.push v).size<=sizeLine:=by simp;omega
  obtain⟨c2,e2⟩:∃ c2,(h'.update S (Obj.mapSeq (·.push v))).get? S=some (mk (vs++[v]) c2):=by
   have:=Cz (Obj.mapSeq (·.push v)) e' rfl
   simp only[mk,Obj.mapSeq,List.push_toArray]at this;exact⟨_,this⟩
  refine wpAny_bind (wpAny_updateSeq e' rfl (wpAny_pure ⟨plainId_quiet PySem.F.plain_extend_loop _,?_⟩) (by simp;omega) (Nat.le_succ_of_le len))
  refine aO1 F r n (vs++[v]) c2 _ (F.blind _ _ _ _ p' (Heap.SameBut.update ..)) e2 (by simp;omega) fun h2 us c3 l e3=>?_
  exact q h2 us c3 l e3
theorem upd {E:Value->Shared->Prop}{s:Shared}{vs:List Value}{c:Nat}{f:Array Value->Array Value}{Q:Unit->Shared->Prop}(e:s.heap.get? S=some (mk vs c))(l:vs.length<=1)(m:(f vs.toArray).size<=1)
 (q:∀ h' c',h'.get? S=some (mk (f vs.toArray).toList c')->Heap.SameBut S s.heap h'->Q () { s with heap:=h' }):wpAny (model prog w) A (updateSeq S f) Q E s :=
 have one:1<=sizeLine:=by decide
 wpAny_updateSeq e rfl (q _ _ (Cz _ e rfl) (Heap.SameBut.update ..)) (by simp;omega) (by omega)
end
end Zp
namespace Zp
open PySem
structure Pl (old z TI TO i1 i2 l1 l2 S:Addr):Prop where
 ap:ZipApart z TI TO i1 i2 l1 l2
 new:∀ a∈[z,TO,i1,i2],old<=a
 low:∀ a∈[z,TO,i1,i2],a<S
 lo2:∀ a∈[TI,l1,l2],a<S
section
variable {h0 h h':Heap}{old z TI TO i1 i2 l1 l2 S:Addr}{xs ys:Array Value}{n:Nat}{vs:List Value}
theorem Pl.ns (P:Pl old z TI TO i1 i2 l1 l2 S):S∉[z,TO,i1,i2]:=fun m=>Cu _ (P.low _ m)
theorem Pl.lt (P:Pl old z TI TO i1 i2 l1 l2 S){b:Addr}(m:b<old):b∉[z,TO,i1,i2]:=fun k=>Nat.not_le.mpr m (P.new _ k)
end
end Zp
namespace L2
open PySem PySem.Spec PyProof.Rows
mutual
inductive Has (K:PySem.W.Frag) (H:Hp):V->PyData->Prop
 | non:Has K H .non .none
 | bl (b:Bool):Has K H (.bl b) (.bool b)
 | int (i:Int):Has K H (.int i) (.int i)
 | str (x:Str):Has K H (.str x) (.str x)
 | lst {a:Addr} {xs:List V} {ds:List PyData}:SqL K H a xs->HasAll K H xs ds->Has K H (.ref a) (.list ds)
 | tup {a:Addr} {xs:List V} {ds:List PyData}:SqT K H a xs->HasAll K H xs ds->Has K H (.ref a) (.tuple ds)
inductive HasAll (K:PySem.W.Frag) (H:Hp):List V->List PyData->Prop
 | nil:HasAll K H [] []
 | cons {v:V} {d:PyData} {vs:List V} {ds:List PyData}:Has K H v d->HasAll K H vs ds->HasAll K H (v :: vs) (d :: ds)
end
theorem aI.seqT {K:PySem.W.Frag}{H H':Hp}{a:Addr}{xs:List V}(e:aI H H')(h:SqT K H a xs):SqT K H' a xs:=by
 rcases h with (h | ⟨o,h⟩) | h
 · exact .inl (.inl (e _ _ h))
 · exact .inl (.inr ⟨o,e _ _ h⟩)
 · exact .inr h
mutual
theorem Has.same {K:PySem.W.Frag}{H H':Hp}(e:aI H H'):∀ {v:V} {d:PyData},Has K H v d->Has K H' v d
 | _,_,.non=>.non
 | _,_,.bl b=>.bl b
 | _,_,.int i=>.int i
 | _,_,.str x=>.str x
 | _,_,.lst h r=>.lst (e.seq h) (HasAll.same e r)
 | _,_,.tup h r=>.tup (e.seqT h) (HasAll.same e r)
theorem HasAll.same {K:PySem.W.Frag}{H H':Hp}(e:aI H H'):∀ {v:List V} {d:List PyData},HasAll K H v d->HasAll K H' v d
 | _,_,.nil=>.nil
 | _,_,.cons h r=>.cons (Has.same e h) (HasAll.same e r)
end
mutual
theorem Has.reads {X:Cx}{pins:List (Addr×Obj)}{σ:St}{H:Hp}{s:Shared}(I:Inv X pins σ H s):∀ {v:V} {d:PyData},Has X.K H v d->∀ {u:Value},bI v u->∃ as,Reads s.heap u d as
 | _,_,.non,u,r=>by cases (show u=Value.none from r);exact⟨_,.none⟩
 | _,_,.bl b,u,r=>by cases (show u=Value.bool b from r);exact⟨_,.bool b⟩
 | _,_,.int i,u,r=>by obtain⟨t,rfl⟩:=(show ∃ t,u=Value.int i t from r);exact⟨_,.int i t⟩
 | _,_,.str x,u,r=>by obtain⟨t,rfl⟩:=(show ∃ t,u=Value.str x t from r);exact⟨_,.str x t⟩
 | _,_,.lst (a:=a) h r,u,q=>by
  cases (show u=Value.ref a from q)
  obtain⟨its,rv,p,_⟩:=I.list h;obtain⟨as,ra⟩:=HasAll.reads I r rv;obtain⟨o,ho,hc,n,hd⟩:=p.isList;exact⟨_,.list ho hc hd (by rw[List.toList_toArray];exact ra)⟩
 | _,_,.tup (a:=a) h r,u,q=>by
  cases (show u=Value.ref a from q)
  obtain⟨its,rv,p,_⟩:=I.tuple h;obtain⟨as,ra⟩:=HasAll.reads I r rv;obtain⟨o,ho,hc,n,hd⟩:=p;exact⟨_,.tuple ho hc hd (by rw[List.toList_toArray];exact ra)⟩
theorem HasAll.reads {X:Cx}{pins:List (Addr×Obj)}{σ:St}{H:Hp}{s:Shared}(I:Inv X pins σ H s):∀ {vs:List V} {ds:List PyData},HasAll X.K H vs ds->∀ {us:List Value},bH vs us->∃ as,ReadsAll s.heap us ds as
 | _,_,.nil,us,r=>by cases r;exact⟨_,.nil⟩
 | _,_,.cons h t,us,r=>by
  cases r with
  | cons r1 r2 =>
   obtain⟨a1,h1⟩:=Has.reads I h r1;obtain⟨a2,h2⟩:=HasAll.reads I t r2;exact⟨_,.cons h1 h2⟩
end
section
variable {X:Cx}
def aP6 (K:PySem.W.Frag):R2:=fun x y H Q=>∃ d e,Has K H x d/\Has K H y e/\SeqAt.shaped d=true/\SeqAt.shaped e=true/\Q (.bl (PyData.eqv d e)) H
def aQ8 (K:PySem.W.Frag):R2:=fun x y H Q=>∃ d e,Has K H x d/\Has K H y e/\SeqAt.shaped d=true/\SeqAt.shaped e=true/\Q (.bl (!PyData.eqv d e)) H
theorem aD0 (hu:X.A.units+64<cLine):OpR X (compareOp .Eq) (aP6 X.K):=by
 intro pins s σ H x y v u Q I rx ry h;obtain⟨d,e,hd,he,sd,se,q⟩:=h;obtain⟨as,ra⟩:=hd.reads I rx;obtain⟨bs,rb⟩:=he.reads I ry;exact SeqAt.compareEq_shaped ra rb sd se hu ⟨.bl _,H,I,rfl,q⟩
theorem aMz (hu:X.A.units+64<cLine):OpR X (compareOp .NotEq) (aQ8 X.K):=by
 intro pins s σ H x y v u Q I rx ry h;obtain⟨d,e,hd,he,sd,se,q⟩:=h;obtain⟨as,ra⟩:=hd.reads I rx;obtain⟨bs,rb⟩:=he.reads I ry;exact SeqAt.compareNe_shaped ra rb sd se hu ⟨.bl _,H,I,rfl,q⟩
theorem fE:∀ {ns:List Int} {us:List Value},bH (ns.map V.int) us->IntsAre us ns:=fun r=>zV r
theorem aDq:iO X (.builtin "isinstance") (fun xs H Q=>∃ x t n b,xs=[x,.ty n]/\TyOf X.K H x t/\Bi X.K t (.type n)=some b/\Q (.bl b) H):=by
 intro pins s σ H xs us Q I r h;obtain⟨x,t,n,b,rfl,ty,e,q⟩:=h;obtain⟨u,v,rfl,r1,r2⟩:=aAt r;cases (show v=Value.type n from r2)
 exact uG I r1 ty e fun tk=>⟨.bl b,H,I.tok tk,rfl,q⟩
end
end L2
namespace L2
open PySem PySem.Spec PyProof.Rows
theorem Inv.turnedNew {X:Cx}{pins:List (Addr×Obj)}{σ:St}{H:Hp}{s:Shared}{h':Heap}{t':Nat}{fp:List Addr}{a:Addr}{o:HO}(I:Inv X pins σ H s)
 (k:∀ b u,b∉fp->s.heap.get? b=some u->h'.get? b=some u) (hf:∀ b∈fp,lJ X pins H b) (ho:∀ b∈fp,∃ u,h'.get? b=some u) (hp:s.heap.objs.size<=a) (new:bN X.prog X.w (upd H a o) h' a o) :
 Inv X pins σ (upd H a o) { s with heap:=h',toks:=t' }:=by
 have fr:H a=none:=I.hok.fresh hp
 have nfp:∀ b u,H b=some u->b∉fp:=fun b u e z=>by
  have:=(hf b z).1
  rw[e]at this;cases this
 refine I.step (g':=s.gens) (d':=s.drawn) (ch:=fp) (fun b hb=>⟨(hf b hb).2.2.2.1,(hf b hb).2.1,(hf b hb).2.2.2.2.1,(hf b hb).2.2.2.2.2⟩) (fun b u _ _ hc e _=>k b u hc e) (fun b u _ _ hc e _=>⟨u.slots,k b u hc e⟩)
  (fun b u _ e n=>?_) (fun b u hc e=>⟨u,k b u hc e⟩) (fun b xs e=>?_) (fun b u v e=>?_) (fun b ps e=>⟨#[],?_⟩) (fun m hm=>?_) (fun b u e=>?_) I.bare
 · rw[aK (Ax (Al (Ae e) hp))];exact n
 · rw[aK (bF e fr)];exact e
 · rw[aK (bF e fr)];exact e
 · rw[aK (bF e fr),e];simp
 · obtain⟨ob,es,ep,hob,r⟩:=hm
   exact⟨ob,es,ep,k _ ob (fun z=>(hf _ z).2.1 rfl) hob,r⟩
 · by_cases hb:b=a
   · subst hb
     rw[bC]at e;cases e;exact new
   · rw[aK hb]at e
     refine(I.hok b u e).stay (fun c v hc q=>k c v ?_ q) (fun c q=>by rw[aK (bF q fr)];exact q) fun c xs q=>by rw[aK (bF q fr)];exact q
     rcases hc with z | z
     · rw[z];exact nfp b u e
     · exact nfp c _ z
theorem Inv.turnedL {X:Cx}{pins:List (Addr×Obj)}{σ:St}{H:Hp}{s:Shared}{h':Heap}{t':Nat}{fp:List Addr}(I:Inv X pins σ H s)
 (k:∀ b u,b∉fp->s.heap.get? b=some u->h'.get? b=some u) (hf:∀ b∈fp,lJ X pins H b):Inv X pins σ H { s with heap:=h',toks:=t' }:=by
 have nfp:∀ b u,H b=some u->b∉fp:=fun b u e z=>by
  have:=(hf b z).1
  rw[e]at this;cases this
 refine I.step (g':=s.gens) (d':=s.drawn) (ch:=fp) (fun b hb=>⟨(hf b hb).2.2.2.1,(hf b hb).2.1,(hf b hb).2.2.2.2.1,(hf b hb).2.2.2.2.2⟩) (fun b u _ _ hc e _=>k b u hc e) (fun b u _ _ hc e _=>⟨u.slots,k b u hc e⟩)
  (fun b u _ _ n=>n) (fun b u hc e=>⟨u,k b u hc e⟩) (fun b xs e=>e) (fun b u v e=>e) (fun b ps e=>⟨#[],by rw[e];simp⟩) (fun m hm=>?_) (fun b u e=>?_) I.bare
 · obtain⟨ob,es,ep,hob,r⟩:=hm
   exact⟨ob,es,ep,k _ ob (fun z=>(hf _ z).2.1 rfl) hob,r⟩
 · refine(I.hok b u e).stay (fun c v hc q=>k c v ?_ q) (fun c q=>q) fun c xs q=>q
   rcases hc with z | z
   · rw[z];exact nfp b u e
   · exact nfp c _ z
def Itz (K:PySem.W.Frag)(a b:Addr):It :=
  ⟨fun i H=>∃ xs ys x y,SqL K H a xs/\SqL K H b ys/\xs[i]?=some x/\ys[i]?=some y,
   fun i H v H'=>∃ t x y,v=.ref t/\H t=none/\H'=upd H t (.tup [x,y])/\(∀ xs,SqL K H a xs->xs[i]?=some x)/\∀ ys,SqL K H b ys->ys[i]?=some y,
   fun i H=>∃ xs ys,SqL K H a xs/\SqL K H b ys/\(xs.length<=i\/ys.length<=i)⟩
def ZTn (z TI TO i1 i2 a b:Addr)(i:Nat)(h:Heap):Prop:=IsZip h z TI TO .none/\IsPair h TI (.ref i1) (.ref i2)/\(∃ u v,IsPair h TO u v)/\h.IsListIter i1 a i/\h.IsListIter i2 b i
theorem aDz {P:Program}{w:World}{K:PySem.W.Frag}{es:List Expr}{k:Nat}{pos:Pos}{z TI TO i1 i2 a b:Addr}(D:ZipApart z TI TO i1 i2 a b) :
 Turn P w K (.Tuple es k pos) (Itz K a b) [z,TI,TO,i1,i2] z (ZTn z TI TO i1 i2 a b) where
 mem:=by simp
 obj:=fun i h st c hc=>by
  obtain⟨hz,hTI,⟨u,v,hTO⟩,⟨o1,e1,c1,d1⟩,⟨o2,e2,c2,d2⟩⟩:=st;simp only[Ai,Bc,or_false]at hc;rcases hc with rfl | rfl | rfl | rfl | rfl
  · exact⟨_,hz,fun v z=>nomatch z⟩
  · exact⟨_,hTI,fun v z=>nomatch z⟩
  · exact⟨_,hTO,fun v z=>nomatch z⟩
  · exact⟨o1,e1,fun v z=>by rw[d1]at z;cases z⟩
  · exact⟨o2,e2,fun v z=>by rw[d2]at z;cases z⟩
 keep:=fun i h h' st kp=>by
  obtain⟨hz,hTI,⟨u,v,hTO⟩,h1,h2⟩:=st;exact⟨kp _ (by simp) _ hz,kp _ (by simp) _ hTI,⟨u,v,kp _ (by simp) _ hTO⟩,h1.at fun o e=>kp _ (by simp) o e,h2.at fun o e=>kp _ (by simp) o e⟩
 item:=by
  intro X hP hw hK hc i pins s σ H E I hf st hg;subst hP hw hK;obtain⟨xs,ys,x,y,ha,hb,hx,hy⟩:=hg;obtain⟨us,ru,pu,_⟩:=I.list ha;obtain⟨vs,rv,pv,_⟩:=I.list hb;obtain⟨u,eu,rxu⟩:=ru.get hx;obtain⟨v,ev,ryv⟩:=rv.get hy;obtain⟨hz,hTI,⟨u0,v0,hTO⟩,h1,h2⟩:=st;refine wpAny_pyNext_zip_item D hz hTI hTO h1 h2 pu.isList pv.isList (x:=u) (y:=v) (by simpa using eu) (by simpa using ev) fun h' b1 b2 b3 b4 b5 b6 b7=>⟨_,rfl,?_⟩
  refine wpAny_letOwnedTupleGo_zip b1 fun hp2 c1 cs=>?_
  have nz:s.heap.objs.size≠z:=Ef (Ae hz)
  have kp:∀ c o,c∉[z,TI,TO,i1,i2]->s.heap.get? c=some o->hp2.get? c=some o:=fun c o hc' e=>by
   simp only[Ai,Bc,or_false,not_or]at hc';exact cs.extBut c o hc'.1 (b7 c o hc'.1 hc'.2.2.1 hc'.2.2.2.1 hc'.2.2.2.2 e)
  have st':ZTn z TI TO i1 i2 a b (i+1) hp2:=⟨c1,cs.extBut _ _ D.TIz (b7 _ _ D.TIz D.TITO D.TIi1 D.TIi2 hTI),⟨_,_,cs.extBut _ _ D.TOz b2⟩,b3.extBut cs.extBut D.i1z,b4.extBut cs.extBut D.i2z⟩;have pr:IsPair hp2 s.heap.objs.size u v:=cs.extBut _ _ nz b5;have fr:H s.heap.objs.size=none:=I.fresh
  refine⟨.ref s.heap.objs.size,upd H s.heap.objs.size (.tup [x,y]),I.turnedNew (t':=s.toks) kp hf (fun c hc'=>?_) (Af _) ⟨by show 2<=sizeLine;decide,[u,v],.cons rxu (.cons ryv .nil),⟨_,pr,rfl,_,rfl⟩⟩,rfl,
   ⟨_,x,y,rfl,fr,rfl,fun zs hq=>by rw[I.list_inj hq ha];exact hx,fun zs hq=>by rw[I.list_inj hq hb];exact hy⟩,st',fun c hc'=>?_⟩
  · obtain⟨d1,d2,⟨p,q,d3⟩,⟨p1,d4,_⟩,⟨p2,d5,_⟩⟩:=st'
    simp only[Ai,Bc,or_false]at hc';rcases hc' with rfl | rfl | rfl | rfl | rfl
    · exact⟨_,d1⟩
    · exact⟨_,d2⟩
    · exact⟨_,d3⟩
    · exact⟨_,d4⟩
    · exact⟨_,d5⟩
  · have:c<s.heap.objs.size:=by
     obtain⟨p1,d4,_⟩:=h1;obtain⟨p2,d5,_⟩:=h2;simp only[Ai,Bc,or_false]at hc';rcases hc' with rfl | rfl | rfl | rfl | rfl
     · exact Ae hz
     · exact Ae hTI
     · exact Ae hTO
     · exact Ae d4
     · exact Ae d5
    rw[aK (Ax this)];exact(hf c hc').1
 done:=by
  intro X hP hw hK hc i pins s σ H E I hf st hg;subst hP hw hK;obtain⟨xs,ys,ha,hb,hend⟩:=hg;obtain⟨us,ru,pu,_⟩:=I.list ha;obtain⟨vs,rv,pv,_⟩:=I.list hb;have lu:=ru.length;have lv:=rv.length;obtain⟨hz,hTI,⟨u0,v0,hTO⟩,h1,h2⟩:=st;refine wpAny_pyNext_zip_end (I.ok.hd hc) D hz hTI hTO h1 h2 pu.isList pv.isList ?_ fun h' kp=>⟨rfl,I.turnedL (t':=s.toks) (fun c o hc' e=>?_) hf⟩
  · rcases hend with q | q
    · exact .inl (Array.getElem?_eq_none (by rw[Ag];omega))
    · exact .inr (Array.getElem?_eq_none (by rw[Ag];omega))
  · simp only[Ai,Bc,or_false,not_or]at hc'
    exact kp c o hc'.1 hc'.2.2.1 hc'.2.2.2.1 hc'.2.2.2.2 e
 self:=fun _ _ _ _ _ st h=>wpAny_pyIter_zip st.1 h
def aQp (K:PySem.W.Frag)(ta:TA):TI:=fun σ H R=>ta σ H fun vs H1=>∃ a b,vs=[.ref a,.ref b]/\(∃ xs,SqL K H1 a xs)/\(∃ ys,SqL K H1 b ys)/\R (Itz K a b) H1
theorem aNs {X:Cx}{es:List Expr}{k:Nat}{tp:Pos}{a b:Expr}{t:TA}{p pos:Pos}(hc:X.calm=true)(hg:Gl X "zip")(hm:X.mg "zip" = none)(ha:PA X [a,b] t)
 (hs:starEach [a,b] X.env=[(false,eval a X.env),(false,eval b X.env)]:=by rfl) (hs2:starEach [b] X.env=[(false,eval b X.env)]:=by rfl) :
 PI X (.Tuple es k tp) (.Call (.Name "zip" p) [a,b] [] pos) (aQp X.K t):=by
 intro pins s σ H R I h;refine Call_ (lM I hg hm boot_zip (Ch (thn (ha pos pins s σ H _ I h) fun us s1 ⟨vs,H1,I1,r1,x,y,e,⟨xs,hx⟩,⟨ys,hy⟩,q⟩=>?_) (by rw[hs,hs2]) (by rw[hs2];rfl)))
 subst e;obtain⟨u,v,rfl,rx,ry⟩:=aAt r1;cases rx;cases ry;obtain⟨us',ru,pu,zu⟩:=I1.list hx;obtain⟨vs',rv,pv,zv⟩:=I1.list hy;have a1:x<s1.heap.objs.size:=by obtain⟨_,e,_⟩:=pu.isList;exact Ae e
 have a2:y<s1.heap.objs.size:=by obtain⟨_,e,_⟩:=pv.isList;exact Ae e
 refine call_zip_2 pu.isList pv.isList fun h1 hz hTI hTO hi1 hi2 hsz hk=>?_
 refine wpAny_pyIter_zip hz ?_
 have big:∀ c∈[s1.heap.objs.size+4,s1.heap.objs.size+2,s1.heap.objs.size+3,s1.heap.objs.size,s1.heap.objs.size+1],s1.heap.objs.size<=c:=fun c hc'=>by
  simp only[Ai,Bc,or_false]at hc';rcases hc' with rfl | rfl | rfl | rfl | rfl
  · exact Cm _ 4
  · exact Cm _ 2
  · exact Cm _ 3
  · exact Af _
  · exact Cm _ 1
 exact⟨_,[s1.heap.objs.size+4,s1.heap.objs.size+2,s1.heap.objs.size+3,s1.heap.objs.size,s1.heap.objs.size+1],_,_,H1,rfl,I1.kept (t':=s1.toks) hk,aDz (zipApart_new a1 a2),⟨hz,hTI,⟨_,_,hTO⟩,hi1,hi2⟩,
  fun c hc'=>I1.fpOk (big c hc') (I1.hok.fresh (big c hc')),q⟩
section
variable {X:Cx}
def aOc (i j:Int):Prop:=i.natAbs.log2<1000000/\j.natAbs.log2<1000000
def aPv (i j:Int):Prop:=0<j/\j.natAbs.log2<9000
theorem lY {i:Int}(h:i.natAbs.log2<1000000):Builtin.Int.intBits i<=2^20:=by
 have million:1000000<(2:Nat)^20:=by decide
 unfold Builtin.Int.intBits
 first
  | omega
  | (split<;>omega)
theorem aIa:OpR X (binaryOp .Mult) (rI aOc fun i j=>.int (i*j)):=opI fun _ _ _ _ _ _ _ hc q=>mul_int q (.of_bits (lY hc.1) (lY hc.2))
theorem aEz:OpR X (binaryOp .FloorDiv) (rI aPv fun i j=>.int (i/j)):=opI fun i j _ _ _ _ _ hc q=>by
 have h1:(0:Int)<j:=hc.1;exact floordiv_int (by omega) (by rw[Int.fdiv_eq_ediv_of_nonneg i (by omega)];exact q) (.inl (PyProof.noPylong_of_log2 hc.2))
end
end L2
namespace L2
open PySem PySem.Spec PyProof.Rows
def aO (P:Program)(w:World)(K:PySem.W.Frag)(mg:Str->Option Value)(base:Heap)(CX:CXT)(k:Nat)(x:Str)(ps:List Str)(sp:Sp):Prop :=
 ∃ (f:Addr) (fd:FuncData),FnOk P w K mg base CX k f fd ps sp/\mg x=some (.ref f)/\Eh K (.ref f)=true/\tF K fd ps []
def cB (K:PySem.W.Frag)(mg:Str->Option Value)(x:Str)(st:Stmt)(ps:List Str):Prop :=
 ∃ (f:Addr) (fd:FuncData),Fun K x x st f fd/\mg x=some (.ref f)/\tF K fd ps []
theorem aO.mono {P:Program}{w:World}{K:PySem.W.Frag}{mg:Str->Option Value}{base:Heap}{CX:CXT}{j k:Nat}{x:Str}{ps:List Str}{sp:Sp}(c:aO P w K mg base CX j x ps sp)(h:j<=k):aO P w K mg base CX k x ps sp :=
 let ⟨f,fd,F,m,kp,b⟩:=c
 ⟨f,fd,F.mono h,m,kp,b⟩
theorem cF {K:PySem.W.Frag}{mg:Str->Option Value}{h:Heap}{x:Str}{st:Stmt}{ps:List Str}{f:Addr}{oc:Value}{od an:Option Addr}{osl:Array (Option Value)}{kV doc pm cdv ct:Value}(X:K.In h)(G:h.Ns mainGlobals mg)
 (a:Be K mainGlobals x=some (some (.ref f))) (l:K.lookup f=some ⟨oc,od,.func (Cs x x (hJ st) (fO st) (aY st) .none kV doc pm an cdv ct),osl⟩)
 (c:Ei K cdv x=true) (kp:Eh K (.ref f)=true)
 (hb:∀ (kV doc pm:Value) (an:Option Addr) (cdv ct:Value) (us:List Value),us.length=ps.length->bindArgs (Cs x x (hJ st) (fO st) (aY st) .none kV doc pm an cdv ct) ⟨us,[]⟩=pure (ps.zip us)):cB K mg x st ps:=by
 have F:=aEv (st:=st) l c kp;exact⟨f,_,F,Em X G a,F.binds hb⟩
def aBm (sc:Scope)(XN:List Str)(scope:Scope)(N:List Str)(k:Nat)(fs:List Nat):Bool :=
 scope.kind==.function&&decide (scope.names.map (·.1)).Nodup&&scope.names.all (fun y=>y.2 != .free||((sc.names.filter (·.2==.cell)).map (·.1)).contains y.1)&&N.length==k+fs.length &&
  fs.zipIdx.all fun p=>match N[k+p.2]?,XN[p.1]? with
   | some x,some y=>decide (x=y)&&scope.names.lookup x==some .free&&sc.names.lookup x==some .cell
   | _,_=>false
theorem kH:∀ (names:List (Str×NameKind)) (n:Nat),∀ x,x∈(names.filter (·.2==.cell)).map (·.1)->x∈(cellsFrom n names []).map (·.1)
 | [],_,x,h=>by simp at h
 | (y,k) :: r,n,x,h=>by
  unfold cellsFrom;by_cases hk:(k==NameKind.cell)=true
  · rw[if_pos hk,cL,Bo,Bg]
    rw[Dm (by exact hk),Ap,Ai]at h
    rcases h with h | h
    · right;simp[h]
    · left;exact kH r (n+1) x h
  · rw[if_neg hk]
    rw[Do (by exact hk)]at h
    exact kH r n x h
theorem cN {X:Cx}{sc scope:Scope}{n k:Nat}{N XN:List Str}{fs:List Nat}(hN:X.N=XN)(he:X.env.cells=cellsFrom n sc.names [])(hs:X.env.scope=sc)(h:aBm sc XN scope N k fs=true):CompOk X scope N k fs:=by
 unfold aBm at h;simp only[De]at h;obtain⟨⟨⟨⟨h1,h2⟩,h3⟩,h4⟩,h5⟩:=h;refine⟨by simpa using h1,of_decide_eq_true h2,fun y hy hf=>?_,by simpa using h4,fun j i e=>?_⟩
 · have:=Fn.mp h3 y hy
   rw[hf]at this;have c:((sc.names.filter (·.2==.cell)).map (·.1)).contains y.1=true:=by simpa using this
   rw[he];exact kH _ _ _ (by simpa using c)
 · have hm:(i,j)∈fs.zipIdx:=by
    rw[List.mem_zipIdx_iff_getElem?];exact e
   have:=Fn.mp h5 (i,j) hm
   dsimp only at this
   cases e1:N[k+j]? with
   | none=>rw[e1]at this;cases this
   | some x =>
    cases e2:XN[i]? with
    | none=>rw[e1,e2]at this;cases this
    | some y =>
     rw[e1,e2]at this;simp only[Br]at this;obtain⟨⟨q1,q2⟩,q3⟩:=this;have q1':x=y:=of_decide_eq_true q1;subst q1';refine⟨x,rfl,by rw[hN];exact e2,by simpa using q2,.inl ?_⟩
     show X.env.scope.names.lookup x=some .cell
     rw[hs];simpa using q3
theorem aI.upd_new {H:Hp}{a:Addr}{o:HO}(h:H a=none):aI H (upd H a o):=fun b u e=>by rw[aK (bF e h)];exact e
theorem aI.none {H H':Hp}(e:aI H H'){l:Addr}(h:H' l=Fy):H l=Fy:=e.free h
end L2
namespace Mir
open PySem
inductive XC where
 | NotAlike | BadCount | BadRows | BadRow | OtherSpace | BadSize | BadPlaces | ZeroSum | NoBox | BadTable | NoLine | BadName | NoRow | NoName
 deriving DecidableEq
def XC.nm:XC->Str
 | .NotAlike=>"NotAlike" | .BadCount=>"BadCount" | .BadRows=>"BadRows" | .BadRow=>"BadRow" | .OtherSpace=>"OtherSpace" | .BadSize=>"BadSize" | .BadPlaces=>"BadPlaces"
 | .ZeroSum=>"ZeroSum" | .NoBox=>"NoBox" | .BadTable=>"BadTable" | .NoLine=>"NoLine" | .BadName=>"BadName" | .NoRow=>"NoRow" | .NoName=>"NoName"
inductive D where
 | non | bl (b:Bool) | int (i:Int) | str (x:Str)
 | lst (ds:List D) | tup (ds:List D)
 | obj (c:Nat) (ds:List D)
 | dct (ks:List (List Int)) (ds:List D)
 | any
 | exc (c:XC) (ds:List D)
mutual
/-- no list within -/
def D.imm:D->Bool
 | .lst _=>false
 | .obj _ _=>false
 | .dct _ _=>false
 | .any=>false
 | .tup ds=>D.imms ds
 | .exc _ ds=>D.imms ds
 | _=>true
def D.imms:List D->Bool
 | []=>true
 | d :: r=>d.imm&&D.imms r
end
def D.con:D->Bool
 | .lst _=>true
 | .dct _ _=>true
 | _=>false
inductive Kd where
 | shr | own | tmp | old
 deriving DecidableEq
@[simp] def Kd.rd:Kd->Kd
 | .old=>.shr
 | k=>k
structure Res where
 k:Kd
 fr:Bool
 d:D
abbrev Env:=List (Option Res)
structure Xc where
 c:XC
 ds:List D
inductive R (α:Type) where
 | ok (a:α) | exc (x:Xc) | stk
@[simp] def R.bind {α β:Type}:R α->(α->R β)->R β
 | .ok a,f=>f a
 | .exc x,_=>.exc x
 | .stk,_=>.stk
instance:Monad R where
 pure:=.ok
 bind:=R.bind
@[simp] theorem R.ok_bind {α β:Type} (a:α) (f:α->R β):(R.ok a >>= f)=f a:=rfl
@[simp] theorem R.pure_bind' {α β:Type} (a:α) (f:α->R β):((pure a:R α) >>= f)=f a:=rfl
@[simp] theorem R.exc_bind {α β:Type} (x:Xc) (f:α->R β):(R.exc x >>= f)=.exc x:=rfl
@[simp] theorem R.stk_bind {α β:Type} (f:α->R β):((R.stk:R α) >>= f)=.stk:=rfl
@[simp] theorem R.pure_eq {α:Type} (a:α):(pure a:R α)=.ok a:=rfl
abbrev FE:=Env->R Res
abbrev FT:=Env->R Bool
@[simp] def sc (d:D):Res:=⟨.shr,true,d⟩
def Res.give (r:Res):R Res:=if r.k=.own then .stk else .ok ⟨.shr,r.fr,r.d⟩
def vE (i:Nat):FE:=fun ρ=>match ρ[i]? with
 | some (some e)=>.ok ⟨e.k.rd,e.fr||e.d.imm,e.d⟩
 | _=>.stk
def cE (d:D):FE:=fun _=>.ok (sc d)
def asI:D->R Int
 | .int i=>.ok i
 | _=>.stk
def asB:D->R Bool
 | .bl b=>.ok b
 | _=>.stk
def asL:D->R (List D)
 | .lst ds=>.ok ds
 | _=>.stk
def asS:D->R (List D)
 | .lst ds=>.ok ds
 | .tup ds=>.ok ds
 | _=>.stk
def i2E (C:Int->Int->Bool)(g:Int->Int->Int)(a b:FE):FE:=fun ρ=>do
 let x ← a ρ
 let y ← b ρ
 let i ← asI x.d
 let j ← asI y.d
 if C i j then .ok (sc (.int (g i j))) else .stk
def zJ (g:Int->Int->Bool)(a b:FE):FE:=fun ρ=>do
 let x ← a ρ
 let y ← b ρ
 let i ← asI x.d
 let j ← asI y.d
 .ok (sc (.bl (g i j)))
def sA (a:FE):FE:=fun ρ=>do
 let x ← a ρ
 let i ← asI x.d
 .ok (sc (.int (-i)))
def C0:Int->Int->Bool:=fun _ _=>true
def CM:Int->Int->Bool:=fun i j=>decide (i.natAbs.log2<1000000)&&decide (j.natAbs.log2<1000000)
def CD:Int->Int->Bool:=fun _ j=>decide (0<j)&&decide (j.natAbs.log2<9000)
def CP:Int->Int->Bool:=fun _ j=>decide (0<j)
def CW:Int->Int->Bool:=fun i j=>decide (0<=j)&&decide (j<=1000000)&&decide (i.natAbs<2^64)
def cA:=i2E C0 (fun i j=>i+j)
def eU:=i2E C0 (fun i j=>i-j)
def cC:=i2E CM (fun i j=>i*j)
def rY:=i2E CD (fun i j=>i/j)
def dF:=i2E CP (fun i j=>i%j)
def aF1:=i2E CW (fun i j=>i^j.toNat)
def ltE:=zJ fun i j=>decide (i<j)
def leE:=zJ fun i j=>decide (i<=j)
def gtE:=zJ fun i j=>decide (j<i)
def geE:=zJ fun i j=>decide (j<=i)
end Mir
namespace Mir
open PySem L2
noncomputable def cut (H:Hp)(B:Addr->Prop):Hp:=fun a=>haveI:=Classical.propDecidable (B a);if B a then none else H a
theorem aS {H:Hp}{B:Addr->Prop}{a:Addr}{o:HO}:cut H B a=some o↔¬ B a/\H a=some o:=by
 unfold cut;by_cases h:B a
 · simp[h]
 · simp[h]
def stab:HO->Bool
 | .tup _=>true
 | .ext _=>true
 | .frz _ u=>stab u
 | _=>false
def Ban (fr:Bool)(H0:Hp)(B:Addr->Prop):Addr->Prop:=fun a=>B a\/(fr=true/\∃ o,H0 a=some o/\stab o=false)
noncomputable abbrev aZ (fr:Bool)(H0 H:Hp)(B:Addr->Prop):Hp:=cut H (Ban fr H0 B)
theorem dY {H:Hp}{B:Addr->Prop}:aI (cut H B) H:=fun b o e=>(aS.mp e).2
theorem eG {H H':Hp}{B B':Addr->Prop}(s:∀ b o,H b=some o->¬ B b->H' b=some o)(h:∀ b,B' b->B b\/H b=none):aI (cut H B) (cut H' B'):=fun b o e=>by
 obtain⟨n,e⟩:=aS.mp e;refine aS.mpr ⟨fun z=>?_,s b o e n⟩
 rcases h b z with h | h
 · exact n h
 · rw[h]at e;cases e
theorem aV {fr:Bool}{H0 H H':Hp}{B B':Addr->Prop}(s:∀ b o,H b=some o->¬ B b->H' b=some o)(h:∀ b,B' b->B b\/H b=none):aI (aZ fr H0 H B) (aZ fr H0 H' B') :=
 eG (fun b o e n=>s b o e fun z=>n (.inl z)) fun b z=>by
  rcases z with z | z
  · exact(h b z).imp .inl id
  · exact .inl (.inr z)
theorem iU {fr:Bool}{H0 H:Hp}{B:Addr->Prop}:aI (aZ fr H0 H B) (aZ false H0 H B) :=
 eG (fun _ _ e _=>e) fun b z=>by
  rcases z with z | ⟨z,_⟩
  · exact .inl (.inl z)
  · cases z
theorem aI.rd {H H':Hp}{a:Addr}{u:HO}(e:aI H H')(h:Rd H a u):Rd H' a u:=by
 rcases h with h | ⟨o,h⟩
 · exact .inl (e _ _ h)
 · exact .inr ⟨o,e _ _ h⟩
def clK (K:PySem.W.Frag)(c:XC):Addr:=match Be K mainGlobals c.nm with
 | some (some (.ref C))=>C
 | _=>0
def fC (a C:Addr)(h:Heap):Prop:=∃ o,h.get? a=some o/\o.cls=.ref C/\PySem.W.notCls o=true
theorem fC.stay {a C:Addr}{h h':Heap}(x:fC a C h)(k:∀ o,h.get? a=some o->h'.get? a=some o):fC a C h' :=
 let ⟨o,e,c⟩:=x
 ⟨o,k o e,c⟩
variable {K:PySem.W.Frag}
def cJ (ks:List (List Int))(kvs:List (List Key×V)):Prop:=kvs.map (·.1)=ks.map (·.map Sum.inl)
mutual
def Rep (K:PySem.W.Frag)(G:Hp):D->V->Prop
 | .non,v=>v=.non
 | .bl b,v=>v=.bl b
 | .int i,v=>v=.int i
 | .str x,v=>v=.str x
 | .lst ds,v=>∃ a xs,v=.ref a/\Rd G a (.lst xs)/\aJ K G ds xs
 | .tup ds,v=>∃ a xs,v=.ref a/\G a=some (.tup xs)/\aJ K G ds xs
 | .obj _ _,_=>False
 | .any,_=>True
 | .dct ks ds,v=>∃ a kvs,v=.ref a/\Rd G a (.dT kvs)/\cJ ks kvs/\aJ K G ds (kvs.map (·.2))
 | .exc c ds,v=>ds=[]/\∃ a,v=.ref a/\G a=some (.ext (fC a (clK K c)))
def aJ (K:PySem.W.Frag)(G:Hp):List D->List V->Prop
 | [],xs=>xs=[]
 | d :: r,xs=>∃ x xr,xs=x :: xr/\Rep K G d x/\aJ K G r xr
end
mutual
theorem Rep.same {G G':Hp}(e:aI G G'):∀ {d:D} {v:V},Rep K G d v->Rep K G' d v
 | .non,_,h=>h
 | .bl _,_,h=>h
 | .int _,_,h=>h
 | .str _,_,h=>h
 | .lst _,_,⟨a,xs,h1,h2,h3⟩=>⟨a,xs,h1,aI.rd e h2,aJ.same e h3⟩
 | .tup _,_,⟨a,xs,h1,h2,h3⟩=>⟨a,xs,h1,e _ _ h2,aJ.same e h3⟩
 | .obj _ _,_,h=>h
 | .any,_,h=>h
 | .dct _ _,_,⟨a,xs,h1,h2,h3,h4⟩=>⟨a,xs,h1,aI.rd e h2,h3,aJ.same e h4⟩
 | .exc _ _,_,⟨h,a,h1,h2⟩=>⟨h,a,h1,e _ _ h2⟩
theorem aJ.same {G G':Hp}(e:aI G G'):∀ {ds:List D} {vs:List V},aJ K G ds vs->aJ K G' ds vs
 | [],_,h=>h
 | _ :: _,_,⟨x,xr,h1,h2,h3⟩=>⟨x,xr,h1,Rep.same e h2,aJ.same e h3⟩
end
theorem aJ.length {G:Hp}:∀ {ds:List D} {vs:List V},aJ K G ds vs->ds.length=vs.length
 | [],vs,h=>by have e:vs=[]:=h;rw[e];rfl
 | _ :: _,_,⟨x,xr,h1,_,h3⟩=>by rw[h1];simp[aJ.length h3]
theorem aJ.get {G:Hp}:∀ {ds:List D} {vs:List V} {i:Nat} {d:D},aJ K G ds vs->ds[i]?=some d->∃ v,vs[i]?=some v/\Rep K G d v
 | [],_,_,_,_,e=>by simp at e
 | _ :: _,_,0,_,⟨x,xr,h1,h2,_⟩,e=>by simp at e;subst e;exact⟨x,by rw[h1];rfl,h2⟩
 | _ :: _,_,i+1,d,⟨x,xr,h1,_,h3⟩,e=>by
  obtain⟨v,a,b⟩:=aJ.get (i:=i) (d:=d) h3 (by simpa using e)
  exact⟨v,by rw[h1];simpa using a,b⟩
theorem aJ.append {G:Hp}:∀ {ds es:List D} {vs ws:List V},aJ K G ds vs->aJ K G es ws->aJ K G (ds++es) (vs++ws)
 | [],_,_,_,h,q=>by rw[show _=[] from h];exact q
 | _ :: _,_,_,_,⟨x,xr,h1,h2,h3⟩,q=>by subst h1;exact⟨x,_,rfl,h2,aJ.append h3 q⟩
theorem aJ.take {G:Hp}:∀ {ds:List D} {vs:List V} (n:Nat),aJ K G ds vs->aJ K G (ds.take n) (vs.take n)
 | _,_,0,_=>by simp only[List.take_zero];rfl
 | [],_,_+1,h=>by rw[show _=[] from h];rfl
 | _ :: _,_,n+1,⟨x,xr,h1,h2,h3⟩=>by subst h1;exact⟨x,_,rfl,h2,aJ.take n h3⟩
theorem aJ.drop {G:Hp}:∀ {ds:List D} {vs:List V} (n:Nat),aJ K G ds vs->aJ K G (ds.drop n) (vs.drop n)
 | _,_,0,h=>h
 | [],_,_+1,h=>by rw[show _=[] from h];rfl
 | _ :: _,_,n+1,⟨x,xr,h1,_,h3⟩=>by subst h1;exact aJ.drop n h3
theorem aJ.set {G:Hp}{d:D}{v:V}(r:Rep K G d v):∀ {ds:List D} {vs:List V} (i:Nat),aJ K G ds vs->aJ K G (ds.set i d) (vs.set i v)
 | [],_,_,h=>by rw[show _=[] from h];rfl
 | _ :: _,_,0,⟨x,xr,h1,_,h3⟩=>by subst h1;exact⟨v,xr,rfl,r,h3⟩
 | _ :: _,_,i+1,⟨x,xr,h1,h2,h3⟩=>by subst h1;exact⟨x,_,rfl,h2,aJ.set r i h3⟩
theorem aJ.one {G:Hp}{d:D}{v:V}(r:Rep K G d v):aJ K G [d] [v]:=⟨v,[],rfl,r,rfl⟩
theorem tP {H0 H:Hp}{B:Addr->Prop}{a:Addr}{o:HO}(s:aI H0 H)(st:stab o=true)(e:aZ false H0 H B a=some o):aZ true H0 H B a=some o:=by
 obtain⟨n,e⟩:=aS.mp e;refine aS.mpr ⟨fun z=>?_,e⟩
 rcases z with z | ⟨_,o',q1,q2⟩
 · exact n (.inl z)
 · rw[s a o' q1]at e;cases e;rw[st]at q2;cases q2
mutual
theorem Rep.imm {H0 H:Hp}{B:Addr->Prop}(s:aI H0 H):∀ {d:D} {v:V},d.imm=true->Rep K (aZ false H0 H B) d v->Rep K (aZ true H0 H B) d v
 | .non,_,_,h=>h
 | .bl _,_,_,h=>h
 | .int _,_,_,h=>h
 | .str _,_,_,h=>h
 | .lst _,_,i,_=>by cases i
 | .tup ds,_,i,⟨a,xs,h1,h2,h3⟩=>by
  refine⟨a,xs,h1,?_,aJ.imm s (by simpa[D.imm] using i) h3⟩
  exact tP s rfl h2
 | .obj _ _,_,_,h=>h
 | .any,_,i,_=>by cases i
 | .dct _ _,_,i,_=>by cases i
 | .exc _ _,_,_,⟨h,a,h1,h2⟩=>⟨h,a,h1,tP s rfl h2⟩
theorem aJ.imm {H0 H:Hp}{B:Addr->Prop}(s:aI H0 H):∀ {ds:List D} {vs:List V},D.imms ds=true->aJ K (aZ false H0 H B) ds vs->aJ K (aZ true H0 H B) ds vs
 | [],_,_,h=>h
 | d :: r,_,i,⟨x,xr,h1,h2,h3⟩=>by
  have i':d.imm=true/\D.imms r=true:=by simpa[D.imms] using i
  exact⟨x,xr,h1,Rep.imm s i'.1 h2,aJ.imm s i'.2 h3⟩
end
theorem Rep.fr {H0 H:Hp}{B:Addr->Prop}{fr:Bool}{d:D}{v:V}(s:aI H0 H)(h:Rep K (aZ fr H0 H B) d v):Rep K (aZ (fr||d.imm) H0 H B) d v:=by
 cases fr with
 | true=>exact h
 | false =>
  cases e:d.imm with
  | false=>exact h
  | true=>exact Rep.imm s e h
def iY (K:PySem.W.Frag)(G:Hp)(d:D)(o:HO):Prop:=match d with
 | .lst ds=>∃ vs,o=.lst vs/\aJ K G ds vs
 | .dct ks ds=>∃ kvs,o=.dT kvs/\cJ ks kvs/\aJ K G ds (kvs.map (·.2))
 | _=>False
theorem iY.same {G G':Hp}(e:aI G G'){d:D}{o:HO}(h:iY K G d o):iY K G' d o:=by
 cases d with
 | lst ds=>obtain⟨vs,h1,h2⟩:=h;exact⟨vs,h1,aJ.same e h2⟩
 | dct ks ds=>obtain⟨kvs,h1,h2,h3⟩:=h;exact⟨kvs,h1,h2,aJ.same e h3⟩
 | _=>exact h.elim
theorem iY.con {G:Hp}{d:D}{o:HO}(h:iY K G d o):d.con=true:=by
 cases d with
 | lst ds=>rfl
 | dct ks ds=>rfl
 | _=>exact h.elim
theorem iY.imm {G:Hp}{d:D}{o:HO}(h:iY K G d o):d.imm=false:=by
 cases d with
 | lst ds=>rfl
 | dct ks ds=>rfl
 | _=>exact h.elim
theorem iY.stab {G:Hp}{d:D}{o:HO}(h:iY K G d o):stab o=false:=by
 cases d with
 | lst ds=>obtain⟨vs,h1,h2⟩:=h;subst h1;rfl
 | dct ks ds=>obtain⟨kvs,h1,h2,h3⟩:=h;subst h1;rfl
 | _=>exact h.elim
theorem iY.lst {G:Hp}{ds:List D}{vs:List V}(h:aJ K G ds vs):iY K G (.lst ds) (.lst vs):=⟨vs,rfl,h⟩
theorem iY.rep {G G':Hp}{a:Addr}{d:D}{o:HO}(h:iY K G d o)(e:aI G G')(q:G' a=some o):Rep K G' d (.ref a):=by
 cases d with
 | lst ds=>obtain⟨vs,h1,h2⟩:=h;subst h1;exact⟨a,vs,rfl,Rd.of q,aJ.same e h2⟩
 | dct ks ds=>obtain⟨kvs,h1,h2,h3⟩:=h;subst h1;exact⟨a,kvs,rfl,Rd.of q,h2,aJ.same e h3⟩
 | _=>exact h.elim
def mC (K:PySem.W.Frag)(H0 H:Hp)(B:Addr->Prop)(v:V)(e:Res):Prop :=
 match e.k with
 | .shr=>Rep K (aZ e.fr H0 H B) e.d v
 | .own=>∃ a o,v=.ref a/\B a/\H0 a=none/\H a=some o/\iY K (aZ e.fr H0 H B) e.d o
 | .tmp=>False
 | .old=>e.fr=false/\Rep K (cut H0 B) e.d v
structure DenE (K:PySem.W.Frag)(H0 H:Hp)(B:Addr->Prop)(σ:St)(ρ:Env):Prop where
 len:ρ.length=σ.length
 sam:aI H0 H
 bnd:∀ b,B b->∃ o,H b=some o/\stab o=false
 ent:∀ (i:Nat) (e:Res),ρ[i]?=some (some e)->∃ v,σ[i]?=some (some v)/\mC K H0 H B v e
def aM (K:PySem.W.Frag)(H0 H H':Hp)(B:Addr->Prop)(v:V)(r:Res):Prop :=
 match r.k with
 | .shr=>Rep K (aZ r.fr H0 H' B) r.d v
 | .own=>∃ a o,v=.ref a/\B a/\H0 a=none/\H' a=some o/\iY K (aZ r.fr H0 H' B) r.d o
 | .tmp=>∃ a o,v=.ref a/\H a=none/\H' a=some o/\iY K (aZ r.fr H0 H' fun b=>B b\/b=a) r.d o
 | .old=>False
section
variable {H0 H H' H'':Hp}{B B':Addr->Prop}{v:V}{r e:Res}{σ:St}{ρ:Env}
theorem mC.mono (g:mC K H0 H B v e)(s:aI H H'):mC K H0 H' B v e:=by
 unfold mC at g ⊢;have m:∀ fr,aI (aZ fr H0 H B) (aZ fr H0 H' B):=fun fr=>aV (fun b o e _=>s b o e) fun b z=>.inl z;cases k:e.k with
 | shr=>rw[k]at g;exact Rep.same (m _) g
 | own=>rw[k]at g;obtain⟨a,o,h1,h2,h3,h4,h5⟩:=g;exact⟨a,o,h1,h2,h3,s _ _ h4,h5.same (m _)⟩
 | tmp=>rw[k]at g;exact g
 | old=>rw[k]at g;exact g
theorem DenE.mono (d:DenE K H0 H B σ ρ)(s:aI H H'):DenE K H0 H' B σ ρ :=
 ⟨d.len,d.sam.trans s,fun b h=>let ⟨o,e,n⟩:=d.bnd b h;⟨o,s _ _ e,n⟩,fun i e h=>let ⟨v,a,g⟩:=d.ent i e h;⟨v,a,g.mono s⟩⟩
theorem aM.mono (g:aM K H0 H H' B v r)(s:aI H' H''):aM K H0 H H'' B v r:=by
 unfold aM at g ⊢;have m:∀ fr (B:Addr->Prop),aI (aZ fr H0 H' B) (aZ fr H0 H'' B):=fun fr B=>aV (fun b o e _=>s b o e) fun b z=>.inl z;cases k:r.k with
 | shr=>rw[k]at g;exact Rep.same (m _ _) g
 | own=>rw[k]at g;obtain⟨a,o,h1,h2,h3,h4,h5⟩:=g;exact⟨a,o,h1,h2,h3,s _ _ h4,h5.same (m _ _)⟩
 | tmp=>rw[k]at g;obtain⟨a,o,h1,h2,h3,h4⟩:=g;exact⟨a,o,h1,h2,s _ _ h3,h4.same (m _ _)⟩
 | old=>rw[k]at g;exact g
theorem aM.sc {d:D}(h:Rep K (aZ true H0 H' B) d v):aM K H0 H H' B v (sc d):=h
theorem aM.con (g:aM K H0 H H' B v r)(e:r.k≠.shr):∃ a o,v=.ref a/\H' a=some o/\iY K (aZ r.fr H0 H' B) r.d o:=by
 unfold aM at g;cases k:r.k with
 | shr=>exact absurd k e
 | own=>rw[k]at g;obtain⟨a,o,h1,_,_,h4,h5⟩:=g;exact⟨a,o,h1,h4,h5⟩
 | tmp=>rw[k]at g;obtain⟨a,o,h1,_,h3,h4⟩:=g;exact⟨a,o,h1,h3,h4.same (aV (fun b o e _=>e) fun b z=>.inl (.inl z))⟩
 | old=>rw[k]at g;exact g.elim
theorem aM.list {ds:List D}(g:aM K H0 H H' B v r)(e:r.d=.lst ds):∃ a xs,v=.ref a/\Rd H' a (.lst xs)/\aJ K (aZ r.fr H0 H' B) ds xs:=by
 by_cases k:r.k=.shr
 · unfold aM at g
   rw[k,e]at g;obtain⟨a,xs,h1,h2,h3⟩:=g;exact⟨a,xs,h1,aI.rd dY h2,h3⟩
 · obtain⟨a,o,h1,h2,h3⟩:=g.con k
   rw[e]at h3;obtain⟨vs,h4,h5⟩:=h3;subst h4;exact⟨a,vs,h1,Rd.of h2,h5⟩
theorem aM.dict {ks:List (List Int)}{ds:List D}(g:aM K H0 H H' B v r)(e:r.d=.dct ks ds):∃ a kvs,v=.ref a/\Rd H' a (.dT kvs)/\cJ ks kvs/\aJ K (aZ r.fr H0 H' B) ds (kvs.map (·.2)):=by
 by_cases k:r.k=.shr
 · unfold aM at g
   rw[k,e]at g;obtain⟨a,xs,h1,h2,h3,h4⟩:=g;exact⟨a,xs,h1,aI.rd dY h2,h3,h4⟩
 · obtain⟨a,o,h1,h2,h3⟩:=g.con k
   rw[e]at h3;obtain⟨kvs,h4,h5,h6⟩:=h3;subst h4;exact⟨a,kvs,h1,Rd.of h2,h5,h6⟩
theorem aM.shr_of (g:aM K H0 H H' B v r)(h:r.d.con=false):Rep K (aZ r.fr H0 H' B) r.d v:=by
 by_cases k:r.k=.shr
 · unfold aM at g
   rw[k]at g;exact g
 · obtain⟨a,o,h1,h2,h3⟩:=g.con k
   rw[h3.con]at h;cases h
theorem aM.int {i:Int}(g:aM K H0 H H' B v r)(e:r.d=.int i):v=.int i:=by
 have:=g.shr_of (by rw[e];rfl)
 rw[e]at this;exact this
theorem aM.bl {b:Bool}(g:aM K H0 H H' B v r)(e:r.d=.bl b):v=.bl b:=by
 have:=g.shr_of (by rw[e];rfl)
 rw[e]at this;exact this
theorem aM.tuple {ds:List D}(g:aM K H0 H H' B v r)(e:r.d=.tup ds):∃ a xs,v=.ref a/\H' a=some (.tup xs)/\aJ K (aZ r.fr H0 H' B) ds xs:=by
 have:=g.shr_of (by rw[e];rfl)
 rw[e]at this;obtain⟨a,xs,h1,h2,h3⟩:=this;exact⟨a,xs,h1,dY _ _ h2,h3⟩
theorem aM.give {r':Res}(den:DenE K H0 H B σ ρ)(g:aM K H0 H H' B v r)(e:r.give=.ok r'):r'=⟨.shr,r.fr,r.d⟩/\Rep K (aZ r.fr H0 H' B) r.d v:=by
 unfold Res.give at e;unfold aM at g;cases k:r.k with
 | shr=>rw[k]at g e;simp at e;exact⟨e.symm,g⟩
 | own=>rw[k]at e;simp at e
 | old=>rw[k]at g;exact g.elim
 | tmp =>
  rw[k]at g e;simp at e
  obtain⟨a,o,h1,h2,h3,h4⟩:=g;refine⟨e.symm,?_⟩
  subst h1;refine h4.rep (aV (fun b o e _=>e) fun b z=>.inl (.inl z)) (aS.mpr ⟨fun z=>?_,h3⟩)
  rcases z with z | ⟨_,o,z,_⟩
  · obtain⟨o,q,_⟩:=den.bnd a z;rw[h2]at q;cases q
  · rw[den.sam _ _ z]at h2;cases h2
theorem mC.res (s:aI H0 H)(g:mC K H0 H B v e):aM K H0 H H B v ⟨e.k.rd,e.fr||e.d.imm,e.d⟩:=by
 unfold mC at g;unfold aM;cases k:e.k with
 | shr=>rw[k]at g;exact Rep.fr s g
 | own =>
  rw[k]at g;obtain⟨a,o,h1,h2,h3,h4,h5⟩:=g;refine⟨a,o,h1,h2,h3,h4,?_⟩
  rw[h5.imm,Fj];exact h5
 | tmp=>rw[k]at g;exact g.elim
 | old =>
  rw[k]at g;refine Rep.fr s (Rep.same ?_ g.2)
  rw[g.1];intro b o q;obtain⟨n,q⟩:=aS.mp q;refine aS.mpr ⟨fun z=>?_,s b o q⟩
  rcases z with z | ⟨z,_⟩
  · exact n z
  · cases z
end
structure XP where
 p:Xc->St->Hp->Prop
 mono:∀ {x:Xc} {σ:St} {H H':Hp},p x σ H->aI H H'->p x σ H'
def XP0:XP:=⟨fun _ _ _=>False,fun h _=>h⟩
def tE (K:PySem.W.Frag)(P:XP)(f:FE):TE:=fun σ H Q=>∃ H0 B ρ,DenE K H0 H B σ ρ/\match f ρ with
 | .ok r=>∀ v H',aI H H'->aM K H0 H H' B v r->Q v H'
 | .exc x=>P.p x σ H
 | .stk=>False
def tT (K:PySem.W.Frag)(P:XP)(f:FT):TT:=fun σ H Q=>∃ H0 B ρ,DenE K H0 H B σ ρ/\match f ρ with
 | .ok b=>∀ H',aI H H'->Q b H'
 | .exc x=>P.p x σ H
 | .stk=>False
theorem PE.imp {X:Cx}{e:Expr}{t t':TE}(p:PE X e t)(h:∀ σ H Q,t' σ H Q->t σ H Q):PE X e t':=fun pins s σ H Q I q=>p pins s σ H Q I (h σ H Q q)
theorem PT.imp {X:Cx}{e:Expr}{t t':TT}(p:PT X e t)(h:∀ σ H Q,t' σ H Q->t σ H Q):PT X e t':=fun pins s σ H Q I q=>p pins s σ H Q I (h σ H Q q)
theorem eB {X:Cx}{P:XP}{f:FE}{H0 H:Hp}{B:Addr->Prop}{σ:St}{ρ:Env}{Q:VK}{r:Res}(d:DenE X.K H0 H B σ ρ)(e:f ρ=.ok r)
 (h:∀ v H',aI H H'->DenE X.K H0 H' B σ ρ->aM X.K H0 H H' B v r->Q v H'):tE X.K P f σ H Q :=
 ⟨H0,B,ρ,d,by rw[e];exact fun v H' s g=>h v H' s (d.mono s) g⟩
theorem cR {X:Cx}{P:XP}{f:FE}{H0 H:Hp}{B:Addr->Prop}{σ:St}{ρ:Env}{Q:VK}{x:Xc}(d:DenE X.K H0 H B σ ρ)(e:f ρ=.exc x)(h:P.p x σ H):tE X.K P f σ H Q :=
 ⟨H0,B,ρ,d,by rw[e];exact h⟩
end Mir
namespace Mir
open PySem
abbrev FEs:=List FE
def evs:FEs->Env->R (List Res)
 | [],_=>.ok []
 | f :: r,ρ=>do
  let x ← f ρ
  let xs ← evs r ρ
  .ok (x :: xs)
def gives:List Res->R (Bool×List D)
 | []=>.ok (true,[])
 | r :: rs=>do
  let x ← r.give
  let y ← gives rs
  .ok (x.fr&&y.1,x.d :: y.2)
def bZ (fs:FEs):FE:=fun ρ=>do
 let rs ← evs fs ρ
 let y ← gives rs
 if y.2.length<=sizeLine then .ok ⟨.tmp,y.1,.lst y.2⟩ else .stk
def dO (fs:FEs):FE:=fun ρ=>do
 let rs ← evs fs ρ
 let y ← gives rs
 if y.2.length<=sizeLine then .ok ⟨.shr,y.1,.tup y.2⟩ else .stk
def bY (a:FE):FE:=fun ρ=>do
 let x ← a ρ
 let ds ← asS x.d
 .ok (sc (.int ds.length))
def aX (a i:FE):FE:=fun ρ=>do
 let x ← a ρ
 let y ← i ρ
 let ds ← asS x.d
 let j ← asI y.d
 match L2.atI ds j with
 | some d=>.ok ⟨.shr,x.fr||d.imm,d⟩
 | none=>.stk
def jH (a:FE):FE:=fun ρ=>do
 let x ← a ρ
 let ds ← asS x.d
 .ok ⟨.tmp,x.fr,.lst ds⟩
def lV (a:FE):FE:=fun ρ=>do
 let x ← a ρ
 let ds ← asS x.d
 .ok ⟨.shr,x.fr,.tup ds⟩
def oJ (a b:FE):FE:=fun ρ=>do
 let x ← a ρ
 let y ← b ρ
 let xs ← asL x.d
 let ys ← asL y.d
 if xs.length+ys.length<=sizeLine then .ok ⟨.tmp,x.fr&&y.fr,.lst (xs++ys)⟩ else .stk
def nI (xs:List D)(lo hi:Option Int):List D:=(xs.drop (HT.sIx xs.length 0 lo)).take (HT.sIx xs.length xs.length hi-HT.sIx xs.length 0 lo)
abbrev FO:=Env->R (Option Int)
def noO:FO:=fun _=>.ok none
def soO (a:FE):FO:=fun ρ=>do
 let x ← a ρ
 let i ← asI x.d
 .ok (some i)
def uM (a:FE)(lo hi:FO):FE:=fun ρ=>do
 let x ← a ρ
 let l ← lo ρ
 let h ← hi ρ
 let ds ← asL x.d
 .ok ⟨.tmp,x.fr,.lst (nI ds l h)⟩
mutual
def iH:D->Option PyData
 | .non=>some .none
 | .bl b=>some (.bool b)
 | .int i=>some (.int i)
 | .str x=>some (.str x)
 | .lst ds=>(oE ds).map .list
 | .tup ds=>(oE ds).map .tuple
 | _=>none
def oE:List D->Option (List PyData)
 | []=>some []
 | d :: r=>(iH d).bind fun p=>(oE r).map (p :: ·)
end
def lO (x y:D):R Bool:=match iH x,iH y with
 | some p,some q=>if SeqAt.shaped p&&SeqAt.shaped q then .ok (PyData.eqv p q) else .stk
 | _,_=>.stk
def eqE (a b:FE):FE:=fun ρ=>do
 let x ← a ρ
 let y ← b ρ
 let t ← lO x.d y.d
 .ok (sc (.bl t))
def neE (a b:FE):FE:=fun ρ=>do
 let x ← a ρ
 let y ← b ρ
 let t ← lO x.d y.d
 .ok (sc (.bl (!t)))
def aOy:D->Bool
 | .non=>true
 | _=>false
def aHm:D->R Bool
 | .any=>.stk
 | d=>.ok (aOy d)
def aNa (a:FE):FE:=fun ρ=>do
 let x ← a ρ
 let b ← aHm x.d
 .ok (sc (.bl b))
def bT (a:FE):FT:=fun ρ=>do
 let x ← a ρ
 asB x.d
def eF (t:FT):FT:=fun ρ=>do
 let b ← t ρ
 .ok (!b)
def wM (t u:FT):FT:=fun ρ=>do
 let b ← t ρ
 if b then u ρ else .ok false
def orT (t u:FT):FT:=fun ρ=>do
 let b ← t ρ
 if b then .ok true else u ρ
def xJ (a b:FE):FE:=fun ρ=>do
 let x ← a ρ
 let t ← asB x.d
 if t then b ρ else .ok (sc (.bl false))
structure Its where
 st:Bool
 fr:Bool
 ds:List D
abbrev FI:=Env->R Its
def dC (a:FE):FI:=fun ρ=>do
 let x ← a ρ
 let ds ← asL x.d
 .ok ⟨x.k != .own,x.fr,ds⟩
def lU (a:FE):FI:=fun ρ=>do
 let x ← a ρ
 match x.d with
 | .tup ds=>.ok ⟨true,x.fr,ds⟩
 | _=>.stk
def mT (lo:Int)(n:Nat):List D:=(Bd n).map fun (i:Nat)=>.int (lo+(i:Int))
def eJ (a:FE):FI:=fun ρ=>do
 let x ← a ρ
 let j ← asI x.d
 if -(2^62)<=j/\j<2^62 then .ok ⟨true,true,mT 0 j.toNat⟩ else .stk
def qO (a b:FE):FI:=fun ρ=>do
 let x ← a ρ
 let y ← b ρ
 let i ← asI x.d
 let j ← asI y.d
 if -(2^62)<=i/\i<2^62/\-(2^62)<=j/\j<2^62 then .ok ⟨true,true,mT i (j-i).toNat⟩ else .stk
def aB3:List D->List D->List D:=List.zipWith fun a b=>.tup [a,b]
def zF (a b:FE):FI:=fun ρ=>do
 let x ← a ρ
 let y ← b ρ
 let xs ← asL x.d
 let ys ← asL y.d
 .ok ⟨x.k != .own&&y.k != .own,x.fr&&y.fr,aB3 xs ys⟩
inductive Tg where
 | nm (i:Nat) | tp (ts:List Tg)
mutual
def Tg.bind (fr:Bool):Tg->D->Env->R Env
 | .nm i,d,ρ=>.ok (ρ.set i (some ⟨.shr,fr,d⟩))
 | .tp ts,.tup ds,ρ=>Tg.binds fr ts ds ρ
 | .tp _,_,_=>.stk
def Tg.binds (fr:Bool):List Tg->List D->Env->R Env
 | [],[],ρ=>.ok ρ
 | t :: ts,d :: ds,ρ=>do
  let ρ1 ← Tg.bind fr t d ρ
  Tg.binds fr ts ds ρ1
 | _,_,_=>.stk
end
def dM (k:Nat)(fs:List Nat)(ρ:Env):Env:=Dh k none++fs.map fun i=>(ρ[i]?).join
abbrev FB:=Env->R (Option Res)
def bE (f:FE):FB:=fun ρ=>do
 let x ← f ρ
 .ok (some x)
def bIf (t:FT)(f:FE):FB:=fun ρ=>do
 let c ← t ρ
 if c then (do let x ← f ρ;.ok (some x)) else .ok none
def hG (tg:Tg)(b:FB)(fr:Bool)(ρ:Env):List D->R (Bool×List D)
 | []=>.ok (true,[])
 | d :: r=>do
  let ρ1 ← tg.bind fr d ρ
  match b ρ1 with
  | .ok (some x)=>do
   let x' ← x.give
   let y ← hG tg b fr ρ r
   .ok (x'.fr&&y.1,x'.d :: y.2)
  | .ok none=>hG tg b fr ρ r
  | _=>.stk
def bW (it:FI)(k:Nat)(fs:List Nat)(tg:Tg)(b:FB):FE:=fun ρ=>do
 let x ← it ρ
 let y ← hG tg b x.fr (dM k fs ρ) x.ds
 if x.ds.length<=sizeLine then .ok ⟨.tmp,y.1,.lst y.2⟩ else .stk
abbrev Φ:=List D->R Res
def aC (φ:Φ)(fs:FEs):FE:=fun ρ=>do
 let rs ← evs fs ρ
 let r ← φ (rs.map (·.d))
 if r.fr=true then .ok ⟨if r.k=.shr then .shr else .tmp,true,r.d⟩ else do
  let y ← gives rs
  .ok ⟨if r.k=.shr then .shr else .tmp,y.1,r.d⟩
inductive RS where
 | nx (ρ:Env) | rt (r:Res) | bk (ρ:Env) | ct (ρ:Env) | exc (x:Xc) (ρ:Env) | stk
abbrev FS:=Env->RS
def R.at (r:R α)(ρ:Env)(k:α->RS):RS:=match r with
 | .ok a=>k a
 | .exc x=>.exc x ρ
 | .stk=>.stk
def cI:FS:=.nx
def aL (s t:FS):FS:=fun ρ=>match s ρ with
 | .nx ρ1=>t ρ1
 | r=>r
def Res.keep (r:Res):R Res:=match r.k with
 | .shr=>.ok r
 | .tmp=>.ok ⟨.own,r.fr,r.d⟩
 | .own=>.stk
 | .old=>.stk
def aR (i:Nat)(f:FE):FS:=fun ρ=>(f ρ).at ρ fun r=>(r.keep).at ρ fun e=>.nx (ρ.set i (some e))
def iD (f:FE):FS:=fun ρ=>(f ρ).at ρ fun _=>.nx ρ
def bD (f:FE):FS:=fun ρ=>(f ρ).at ρ fun r=>.rt ⟨if r.k=.shr then .shr else .tmp,r.fr,r.d⟩
def ifS (t:FT)(a b:FS):FS:=fun ρ=>(t ρ).at ρ fun c=>if c then a ρ else b ρ
def frz (i:Nat)(ρ:Env):Env:=match ρ[i]? with
 | some (some e)=>ρ.set i (some ⟨.shr,e.fr,e.d⟩)
 | _=>ρ
def mO (i:Nat)(s:FS):FS:=fun ρ=>s (frz i ρ)
def rT (i:Nat)(ρ:Env):R (Bool×List D):=match ρ[i]? with
 | some (some ⟨.own,fr,.lst ds⟩)=>.ok (fr,ds)
 | _=>.stk
def jB (i:Nat)(f:FE):FS:=fun ρ=>(rT i ρ).at ρ fun y=>(f ρ).at ρ fun r=>(r.give).at ρ fun x =>
 if y.2.length<sizeLine then .nx (ρ.set i (some ⟨.own,y.1&&x.fr,.lst (y.2++[x.d])⟩)) else .stk
def fZ (tg:Tg)(b:FS)(fr:Bool):List D->FS
 | [],ρ=>.nx ρ
 | d :: r,ρ=>(tg.bind fr d ρ).at ρ fun ρ1=>match b ρ1 with
  | .nx ρ2=>fZ tg b fr r ρ2
  | .ct ρ2=>fZ tg b fr r ρ2
  | .bk ρ2=>.nx ρ2
  | o=>o
def cV (it:FI)(tg:Tg)(b:FS):FS:=fun ρ=>(it ρ).at ρ fun x=>if x.st then fZ tg b x.fr x.ds ρ else .stk
def stE (n:Nat)(ds:List D):Env:=ds.map (fun d=>some ⟨.shr,false,d⟩)++Dh (n-ds.length) none
def cW (np n:Nat)(s:FS):Φ:=fun ds=>if ds.length=np then (match s (stE n ds) with
 | .nx _=>.ok (sc .non)
 | .rt r=>.ok ⟨r.k,r.fr||r.d.imm,r.d⟩
 | .exc x _=>.exc x
 | _=>.stk) else .stk
end Mir
namespace Mir
open PySem L2
variable {X:Cx}{P:XP}{a b c:Expr}{f g:FE}{pos:Pos}
theorem aQw {i:Nat}{x:Str}(hN:X.N[i]?=some x)(hv:Vis X.env.scope x)(hd:(x==("__debug__":Str))=false:=by decide)(hcd:(x==("__classdict__":Str))=false:=by decide):PE X (.Name x pos) (tE X.K P (vE i)):=by
 refine PE.imp (nM hN hv hd hcd) ?_
 rintro σ H Q ⟨H0,B,ρ,d,h⟩
 unfold vE at h;cases e:ρ[i]? with
 | none=>rw[e]at h;exact h.elim
 | some o =>
  cases o with
  | none=>rw[e]at h;exact h.elim
  | some r =>
   rw[e]at h;obtain⟨v,hv,gd⟩:=d.ent i r e;exact⟨v,hv,h v H (aI.refl H) (gd.res d.sam)⟩
theorem m_v (i:Nat){x:Str}(hN:X.N[i]?=some x:=by rfl)(hv:Vis X.env.scope x:=by first | exact Or.inl rfl | exact Or.inr (Or.inl rfl) | exact Or.inr (Or.inr rfl))(hd:(x==("__debug__":Str))=false:=by decide)
 (hcd:(x==("__classdict__":Str))=false:=by decide):PE X (.Name x pos) (tE X.K P (vE i)):=aQw hN hv hd hcd
theorem m_c {d:D}{v:V}{e:Expr}(h:PE X e (tC v))(r:∀ G,Rep X.K G d v):PE X e (tE X.K P (cE d)):=by
 refine PE.imp h ?_
 rintro σ H Q ⟨H0,B,ρ,den,h⟩
 exact h v H (aI.refl H) (r _)
theorem aT {i:Int}{j pos}:PE X (.Constant (.int i) j pos) (tE X.K P (cE (.int i))):=m_c aK9 fun _=>rfl
theorem rV {b:Bool}{j pos}:PE X (.Constant (.bool b) j pos) (tE X.K P (cE (.bl b))):=m_c aNu fun _=>rfl
theorem aN3 {j pos}:PE X (.Constant .none j pos) (tE X.K P (cE .non)):=m_c aL6 fun _=>rfl
theorem fB {x:Str}{j pos}:PE X (.Constant (.str x) j pos) (tE X.K P (cE (.str x))):=m_c aK0 fun _=>rfl
theorem dJ {d:D}{i:Int}(h:asI d=.ok i):d=.int i:=by cases d<;>simp[asI]at h;rw[h]
theorem cZ {d:D}{x:Xc}(h:asI d=.exc x):False:=by cases d<;>simp[asI]at h
theorem aF9 {d:D}{i:Bool}(h:asB d=.ok i):d=.bl i:=by cases d<;>simp[asB]at h;rw[h]
theorem aBw {d:D}{x:Xc}(h:asB d=.exc x):False:=by cases d<;>simp[asB]at h
theorem gK {d:D}{i:List D}(h:asL d=.ok i):d=.lst i:=by cases d<;>simp[asL]at h;rw[h]
theorem iF {d:D}{x:Xc}(h:asL d=.exc x):False:=by cases d<;>simp[asL]at h
theorem zL {d:D}{i:List D}(h:asS d=.ok i):d=.lst i\/d=.tup i:=by cases d<;>simp[asS]at h<;>simp[h]
theorem jD {d:D}{x:Xc}(h:asS d=.exc x):False:=by cases d<;>simp[asS]at h
theorem t1 {k:Res->R Res}{σ:St}{H:Hp}{Q:VK}{q:VK}(h:tE X.K P (fun ρ=>f ρ >>= k) σ H Q)
 (hk:∀ H0 B ρ v H' r,DenE X.K H0 H' B σ ρ->aM X.K H0 H H' B v r->aI H H'->(match k r with
  | .ok r1=>∀ v1 H1,aI H' H1->aM X.K H0 H H1 B v1 r1->Q v1 H1
  | .exc x=>P.p x σ H'
  | .stk=>False)->q v H'):tE X.K P f σ H q:=by
 obtain⟨H0,B,ρ,d,h⟩:=h;cases e:f ρ with
 | stk=>simp[e]at h
 | exc x=>simp[e]at h;exact cR d e h
 | ok r =>
  simp[e]at h
  refine eB d e fun v H' s d' gd=>hk H0 B ρ v H' r d' gd s ?_
  cases e2:k r with
  | stk=>rw[e2]at h;exact h
  | exc x=>rw[e2]at h;exact P.mono h s
  | ok r1=>rw[e2]at h;exact fun v1 H1 s1 g1=>h v1 H1 (s.trans s1) g1
theorem t2 {k:Res->Res->R Res}{σ:St}{H:Hp}{Q:VK}{q:V->V->Hp->Prop}(h:tE X.K P (fun ρ=>f ρ >>= fun x=>g ρ >>= fun y=>k x y) σ H Q)
 (hk:∀ H0 B ρ v w H' r r',DenE X.K H0 H' B σ ρ->aM X.K H0 H H' B v r->aM X.K H0 H H' B w r'->aI H H'->(match k r r' with
  | .ok r1=>∀ v1 H1,aI H' H1->aM X.K H0 H H1 B v1 r1->Q v1 H1
  | .exc x=>P.p x σ H'
  | .stk=>False)->q v w H'):tE X.K P f σ H fun v H1=>tE X.K P g σ H1 fun w H2=>q v w H2:=by
 obtain⟨H0,B,ρ,d,h⟩:=h;cases e:f ρ with
 | stk=>simp[e]at h
 | exc x=>simp[e]at h;exact cR d e h
 | ok r =>
  simp[e]at h
  refine eB d e fun v H1 s1 d1 g1=>?_
  cases e2:g ρ with
  | stk=>simp[e2]at h
  | exc x=>simp[e2]at h;exact cR d1 e2 (P.mono h s1)
  | ok r' =>
   simp[e2]at h
   refine eB d1 e2 fun w H2 s2 d2 g2=>hk H0 B ρ v w H2 r r' d2 (g1.mono s2) ?_ (s1.trans s2) ?_
   · unfold aM at g2 ⊢
     cases k:r'.k with
     | shr=>rw[k]at g2;exact g2
     | own=>rw[k]at g2;exact g2
     | tmp=>rw[k]at g2;obtain⟨a,o,h1,h2,h3⟩:=g2;exact⟨a,o,h1,s1.none h2,h3⟩
     | old=>rw[k]at g2;exact g2
   · cases e3:k r r' with
     | stk=>rw[e3]at h;exact h
     | exc x=>rw[e3]at h;exact P.mono h (s1.trans s2)
     | ok r1=>rw[e3]at h;exact fun v1 H3 s3 g3=>h v1 H3 ((s1.trans s2).trans s3) g3
theorem aCi {op:Operator}{C:Int->Int->Bool}{C':Int->Int->Prop}{G:Int->Int->Int}(ho:OpR X (binaryOp op) (rI C' fun i j=>.int (G i j)))(hC:∀ i j,C i j=true->C' i j)(ha:PE X a (tE X.K P f))(hb:PE X b (tE X.K P g)) :
 PE X (.BinOp a op b pos) (tE X.K P (i2E C G f g)):=by
 refine PE.imp (aGv ho ha hb) ?_
 intro σ H Q h;refine t2 (q:=fun x y H2=>rI C' (fun i j=>.int (G i j)) x y H2 Q) h ?_
 intro H0 B ρ v w H' r r' d g1 g2 s h;cases e1:asI r.d with
 | stk=>simp[e1]at h
 | exc x=>exact(cZ e1).elim
 | ok i =>
  cases e2:asI r'.d with
  | stk=>simp[e1,e2]at h
  | exc x=>exact(cZ e2).elim
  | ok j =>
   simp only[e1,e2,R.ok_bind]at h;by_cases hc:C i j=true
   · rw[if_pos hc]at h
     exact⟨i,j,g1.int (dJ e1),g2.int (dJ e2),hC i j hc,h _ H' (aI.refl _) (aM.sc (show Rep _ _ (.int (G i j)) _ from rfl))⟩
   · rw[if_neg hc]at h;exact h.elim
theorem aKm {G:Int->Int->Int}{F:Value->Value->Sem Value}(h:OpR X F (rI0 fun i j=>.int (G i j))):OpR X F (rI (fun _ _=>True) fun i j=>.int (G i j)) :=
 fun pins s σ H x y v u Q I rx ry ⟨i,j,e1,e2,_,q⟩=>h pins s σ H x y v u Q I rx ry ⟨i,j,e1,e2,q⟩
theorem gI (ha:PE X a (tE X.K P f))(hb:PE X b (tE X.K P g)):PE X (.BinOp a .Add b pos) (tE X.K P (cA f g)):=aCi (aKm aLn) (fun _ _ _=>trivial) ha hb
theorem oA (ha:PE X a (tE X.K P f))(hb:PE X b (tE X.K P g)):PE X (.BinOp a .Sub b pos) (tE X.K P (eU f g)):=aCi (aKm aK6) (fun _ _ _=>trivial) ha hb
theorem fQ (ha:PE X a (tE X.K P f))(hb:PE X b (tE X.K P g)):PE X (.BinOp a .Mult b pos) (tE X.K P (cC f g)):=aCi aIa (fun i j h=>by
 unfold CM at h;simp at h;exact h) ha hb
theorem aJ0 (ha:PE X a (tE X.K P f))(hb:PE X b (tE X.K P g)):PE X (.BinOp a .FloorDiv b pos) (tE X.K P (rY f g)):=aCi aEz (fun i j h=>by
 unfold CD at h;simp at h;exact h) ha hb
theorem kK (ha:PE X a (tE X.K P f))(hb:PE X b (tE X.K P g)):PE X (.BinOp a .Mod b pos) (tE X.K P (dF f g)):=aCi aK3 (fun i j h=>by
 unfold CP at h;simp at h;exact h) ha hb
theorem aPu (ha:PE X a (tE X.K P f))(hb:PE X b (tE X.K P g)):PE X (.BinOp a .Pow b pos) (tE X.K P (aF1 f g)):=aCi aM8 (fun i j h=>by
 unfold CW at h;simp at h;exact⟨h.1.1,h.1.2,h.2⟩) ha hb
theorem aE8 (ha:PE X a (tE X.K P f)):PE X (.UnaryOp .USub a pos) (tE X.K P (sA f)):=by
 refine PE.imp (aPg aMt ha) ?_
 intro σ H Q h;refine t1 (q:=fun x H2=>rU (fun i=>.int (-i)) x H2 Q) h ?_
 intro H0 B ρ v H' r d g1 s h;cases e1:asI r.d with
 | stk=>simp[e1]at h
 | exc x=>exact(cZ e1).elim
 | ok i =>
  simp only[e1,R.ok_bind]at h;exact⟨i,g1.int (dJ e1),h _ H' (aI.refl _) (aM.sc (show Rep _ _ (.int (-i)) _ from rfl))⟩
theorem aA7 {G:Int->Int->Bool}(σ:St)(H:Hp)(Q:VK)(h:tE X.K P (zJ G f g) σ H Q):tOp (rI0 fun i j=>.bl (G i j)) (tE X.K P f) (tE X.K P g) σ H Q:=by
 refine t2 (q:=fun x y H2=>rI0 (fun i j=>.bl (G i j)) x y H2 Q) h ?_
 intro H0 B ρ v w H' r r' d g1 g2 s h;cases e1:asI r.d with
 | stk=>simp[e1]at h
 | exc x=>exact(cZ e1).elim
 | ok i =>
  cases e2:asI r'.d with
  | stk=>simp[e1,e2]at h
  | exc x=>exact(cZ e2).elim
  | ok j =>
   simp only[e1,e2,R.ok_bind]at h;exact⟨i,j,g1.int (dJ e1),g2.int (dJ e2),h _ H' (aI.refl _) (aM.sc (show Rep _ _ (.bl (G i j)) _ from rfl))⟩
mutual
theorem Rep.has {G H:Hp}(s:aI G H):∀ {d:D} {p:PyData} {v:V},iH d=some p->Rep X.K G d v->Has X.K H v p
 | .non,_,_,e,h=>by simp[iH]at e;subst e;rw[show _=V.non from h];exact .non
 | .bl b,_,_,e,h=>by simp[iH]at e;subst e;rw[show _=V.bl b from h];exact .bl b
 | .int i,_,_,e,h=>by simp[iH]at e;subst e;rw[show _=V.int i from h];exact .int i
 | .str x,_,_,e,h=>by simp[iH]at e;subst e;rw[show _=V.str x from h];exact .str x
 | .lst ds,_,_,e,⟨a,xs,h1,h2,h3⟩=>by
  simp[iH]at e
  obtain⟨ps,e1,e2⟩:=e;subst e2;subst h1;exact .lst (.inl (aI.rd s h2)) (aJ.has s e1 h3)
 | .tup ds,_,_,e,⟨a,xs,h1,h2,h3⟩=>by
  simp[iH]at e
  obtain⟨ps,e1,e2⟩:=e;subst e2;subst h1;exact .tup (.inl (.inl (s _ _ h2))) (aJ.has s e1 h3)
 | .obj _ _,_,_,e,h=>h.elim
 | .any,_,_,e,_=>by simp[iH]at e
 | .dct _ _,_,_,e,_=>by simp[iH]at e
 | .exc _ _,_,_,e,_=>by simp[iH]at e
theorem aJ.has {G H:Hp}(s:aI G H):∀ {ds:List D} {ps:List PyData} {vs:List V},oE ds=some ps->aJ X.K G ds vs->HasAll X.K H vs ps
 | [],_,_,e,h=>by simp[oE]at e;subst e;rw[show _=[] from h];exact .nil
 | d :: r,_,_,e,⟨x,xr,h1,h2,h3⟩=>by
  simp[oE,Option.bind_eq_some_iff]at e
  obtain⟨p,e1,q,e2,e3⟩:=e;subst e3;subst h1;exact .cons (Rep.has s e1 h2) (aJ.has s e2 h3)
end
theorem aM.has {H0 H H':Hp}{B:Addr->Prop}{v:V}{r:Res}{p:PyData}(g:aM X.K H0 H H' B v r)(e:iH r.d=some p):Has X.K H' v p:=by
 cases k:r.d with
 | lst ds =>
  obtain⟨a,xs,h1,h2,h3⟩:=g.list k;rw[k]at e;simp[iH]at e
  obtain⟨ps,e1,e2⟩:=e;subst e2;subst h1;exact .lst (.inl h2) (aJ.has dY e1 h3)
 | dct ks ds=>rw[k]at e;simp[iH]at e
 | _=>exact Rep.has dY e (g.shr_of (by rw[k];rfl))
theorem aDw {x y:D}{z:Xc}(h:lO x y=.exc z):False:=by
 unfold lO at h;split at h
 · split at h<;>cases h
 · cases h
theorem aDy {n:Bool->Bool}(σ:St)(H:Hp)(Q:VK)(h:tE X.K P (fun ρ=>f ρ >>= fun x=>g ρ >>= fun y=>lO x.d y.d >>= fun t=>.ok (sc (.bl (n t)))) σ H Q) :
 tOp (fun x y H Q=>∃ d e,Has X.K H x d/\Has X.K H y e/\SeqAt.shaped d=true/\SeqAt.shaped e=true/\Q (.bl (n (PyData.eqv d e))) H) (tE X.K P f) (tE X.K P g) σ H Q:=by
 refine t2 (q:=fun x y H2=>∃ d e,Has X.K H2 x d/\Has X.K H2 y e/\SeqAt.shaped d=true/\SeqAt.shaped e=true/\Q (.bl (n (PyData.eqv d e))) H2) h ?_
 intro H0 B ρ v w H' r r' d g1 g2 s h;cases e1:lO r.d r'.d with
 | stk=>simp[e1]at h
 | exc x=>exact(aDw e1).elim
 | ok t =>
  simp only[e1,R.ok_bind]at h;unfold lO at e1;split at e1
  · rename_i p q hp hq
    split at e1
    · rename_i hs
      rw[Br]at hs;cases e1;exact⟨p,q,g1.has hp,g2.has hq,hs.1,hs.2,h _ H' (aI.refl _) (aM.sc (show Rep _ _ (.bl _) _ from rfl))⟩
    · cases e1
  · cases e1
theorem aFd {d:D}{x:Xc}(h:aHm d=.exc x):False:=by
 cases d<;>cases h
theorem aM.isN {H0 H H':Hp}{B:Addr->Prop}{v:V}{r:Res}(g:aM X.K H0 H H' B v r){b:Bool}(hb:aHm r.d=.ok b):decide (v=.non)=b:=by
 suffices h:decide (v=.non)=aOy r.d by
  rw[h];cases k:r.d<;>rw[k]at hb<;>first | (cases hb;rfl) | cases hb
 cases k:r.d with
 | lst ds =>
  obtain⟨a,xs,h1,_⟩:=g.list k;rw[h1];rfl
 | dct ks ds =>
  obtain⟨a,xs,h1,_⟩:=g.dict k;rw[h1];rfl
 | any=>rw[k]at hb;cases hb
 | non=>have:=g.shr_of (by rw[k];rfl);rw[k]at this;rw[show v=.non from this];rfl
 | bl b=>have:=g.shr_of (by rw[k];rfl);rw[k]at this;rw[show v=.bl b from this];rfl
 | int b=>have:=g.shr_of (by rw[k];rfl);rw[k]at this;rw[show v=.int b from this];rfl
 | str b=>have:=g.shr_of (by rw[k];rfl);rw[k]at this;rw[show v=.str b from this];rfl
 | tup b=>have:=g.shr_of (by rw[k];rfl);rw[k]at this;obtain⟨a,_,h1,_⟩:=this;rw[h1];rfl
 | obj c b=>have:=g.shr_of (by rw[k];rfl);rw[k]at this;exact this.elim
 | exc c b=>have:=g.shr_of (by rw[k];rfl);rw[k]at this;obtain⟨_,a,h1,_⟩:=this;rw[h1];rfl
theorem aPh (σ:St)(H:Hp)(Q:VK)(h:tE X.K P (aNa f) σ H Q):aPx (tE X.K P f) σ H Q:=by
 refine t1 (q:=fun x H1=>Q (.bl (decide (x=.non))) H1) h ?_
 intro H0 B ρ v H' r d g1 s h;cases e1:aHm r.d with
 | stk=>simp[e1]at h
 | exc x=>exact(aFd e1).elim
 | ok b =>
  simp only[e1,R.ok_bind]at h;rw[g1.isN e1];exact h _ H' (aI.refl _) (aM.sc (show Rep _ _ (.bl _) _ from rfl))
theorem wD {σ:St}{H:Hp}{Q:Bool->Hp->Prop}(h:tT X.K P (bT f) σ H Q):tE X.K P f σ H fun x H1=>∃ k,x=.bl k/\Q k H1:=by
 obtain⟨H0,B,ρ,d,h⟩:=h;unfold bT at h;cases e:f ρ with
 | stk=>simp[e]at h
 | exc x=>simp[e]at h;exact cR d e h
 | ok r =>
  cases e1:asB r.d with
  | stk=>simp[e,e1]at h
  | exc x=>exact(aBw e1).elim
  | ok t =>
   simp[e,e1]at h
   exact eB d e fun v H' s d' g'=>⟨t,g'.bl (aF9 e1),h H' s⟩
theorem aO3 (hu:X.A.units+64<cLine)(ha:PE X a (tE X.K P f))(hb:PE X b (tE X.K P g)):PE X (.Compare a [.Eq] [b] pos) (tE X.K P (eqE f g)):=PE.imp (aI7 (aD0 hu) ha hb (kB _)) (aDy (n:=id))
theorem jZ {op:CmpOp}{r:R2}(ho:OpR X (compareOp op) r)(ha:PE X a (tE X.K P f))(hb:PE X b (tE X.K P g))(hm:behindInMarks op b=false){F:FE}(himp:∀ σ H Q,tE X.K P F σ H Q->tOp r (tE X.K P f) (tE X.K P g) σ H Q) :
 PT X (.Compare a [op] [b] pos) (tT X.K P (bT F)):=by
 refine PT.imp (aI2 ho ha hb hm) ?_
 intro σ H Q h;exact himp σ H _ (wD h)
theorem aA1 (ha:PE X a (tE X.K P f))(hb:PE X b (tE X.K P g)):PT X (.Compare a [.Lt] [b] pos) (tT X.K P (bT (ltE f g))):=jZ aNv ha hb (kB _) aA7
theorem aPe (ha:PE X a (tE X.K P f))(hb:PE X b (tE X.K P g)):PT X (.Compare a [.LtE] [b] pos) (tT X.K P (bT (leE f g))):=jZ aPn ha hb (kB _) aA7
theorem xK (ha:PE X a (tE X.K P f))(hb:PE X b (tE X.K P g)):PT X (.Compare a [.Gt] [b] pos) (tT X.K P (bT (gtE f g))):=jZ aO5 ha hb (kB _) aA7
theorem aPm (ha:PE X a (tE X.K P f))(hb:PE X b (tE X.K P g)):PT X (.Compare a [.GtE] [b] pos) (tT X.K P (bT (geE f g))):=jZ aOr ha hb (kB _) aA7
theorem wS (hu:X.A.units+64<cLine)(ha:PE X a (tE X.K P f))(hb:PE X b (tE X.K P g)):PT X (.Compare a [.Eq] [b] pos) (tT X.K P (bT (eqE f g))):=jZ (aD0 hu) ha hb (kB _) (aDy (n:=id))
theorem lE (hu:X.A.units+64<cLine)(ha:PE X a (tE X.K P f))(hb:PE X b (tE X.K P g)):PT X (.Compare a [.NotEq] [b] pos) (tT X.K P (bT (neE f g))):=jZ (aMz hu) ha hb (kB _) (aDy (n:=not))
theorem aMb {j p'}(ha:PE X a (tE X.K P f)):PT X (.Compare a [.Is] [.Constant .none j p'] pos) (tT X.K P (bT (aNa f))):=PT.imp (aM4 (aL7 ha)) fun σ H Q h=>aPh σ H _ (wD h)
theorem gV {e:Expr}(h:PE X e (tE X.K P f))(he:∀ whole,isTrue e X.env whole=(do let v ← whole;standAt e.pos;holding [v] (truthy v)):=by intro _;rfl):PT X e (tT X.K P (bT f)):=by
 refine PT.imp (aK7 h he) ?_
 intro σ H Q h;exact wD h
variable {t u:FT}{rest:List Expr}
theorem tT1 {k:Bool->R Bool}{σ:St}{H:Hp}{Q:Bool->Hp->Prop}{q:Bool->Hp->Prop}(h:tT X.K P (fun ρ=>t ρ >>= k) σ H Q)
 (hk:∀ c H',aI H H'->(match k c with
  | .ok b=>∀ H1,aI H' H1->Q b H1
  | .exc x=>P.p x σ H'
  | .stk=>False)->q c H'):tT X.K P t σ H q:=by
 obtain⟨H0,B,ρ,d,h⟩:=h;cases e:t ρ with
 | stk=>simp[e]at h
 | exc x=>simp[e]at h;exact⟨H0,B,ρ,d,by rw[e];exact h⟩
 | ok c =>
  simp[e]at h
  refine⟨H0,B,ρ,d,?_⟩
  rw[e];intro H' s;refine hk c H' s ?_
  cases e2:k c with
  | stk=>rw[e2]at h;exact h
  | exc x=>rw[e2]at h;exact P.mono h s
  | ok b=>rw[e2]at h;exact fun H1 s1=>h H1 (s.trans s1)
theorem kE (h:PT X a (tT X.K P t)):PT X (.UnaryOp .Not a pos) (tT X.K P (eF t)):=by
 refine PT.imp (aM2 h) ?_
 intro σ H Q h;exact tT1 (q:=fun c H1=>Q (!c) H1) h fun c H' s h=>h H' (aI.refl _)
theorem tT2 {σ:St}{H:Hp}{Q:Bool->Hp->Prop}{stop:Bool}{h2:Hp->Prop}
 (h:tT X.K P (fun ρ=>t ρ >>= fun b=>if b=stop then .ok stop else u ρ) σ H Q):tT X.K P t σ H fun c H1=>if c=stop then Q stop H1 else tT X.K P u σ H1 Q:=by
 obtain⟨H0,B,ρ,d,h⟩:=h;cases e:t ρ with
 | stk=>simp[e]at h
 | exc x=>simp[e]at h;exact⟨H0,B,ρ,d,by rw[e];exact h⟩
 | ok c =>
  simp only[e,R.ok_bind]at h;refine⟨H0,B,ρ,d,?_⟩
  rw[e];intro H' s;by_cases hc:c=stop
  · rw[if_pos hc]at h ⊢
    exact h H' s
  · rw[if_neg hc]at h ⊢
    refine⟨H0,B,ρ,d.mono s,?_⟩
    cases e2:u ρ with
    | stk=>rw[e2]at h;exact h
    | exc x=>rw[e2]at h;exact P.mono h s
    | ok b=>rw[e2]at h;exact fun H1 s1=>h H1 (s.trans s1)
theorem aHy:wM t u=fun ρ=>t ρ >>= fun b=>if b=false then .ok false else u ρ:=by
 funext ρ
 unfold wM;cases t ρ with
 | ok b=>cases b<;>rfl
 | _=>rfl
theorem aL8:orT t u=fun ρ=>t ρ >>= fun b=>if b=true then .ok true else u ρ:=by
 funext ρ
 unfold orT;cases t ρ with
 | ok b=>cases b<;>rfl
 | _=>rfl
theorem aJa (ha:PT X a (tT X.K P t)):PW X (.BoolOp .And [a] pos) (tT X.K P t):=aHe ha
theorem jT (ha:PT X a (tT X.K P t)):PW X (.BoolOp .Or [a] pos) (tT X.K P t):=aLk ha
theorem PW.imp {e:Expr}{t t':TT}(p:PW X e t)(h:∀ σ H Q,t' σ H Q->t σ H Q):PW X e t':=fun wh pins s σ H Q I q=>p wh pins s σ H Q I (h σ H Q q)
theorem aK8 (ha:PT X a (tT X.K P t))(hb:PW X (.BoolOp .And (b :: rest) pos) (tT X.K P u)):PW X (.BoolOp .And (a :: b :: rest) pos) (tT X.K P (wM t u)):=by
 refine PW.imp (aNq ha hb) ?_
 intro σ H Q h;rw[aHy]at h;have h':=tT2 (h2:=fun _=>True) h;obtain⟨H0,B,ρ,d,h⟩:=h';refine⟨H0,B,ρ,d,?_⟩
 cases e:t ρ with
 | stk=>rw[e]at h;exact h
 | exc x=>rw[e]at h;exact h
 | ok c =>
  rw[e]at h;intro H' s;have:=h H' s
  cases c with
  | true=>simpa using this
  | false=>simpa using this
theorem iT (ha:PT X a (tT X.K P t))(hb:PW X (.BoolOp .Or (b :: rest) pos) (tT X.K P u)):PW X (.BoolOp .Or (a :: b :: rest) pos) (tT X.K P (orT t u)):=by
 refine PW.imp (aN4 ha hb) ?_
 intro σ H Q h;rw[aL8]at h;exact tT2 (h2:=fun _=>True) h
end Mir
namespace Mir
open PySem L2
variable {X:Cx}{P:XP}{a b c e:Expr}{es:List Expr}{f g:FE}{fs:FEs}{pos:Pos}
def dP (K:PySem.W.Frag)(H0 H H':Hp)(B:Addr->Prop):List V->List Res->Prop
 | [],rs=>rs=[]
 | v :: vs,rs=>∃ r rr,rs=r :: rr/\aM K H0 H H' B v r/\dP K H0 H H' B vs rr
theorem aM.old {K:PySem.W.Frag}{H0 H H1 H2:Hp}{B:Addr->Prop}{v:V}{r:Res}(s:aI H H1)(g:aM K H0 H1 H2 B v r):aM K H0 H H2 B v r:=by
 unfold aM at g ⊢;cases k:r.k with
 | shr=>rw[k]at g;exact g
 | own=>rw[k]at g;exact g
 | tmp=>rw[k]at g;obtain⟨a,o,h1,h2,h3⟩:=g;exact⟨a,o,h1,s.none h2,h3⟩
 | old=>rw[k]at g;exact g
theorem dP.old {K:PySem.W.Frag}{H0 H H1 H2:Hp}{B:Addr->Prop}(s:aI H H1):∀ {vs:List V} {rs:List Res},dP K H0 H1 H2 B vs rs->dP K H0 H H2 B vs rs
 | [],_,h=>h
 | _ :: _,_,⟨r,rr,e,g,gs⟩=>⟨r,rr,e,g.old s,dP.old s gs⟩
theorem dP.len {K:PySem.W.Frag}{H0 H H1:Hp}{B:Addr->Prop}:∀ {vs:List V} {rs:List Res},dP K H0 H H1 B vs rs->vs.length=rs.length
 | [],rs,h=>by have e:rs=[]:=h;rw[e];rfl
 | _ :: _,_,⟨r,rr,e,g,gs⟩=>by rw[e];simp[dP.len gs]
def tAs (K:PySem.W.Frag)(P:XP)(fs:FEs):TA:=fun σ H Q=>∃ H0 B ρ,DenE K H0 H B σ ρ/\match evs fs ρ with
 | .ok rs=>∀ vs H',aI H H'->dP K H0 H H' B vs rs->Q vs H'
 | .exc x=>P.p x σ H
 | .stk=>False
theorem PA.imp {t t':TA}(p:PA X es t)(h:∀ σ H Q,t' σ H Q->t σ H Q):PA X es t':=fun pos pins s σ H Q I q=>p pos pins s σ H Q I (h σ H Q q)
theorem aH:PA X [] (tAs X.K P []):=PA.imp lR fun σ H Q ⟨H0,B,ρ,d,h⟩=>h [] H (aI.refl H) rfl
theorem aA (ha:PE X e (tE X.K P f))(hr:PA X es (tAs X.K P fs))(hs:starEach (e :: es) X.env=(false,eval e X.env) :: starEach es X.env:=by rfl):PA X (e :: es) (tAs X.K P (f :: fs)):=by
 refine PA.imp (fY ha hr hs) ?_
 rintro σ H Q ⟨H0,B,ρ,d,h⟩
 unfold evs at h;show tE X.K P f σ H fun x H1=>tAs X.K P fs σ H1 fun xs H2=>Q (x :: xs) H2
 cases e1:f ρ with
 | stk=>simp[e1]at h
 | exc x=>simp[e1]at h;exact cR d e1 h
 | ok r =>
  simp only[e1,R.ok_bind]at h;refine eB d e1 fun v H1 s1 d1 g1=>⟨H0,B,ρ,d1,?_⟩
  cases e2:evs fs ρ with
  | stk=>simp[e2]at h
  | exc x=>simp[e2]at h;exact P.mono h s1
  | ok rs =>
   simp only[e2,R.ok_bind]at h;exact fun vs H2 s2 gs=>h (v :: vs) H2 (s1.trans s2) ⟨r,rs,rfl,g1.mono s2,gs.old s1⟩
theorem tA1 {k:List Res->R Res}{σ:St}{H:Hp}{Q:VK}{q:List V->Hp->Prop}(h:tE X.K P (fun ρ=>evs fs ρ >>= k) σ H Q)
 (hk:∀ H0 B ρ vs H' rs,DenE X.K H0 H B σ ρ->DenE X.K H0 H' B σ ρ->dP X.K H0 H H' B vs rs->aI H H'->(match k rs with
  | .ok r1=>∀ v1 H1,aI H' H1->aM X.K H0 H H1 B v1 r1->Q v1 H1
  | .exc x=>P.p x σ H'
  | .stk=>False)->q vs H'):tAs X.K P fs σ H q:=by
 obtain⟨H0,B,ρ,d,h⟩:=h;refine⟨H0,B,ρ,d,?_⟩
 cases e:evs fs ρ with
 | stk=>simp[e]at h
 | exc x=>simp[e]at h;exact h
 | ok rs =>
  simp only[e,R.ok_bind]at h;intro vs H' s gs;refine hk H0 B ρ vs H' rs d (d.mono s) gs s ?_
  cases e2:k rs with
  | stk=>rw[e2]at h;exact h
  | exc x=>rw[e2]at h;exact P.mono h s
  | ok r1=>rw[e2]at h;exact fun v1 H1 s1 g1=>h v1 H1 (s.trans s1) g1
theorem dP.gives {K:PySem.W.Frag}{H0 H H':Hp}{B:Addr->Prop}{σ:St}{ρ:Env}(den:DenE K H0 H B σ ρ):∀ {vs:List V} {rs:List Res} {y:Bool×List D},dP K H0 H H' B vs rs->gives rs=.ok y->aJ K (aZ y.1 H0 H' B) y.2 vs
 | [],_,y,h,e=>by rw[show _=[] from h]at e;simp[Mir.gives]at e;subst e;rfl
 | v :: vs,_,y,⟨r,rr,e1,g,gs⟩,e=>by
  subst e1;simp only[Mir.gives]at e;cases e2:r.give with
  | stk=>simp[e2]at e
  | exc x=>simp[e2]at e
  | ok r' =>
   cases e3:Mir.gives rr with
   | stk=>simp[e2,e3]at e
   | exc x=>simp[e2,e3]at e
   | ok y' =>
    simp only[e2,e3,R.ok_bind]at e;cases e;obtain⟨q1,q2⟩:=g.give den e2;have q3:=dP.gives den gs e3;subst q1
    have w:∀ {fr fr':Bool} {d:D} {v:V},Rep K (aZ fr H0 H' B) d v->Rep K (aZ (fr&&fr') H0 H' B) d v:=fun {fr fr' d v} h=>by
     cases fr' with
     | true=>simpa using h
     | false=>simp;exact Rep.same iU h
    have w2:∀ {fr fr':Bool} {d:List D} {v:List V},aJ K (aZ fr' H0 H' B) d v->aJ K (aZ (fr&&fr') H0 H' B) d v:=fun {fr fr' d v} h=>by
     cases fr with
     | true=>simpa using h
     | false=>simp;exact aJ.same iU h
    exact⟨v,vs,rfl,w q2,w2 q3⟩
theorem kT {x:Xc}:∀ {rs:List Res},gives rs=.exc x->False
 | [],h=>by simp[gives]at h
 | r :: rs,h=>by
  simp only[gives]at h;cases e2:r.give with
  | stk=>simp[e2]at h
  | exc x=>unfold Res.give at e2;split at e2<;>cases e2
  | ok r' =>
   cases e3:gives rs with
   | stk=>simp[e2,e3]at h
   | exc x=>exact kT e3
   | ok y=>simp[e2,e3]at h
theorem gM {K:PySem.W.Frag}{H0 H H':Hp}{B:Addr->Prop}{σ:St}{ρ:Env}{p:Addr}{vs:List V}{ds:List D}{fr:Bool}(den:DenE K H0 H' B σ ρ)(s:aI H H')(hp:H' p=none)(r:aJ K (aZ fr H0 H' B) ds vs) :
 aM K H0 H (upd H' p (.lst vs)) B (.ref p) ⟨.tmp,fr,.lst ds⟩:=by
 refine⟨p,_,rfl,s.none hp,bC,.lst (aJ.same (aV (fun b o e _=>aI.upd_new hp b o e) fun b z=>?_) r)⟩
 rcases z with z | z
 · exact .inl z
 · exact .inr (by rw[z];exact hp)
theorem oQ {K:PySem.W.Frag}{H0 H':Hp}{B:Addr->Prop}{σ:St}{ρ:Env}{p:Addr}{vs:List V}{ds:List D}{fr:Bool}(den:DenE K H0 H' B σ ρ)(hp:H' p=none)(r:aJ K (aZ fr H0 H' B) ds vs) :
 Rep K (aZ fr H0 (upd H' p (.tup vs)) B) (.tup ds) (.ref p):=by
 refine⟨p,vs,rfl,aS.mpr ⟨fun z=>?_,bC⟩,aJ.same (aV (fun b o e _=>aI.upd_new hp b o e) fun b z=>.inl z) r⟩
 rcases z with z | ⟨_,o,z,_⟩
 · obtain⟨o,q,_⟩:=den.bnd p z;rw[hp]at q;cases q
 · rw[den.sam _ _ z]at hp;cases hp
theorem dR (h:PA X es (tAs X.K P fs)):PE X (.List es pos) (tE X.K P (bZ fs)):=by
 refine PE.imp (aMq h) ?_
 intro σ H Q h;refine tA1 h ?_
 intro H0 B ρ vs H' rs d0 d gs s h;cases e:gives rs with
 | stk=>simp[e]at h
 | exc x=>exact(kT e).elim
 | ok y =>
  simp only[e,R.ok_bind]at h;have r:=gs.gives d0 e;by_cases hz:y.2.length<=sizeLine
  · rw[if_pos hz]at h
    exact⟨by rw[←r.length];exact hz,fun p hp=>h _ _ (aI.upd_new hp) (gM d s hp r)⟩
  · rw[if_neg hz]at h;exact h.elim
theorem jM {x1}(h:PA X es (tAs X.K P fs)):PE X (.Tuple es x1 pos) (tE X.K P (dO fs)):=by
 refine PE.imp (aLp h) ?_
 intro σ H Q h;refine tA1 h ?_
 intro H0 B ρ vs H' rs d0 d gs s h;cases e:gives rs with
 | stk=>simp[e]at h
 | exc x=>exact(kT e).elim
 | ok y =>
  simp only[e,R.ok_bind]at h;have r:=gs.gives d0 e;by_cases hz:y.2.length<=sizeLine
  · rw[if_pos hz]at h
    exact⟨by rw[←r.length];exact hz,fun p hp=>h _ _ (aI.upd_new hp) (oQ d hp r)⟩
  · rw[if_neg hz]at h;exact h.elim
theorem aM.seq {K:PySem.W.Frag}{H0 H H':Hp}{B:Addr->Prop}{v:V}{r:Res}{ds:List D}(g:aM K H0 H H' B v r)(e:asS r.d=.ok ds):∃ a xs,v=.ref a/\(Rd H' a (.lst xs)\/H' a=some (.tup xs))/\aJ K (aZ r.fr H0 H' B) ds xs:=by
 rcases zL e with e | e
 · obtain⟨a,xs,h1,h2,h3⟩:=g.list e
   exact⟨a,xs,h1,.inl h2,h3⟩
 · obtain⟨a,xs,h1,h2,h3⟩:=g.tuple e
   exact⟨a,xs,h1,.inr h2,h3⟩
theorem oD {k:Res->R Res}{rule:List V->Hp->VK->Prop}{σ:St}{H:Hp}{Q:VK}(h:tE X.K P (fun ρ=>f ρ >>= k) σ H Q)
 (hk:∀ H0 B ρ v H' r,DenE X.K H0 H B σ ρ->DenE X.K H0 H' B σ ρ->aM X.K H0 H H' B v r->aI H H'->(match k r with
  | .ok r1=>∀ v1 H1,aI H' H1->aM X.K H0 H H1 B v1 r1->Q v1 H1
  | .exc x=>P.p x σ H'
  | .stk=>False)->rule [v] H' Q):tCB rule (tAs X.K P [f]) σ H Q:=by
 show tAs X.K P [f] σ H fun vs H1=>rule vs H1 Q
 have e:(fun ρ=>evs [f] ρ >>= fun rs=>match rs with | [r]=>k r | _=>.stk)=fun ρ=>f ρ >>= k:=by
  funext ρ
  unfold evs;cases f ρ with
  | ok r=>rfl
  | _=>rfl
 rw[←e]at h;refine tA1 h ?_
 intro H0 B ρ vs H' rs d0 d gs s h;match vs,rs,gs with
 | [],rs,gs=>have e:rs=[]:=gs;subst e;exact h.elim
 | [v],_,⟨r,rr,e1,g1,g2⟩ =>
  subst e1;rw[show rr=[] from g2]at h
  exact hk H0 B ρ v H' r d0 d g1 s h
 | v :: w :: _,_,⟨r,rr,e1,g1,r2,rr2,e2,g2⟩ =>
  subst e1;subst e2;exact h.elim
variable {x:Str}{p:Pos}
theorem jK (hg:Gl X "len")(hm:X.mg "len" = none)(ha:PE X a (tE X.K P f))(he:starEach [a] X.env=[(false,eval a X.env)]:=by rfl):PE X (.Call (.Name "len" p) [a] [] pos) (tE X.K P (bY f)):=by
 refine PE.imp (fP wF hg hm PySem.boot_len (aA ha aH he) (he:=he)) ?_
 intro σ H Q h;refine oD h ?_
 intro H0 B ρ v H' r d0 d g s h;cases e:asS r.d with
 | stk=>simp[e]at h
 | exc x=>exact(jD e).elim
 | ok ds =>
  simp only[e,R.ok_bind]at h;obtain⟨a,xs,h1,h2,h3⟩:=g.seq e;exact⟨a,xs,by rw[h1],h2.imp .inl fun z=>.inl (.inl z),h _ H' (aI.refl _) (by rw[h3.length];exact aM.sc (show Rep _ _ (.int _) _ from rfl))⟩
theorem aB0 (hg:Gl X "list")(hm:X.mg "list" = none)(ha:PE X a (tE X.K P f))(he:starEach [a] X.env=[(false,eval a X.env)]:=by rfl):PE X (.Call (.Name "list" p) [a] [] pos) (tE X.K P (jH f)):=by
 refine PE.imp (kU uX hg hm (by decide +kernel) (aA ha aH he) (he:=he)) ?_
 intro σ H Q h;refine oD h ?_
 intro H0 B ρ v H' r d0 d g s h;cases e:asS r.d with
 | stk=>simp[e]at h
 | exc x=>exact(jD e).elim
 | ok ds =>
  simp only[e,R.ok_bind]at h;obtain⟨a,xs,h1,h2,h3⟩:=g.seq e;exact⟨a,xs,by rw[h1],h2.imp .inl fun z=>.inl (.inl z),fun l hl=>h _ _ (aI.upd_new hl) (gM d s hl h3)⟩
theorem aBj (hg:Gl X "tuple")(hm:X.mg "tuple" = none)(ha:PE X a (tE X.K P f))(he:starEach [a] X.env=[(false,eval a X.env)]:=by rfl):PE X (.Call (.Name "tuple" p) [a] [] pos) (tE X.K P (lV f)):=by
 refine PE.imp (kU rN hg hm (by decide +kernel) (aA ha aH he) (he:=he)) ?_
 intro σ H Q h;refine oD h ?_
 intro H0 B ρ v H' r d0 d g s h;cases e:asS r.d with
 | stk=>simp[e]at h
 | exc x=>exact(jD e).elim
 | ok ds =>
  simp only[e,R.ok_bind]at h;rcases zL e with e' | e'
  · obtain⟨a,xs,h1,h2,h3⟩:=g.list e'
    exact⟨a,xs,by rw[h1],.inl ⟨.inl h2,fun l hl=>h _ _ (aI.upd_new hl) (oQ d hl h3)⟩⟩
  · obtain⟨a,xs,h1,h2,h3⟩:=g.tuple e'
    have:=g.shr_of (by rw[e'];rfl)
    rw[e',h1]at this;exact⟨a,xs,by rw[h1],.inr ⟨.inl (.inl h2),h _ H' (aI.refl _) this⟩⟩
theorem aBe {K:PySem.W.Frag}{G:Hp}{ds:List D}{xs:List V}{j:Int}{d:D}(r:aJ K G ds xs)(e:atI ds j=some d):∃ v,atI xs j=some v/\Rep K G d v:=by
 unfold atI at e ⊢;rw[←r.length];cases q:ixN ds.length j with
 | none=>rw[q]at e;cases e
 | some n=>rw[q]at e;exact r.get e
theorem aOo {σ:St}{H:Hp}{Q:VK}(h:tE X.K P (aX f g) σ H Q):tOp (fun x y H Q=>aHt X.K x y H Q\/aJp X.K x y H Q) (tE X.K P f) (tE X.K P g) σ H Q:=by
 refine t2 (q:=fun x y H2=>aHt X.K x y H2 Q\/aJp X.K x y H2 Q) h ?_
 intro H0 B ρ v w H' r r' d g1 g2 s h;cases e1:asS r.d with
 | stk=>simp[e1]at h
 | exc x=>exact(jD e1).elim
 | ok ds =>
  cases e2:asI r'.d with
  | stk=>simp[e1,e2]at h
  | exc x=>exact(cZ e2).elim
  | ok j =>
   simp only[e1,e2,R.ok_bind]at h;cases e3:atI ds j with
   | none=>rw[e3]at h;exact h.elim
   | some dd =>
    rw[e3]at h;rcases zL e1 with e | e
    · obtain⟨a,xs,h1,h2,h3⟩:=g1.list e
      obtain⟨z,z1,z2⟩:=aBe h3 e3;exact .inl ⟨a,xs,j,z,h1,g2.int (dJ e2),.inl h2,z1,h z H' (aI.refl _) (Rep.fr d.sam z2)⟩
    · obtain⟨a,xs,h1,h2,h3⟩:=g1.tuple e
      obtain⟨z,z1,z2⟩:=aBe h3 e3;exact .inr ⟨a,xs,j,z,h1,g2.int (dJ e2),.inl (.inl h2),z1,h z H' (aI.refl _) (Rep.fr d.sam z2)⟩
theorem aMn:IxR X (fun x y H Q=>aHt X.K x y H Q\/aJp X.K x y H Q):=by
 intro value slice pins s σ H x y v u Q I rx ry h hs;rcases h with h | h
 · exact aIz value slice pins s σ H x y v u Q I rx ry h hs
 · exact aNm value slice pins s σ H x y v u Q I rx ry h hs
theorem dN (ha:PE X a (tE X.K P f))(hb:PE X b (tE X.K P g))(hs:aA5 b:=by exact fun _ _=>rfl):PE X (.Subscript a b pos) (tE X.K P (aX f g)):=PE.imp (aP3 aMn ha hb hs) fun σ H Q h=>aOo h
theorem Inv.rdL {pins:List (Addr×Obj)}{σ:St}{H:Hp}{s:Shared}{l:Addr}{xs:List V}(I:Inv X pins σ H s)(h:Rd H l (.lst xs)):xs.length<=sizeLine/\∃ (its:List Value) (n:Nat),bH xs its/\s.heap.get? l=some { cls:=.type "list",data:=.seq its.toArray n }:=h.ok I.hok
def aKg:R2:=fun x y H Q=>∃ l b xs zs,x=.ref l/\y=.ref b/\Rd H l (.lst xs)/\Rd H b (.lst zs)/\xs.length+zs.length<=sizeLine/\∀ p,H p=none->Q (.ref p) (upd H p (.lst (xs++zs)))
theorem aIs:OpR X (binaryOp .Add) aKg:=by
 intro pins s σ H x y v u Q I rx ry h;obtain⟨l,b,xs,zs,rfl,rfl,hH,hB,hz,q⟩:=h;cases rx;cases ry;obtain⟨z,its,n,r,e⟩:=Inv.rdL I hH;obtain⟨z2,its2,n2,r2,e2⟩:=Inv.rdL I hB;have hl:=r.length;have hl2:=r2.length;refine PySem.P.add_list e e2 ?_ (by rw[Ag,Ag];omega)
 have ea:its.toArray++its2.toArray=(its++its2).toArray:=by simp
 rw[ea];exact⟨.ref _,_,I.lnew (t':=s.toks) (r.append r2) (by rw[An];omega),rfl,q _ I.fresh⟩
theorem aJ.andL {K:PySem.W.Frag}{H0 H:Hp}{B:Addr->Prop}{fr fr':Bool}{ds:List D}{vs:List V}(h:aJ K (aZ fr H0 H B) ds vs):aJ K (aZ (fr&&fr') H0 H B) ds vs:=by
 cases fr' with
 | true=>simpa using h
 | false=>simp;exact aJ.same iU h
theorem aJ.andR {K:PySem.W.Frag}{H0 H:Hp}{B:Addr->Prop}{fr fr':Bool}{ds:List D}{vs:List V}(h:aJ K (aZ fr' H0 H B) ds vs):aJ K (aZ (fr&&fr') H0 H B) ds vs:=by
 cases fr with
 | true=>simpa using h
 | false=>simp;exact aJ.same iU h
theorem sU (ha:PE X a (tE X.K P f))(hb:PE X b (tE X.K P g)):PE X (.BinOp a .Add b pos) (tE X.K P (oJ f g)):=by
 refine PE.imp (aGv aIs ha hb) ?_
 intro σ H Q h;refine t2 (q:=fun x y H2=>aKg x y H2 Q) h ?_
 intro H0 B ρ v w H' r r' d g1 g2 s h;cases e1:asL r.d with
 | stk=>simp[e1]at h
 | exc x=>exact(iF e1).elim
 | ok xs =>
  cases e2:asL r'.d with
  | stk=>simp[e1,e2]at h
  | exc x=>exact(iF e2).elim
  | ok ys =>
   simp only[e1,e2,R.ok_bind]at h;obtain⟨a1,xs1,h1,h2,h3⟩:=g1.list (gK e1);obtain⟨a2,xs2,k1,k2,k3⟩:=g2.list (gK e2);by_cases hz:xs.length+ys.length<=sizeLine
   · rw[if_pos hz]at h
     exact⟨a1,a2,xs1,xs2,h1,k1,h2,k2,by rw[←h3.length,←k3.length];exact hz,fun p hp=>h _ _ (aI.upd_new hp) (gM d s hp (h3.andL.append k3.andR))⟩
   · rw[if_neg hz]at h;exact h.elim
def tO (K:PySem.W.Frag)(P:XP)(f:FO):TO:=fun σ H Q=>∃ H0 B ρ,DenE K H0 H B σ ρ/\match f ρ with
 | .ok o=>∀ H',aI H H'->Q o H'
 | .exc x=>P.p x σ H
 | .stk=>False
theorem PO.imp {e:Option Expr}{t t':TO}(p:PO X e t)(h:∀ σ H Q,t' σ H Q->t σ H Q):PO X e t':=fun pins s σ H Q I q=>p pins s σ H Q I (h σ H Q q)
theorem aKe:PO X none (tO X.K P noO):=PO.imp aIg fun σ H Q ⟨H0,B,ρ,d,h⟩=>h H (aI.refl H)
theorem aJ2 (ha:PE X a (tE X.K P f)):PO X (some a) (tO X.K P (soO f)):=by
 refine PO.imp (aG0 ha) ?_
 rintro σ H Q ⟨H0,B,ρ,d,h⟩
 unfold soO at h;show tE X.K P f σ H fun x H1=>∃ i,x=.int i/\Q (some i) H1
 cases e:f ρ with
 | stk=>simp[e]at h
 | exc x=>simp[e]at h;exact cR d e h
 | ok r =>
  cases e1:asI r.d with
  | stk=>simp[e,e1]at h
  | exc x=>exact(cZ e1).elim
  | ok i =>
   simp only[e,e1,R.ok_bind]at h;exact eB d e fun v H' s d' g'=>⟨i,g'.int (dJ e1),h H' s⟩
theorem aN2 {lo hi:Option Expr}{fl fh:FO}{p2:Pos}(ha:PE X a (tE X.K P f))(hl:PO X lo (tO X.K P fl))(hh:PO X hi (tO X.K P fh)):PE X (.Subscript a (.Slice lo hi none p2) pos) (tE X.K P (uM f fl fh)):=by
 refine PE.imp (wW aIr ha hl hh) ?_
 rintro σ H Q ⟨H0,B,ρ,d,h⟩
 unfold uM at h;show tE X.K P f σ H fun x H1=>tO X.K P fl σ H1 fun l H2=>tO X.K P fh σ H2 fun u H3=>aNx X.K x l u H3 Q
 cases e:f ρ with
 | stk=>simp[e]at h
 | exc x=>simp[e]at h;exact cR d e h
 | ok r =>
  simp only[e,R.ok_bind]at h;refine eB d e fun v H1 s1 d1 g1=>⟨H0,B,ρ,d1,?_⟩
  cases e1:fl ρ with
  | stk=>simp[e1]at h
  | exc x=>simp[e1]at h;exact P.mono h s1
  | ok l =>
   simp only[e1,R.ok_bind]at h;intro H2 s2;refine⟨H0,B,ρ,d1.mono s2,?_⟩
   cases e2:fh ρ with
   | stk=>simp[e2]at h
   | exc x=>simp[e2]at h;exact P.mono h (s1.trans s2)
   | ok u =>
    simp only[e2,R.ok_bind]at h;intro H3 s3;cases e3:asL r.d with
    | stk=>simp[e3]at h
    | exc x=>exact(iF e3).elim
    | ok ds =>
     simp only[e3,R.ok_bind]at h;obtain⟨a1,xs,h1,h2,h3⟩:=(g1.mono (s2.trans s3)).list (gK e3);have s:=(s1.trans s2).trans s3;refine⟨a1,xs,h1,.inl h2,fun p hp=>h _ _ (s.trans (aI.upd_new hp)) ?_⟩
     have q:aJ X.K (aZ r.fr H0 H3 B) (nI ds l u) (rQ xs l u):=by
      unfold nI rQ;rw[←h3.length];exact(h3.drop _).take _
     exact gM (d.mono s) s hp q
theorem aOx {rest:List Expr}(ha:PE X a (tE X.K P f))(hb:PE X (.BoolOp .And (b :: rest) pos) (tE X.K P g)):PE X (.BoolOp .And (a :: b :: rest) pos) (tE X.K P (xJ f g)):=by
 refine PE.imp (aK4 ha hb) ?_
 rintro σ H Q ⟨H0,B,ρ,d,h⟩
 unfold xJ at h;show tE X.K P f σ H fun x H1=>∃ c,x=.bl c/\if c=true then tE X.K P g σ H1 Q else Q (.bl false) H1
 cases e:f ρ with
 | stk=>simp[e]at h
 | exc x=>simp[e]at h;exact cR d e h
 | ok r =>
  cases e1:asB r.d with
  | stk=>simp[e,e1]at h
  | exc x=>exact(aBw e1).elim
  | ok t =>
   simp only[e,e1,R.ok_bind]at h;refine eB d e fun v H1 s1 d1 g1=>⟨t,g1.bl (aF9 e1),?_⟩
   cases t with
   | false=>exact aKx (h _ H1 s1 (aM.sc (show Rep _ _ (.bl false) _ from rfl)))
   | true =>
    refine aMw ⟨H0,B,ρ,d1,?_⟩
    rw[if_pos rfl]at h;cases e2:g ρ with
    | stk=>rw[e2]at h;exact h
    | exc x=>rw[e2]at h;exact P.mono h s1
    | ok r2=>rw[e2]at h;exact fun v2 H2 s2 g2=>h v2 H2 (s1.trans s2) (g2.old s1)
theorem aO6 {op}(h:PE X a (tE X.K P f)):PE X (.BoolOp op [a] pos) (tE X.K P f):=aLy h
end Mir
namespace Mir
open PySem L2
variable {X:Cx}{P:XP}{a b c e:Expr}{es:List Expr}{f g:FE}{fs:FEs}{pos:Pos}
def sI (K:PySem.W.Frag)(H0 H':Hp)(B:Addr->Prop)(J:It)(w:Its):Prop:=∃ A:Addr->Prop,(w.st=true->∀ a,A a->¬ B a) /\
 ∀ (H2:Hp) (B2:Addr->Prop),(∀ a o,A a->H' a=some o->H2 a=some o)->(∀ b o,H' b=some o->¬ B b->H2 b=some o)->(∀ b,B2 b->B b\/H' b=none)->(∀ b,B2 b->∃ o,H2 b=some o)->aI H0 H2->∀ i,
  (w.ds.length<=i->J.stop i H2)/\∀ d,w.ds[i]?=some d->J.go i H2/\∀ x H3,J.yld i H2 x H3->aI H2 H3/\Rep K (aZ w.fr H0 H3 B2) d x
def tI (K:PySem.W.Frag)(P:XP)(f:FI):TI:=fun σ H Rq=>∃ H0 B ρ,DenE K H0 H B σ ρ/\match f ρ with
 | .ok w=>∀ J H',aI H H'->sI K H0 H' B J w->Rq J H'
 | .exc x=>P.p x σ H
 | .stk=>False
theorem PI.imp {tg:Expr}{t t':TI}(p:PI X tg e t)(h:∀ σ H Rq,t' σ H Rq->t σ H Rq):PI X tg e t':=fun pins s σ H Rq I q=>p pins s σ H Rq I (h σ H Rq q)
theorem aM.notB {K:PySem.W.Frag}{H0 H H':Hp}{B:Addr->Prop}{v:V}{r:Res}{σ:St}{ρ:Env}{ds:List D}{a:Addr}(den:DenE K H0 H B σ ρ)(g:aM K H0 H H' B v r)(e:r.d=.lst ds)(hv:v=.ref a)(hk:(r.k != .own)=true):¬ B a:=by
 unfold aM at g;cases k:r.k with
 | shr =>
  rw[k,e,hv]at g;obtain⟨a',xs,h1,h2,h3⟩:=g;cases h1;rcases h2 with h | ⟨o,h⟩
  · exact fun z=>(aS.mp h).1 (.inl z)
  · exact fun z=>(aS.mp h).1 (.inl z)
 | own=>rw[k]at hk;cases hk
 | old=>rw[k]at g;exact g.elim
 | tmp =>
  rw[k,hv]at g;obtain⟨a',o',h1,h2,_⟩:=g;cases h1;intro z;obtain⟨o,q,_⟩:=den.bnd a z;rw[h2]at q;cases q
theorem wE {H H2:Hp}{a:Addr}{u:HO}(h:Rd H a u)(k:∀ o,H a=some o->H2 a=some o):Rd H2 a u:=by
 rcases h with h | ⟨o,h⟩
 · exact .inl (k _ h)
 · exact .inr ⟨o,k _ h⟩
theorem aDb {K:PySem.W.Frag}{H0 H':Hp}{B:Addr->Prop}{a:Addr}{xs:List V}{ds:List D}{st fr:Bool}(hs:st=true->¬ B a)(h2:Rd H' a (.lst xs))(h3:aJ K (aZ fr H0 H' B) ds xs):sI K H0 H' B (Itl K a) ⟨st,fr,ds⟩:=by
 refine⟨fun b=>b=a,fun h b z=>by rw[z];exact hs h,fun H2 B2 k1 k2 k3 k4 k5 i=>?_⟩
 have q:SqL K H2 a xs:=.inl (wE h2 fun o=>k1 a o rfl);refine⟨fun hi=>⟨xs,q,by rw[←h3.length];exact hi⟩,fun d hd=>?_⟩
 obtain⟨v,hv,rv⟩:=h3.get hd;refine⟨⟨xs,v,q,hv⟩,fun x H3 y=>?_⟩
 obtain⟨e,y⟩:=y;subst e;have:=y xs q
 rw[hv]at this;cases this;exact⟨aI.refl _,Rep.same (aV k2 k3) rv⟩
theorem aE6 {K:PySem.W.Frag}{H0 H':Hp}{B:Addr->Prop}{a:Addr}{xs:List V}{ds:List D}{fr:Bool}(hs:¬ B a)(h2:H' a=some (.tup xs))(h3:aJ K (aZ fr H0 H' B) ds xs):sI K H0 H' B (Itt K a) ⟨true,fr,ds⟩:=by
 refine⟨fun b=>b=a,fun h b z=>by rw[z];exact hs,fun H2 B2 k1 k2 k3 k4 k5 i=>?_⟩
 have q:SqT K H2 a xs:=.inl (.inl (k1 a _ rfl h2));refine⟨fun hi=>⟨xs,q,by rw[←h3.length];exact hi⟩,fun d hd=>?_⟩
 obtain⟨v,hv,rv⟩:=h3.get hd;refine⟨⟨xs,v,q,hv⟩,fun x H3 y=>?_⟩
 obtain⟨e,y⟩:=y;subst e;have:=y xs q
 rw[hv]at this;cases this;exact⟨aI.refl _,Rep.same (aV k2 k3) rv⟩
theorem wY {K:PySem.W.Frag}{H0 H':Hp}{B:Addr->Prop}{lo:Int}{n:Nat}:sI K H0 H' B (Itr lo n) ⟨true,true,mT lo n⟩:=by
 refine⟨fun _=>False,fun _ _ z=>z.elim,fun H2 B2 _ _ _ _ _ i=>⟨fun hi=>?_,fun d hd=>?_⟩⟩
 · show n<=i
   simpa[mT] using hi
 · unfold mT at hd
   rw[As]at hd;cases q:(Bd n)[i]? with
   | none=>rw[q]at hd;cases hd
   | some k =>
    rw[q]at hd;cases hd;obtain⟨q1,q2⟩:=Aj.mp q;have hi:i<n:=by simpa using q1
    have:k=i:=by rw[←q2];simp
    subst this;refine⟨hi,fun x H3 y=>?_⟩
    obtain⟨e1,e2⟩:=y;subst e1;exact⟨aI.refl _,e2⟩
theorem fU {tg:Expr}(ha:PE X a (tE X.K P f)):PI X tg a (tI X.K P (dC f)):=by
 refine PI.imp (aHx ha) ?_
 rintro σ H Rq ⟨H0,B,ρ,d,h⟩
 unfold dC at h;show tE X.K P f σ H fun x H1=>∃ a,x=.ref a/\(∃ xs,SqL X.K H1 a xs)/\Rq (Itl X.K a) H1
 cases e:f ρ with
 | stk=>simp[e]at h
 | exc x=>simp[e]at h;exact cR d e h
 | ok r =>
  cases e1:asL r.d with
  | stk=>simp[e,e1]at h
  | exc x=>exact(iF e1).elim
  | ok ds =>
   simp only[e,e1,R.ok_bind]at h;refine eB d e fun v H' s d' g'=>?_
   obtain⟨a,xs,h1,h2,h3⟩:=g'.list (gK e1);exact⟨a,h1,⟨xs,.inl h2⟩,h _ H' s (aDb (fun hk=>g'.notB d (gK e1) h1 hk) h2 h3)⟩
theorem aEu {tg:Expr}(ha:PE X a (tE X.K P f)):PI X tg a (tI X.K P (lU f)):=by
 refine PI.imp (aKu ha) ?_
 rintro σ H Rq ⟨H0,B,ρ,d,h⟩
 unfold lU at h;show tE X.K P f σ H fun x H1=>∃ a,x=.ref a/\(∃ xs,SqT X.K H1 a xs)/\Rq (Itt X.K a) H1
 cases e:f ρ with
 | stk=>simp[e]at h
 | exc x=>simp[e]at h;exact cR d e h
 | ok r =>
  simp only[e,R.ok_bind]at h;cases e1:r.d with
  | tup ds =>
   simp only[e1]at h;refine eB d e fun v H' s d' g'=>?_
   obtain⟨a,xs,h1,h2,h3⟩:=g'.tuple e1
   have nB:¬ B a:=by
    have:=g'.shr_of (by rw[e1];rfl)
    rw[e1,h1]at this;obtain⟨a',xs',q1,q2,_⟩:=this;cases q1;exact fun z=>(aS.mp q2).1 (.inl z)
   exact⟨a,h1,⟨xs,.inl (.inl h2)⟩,h _ H' s (aE6 nB h2 h3)⟩
  | _=>simp[e1]at h
variable {p:Pos}
theorem aNg {k:List Res->R Its}{σ:St}{H:Hp}{Rq:It->Hp->Prop}{q:List V->Hp->Prop}(h:tI X.K P (fun ρ=>evs fs ρ >>= k) σ H Rq)
 (hk:∀ H0 B ρ vs H' rs,DenE X.K H0 H B σ ρ->DenE X.K H0 H' B σ ρ->dP X.K H0 H H' B vs rs->aI H H'->(match k rs with
  | .ok w=>∀ J H1,aI H' H1->sI X.K H0 H1 B J w->Rq J H1
  | .exc x=>P.p x σ H'
  | .stk=>False)->q vs H'):tAs X.K P fs σ H q:=by
 obtain⟨H0,B,ρ,d,h⟩:=h;refine⟨H0,B,ρ,d,?_⟩
 cases e:evs fs ρ with
 | stk=>simp[e]at h
 | exc x=>simp[e]at h;exact h
 | ok rs =>
  simp only[e,R.ok_bind]at h;intro vs H' s gs;refine hk H0 B ρ vs H' rs d (d.mono s) gs s ?_
  cases e2:k rs with
  | stk=>rw[e2]at h;exact h
  | exc x=>rw[e2]at h;exact P.mono h s
  | ok r1=>rw[e2]at h;exact fun v1 H1 s1 g1=>h v1 H1 (s.trans s1) g1
theorem jC {tg:Expr}(hg:Gl X "range")(hm:X.mg "range" = none)(ha:PE X a (tE X.K P f))(hs:starEach [a] X.env=[(false,eval a X.env)]:=by rfl):PI X tg (.Call (.Name "range" p) [a] [] pos) (tI X.K P (eJ f)):=by
 refine PI.imp (aB2 hg hm (aA ha aH hs) hs) ?_
 intro σ H Rq h;show tAs X.K P [f] σ H fun vs H1=>∃ j:Int,vs=[.int j]/\-(2^62)<=j/\j<2^62/\Rq (Itr 0 j.toNat) H1
 have e:eJ f=fun ρ=>evs [f] ρ >>= fun rs=>match rs with | [x]=>(asI x.d >>= fun j=>if -(2^62)<=j/\j<2^62 then .ok ⟨true,true,mT 0 j.toNat⟩ else .stk) | _=>.stk:=by
  funext ρ
  unfold eJ evs;cases f ρ with
  | ok r=>rfl
  | _=>rfl
 rw[e]at h;refine aNg h ?_
 intro H0 B ρ vs H' rs d0 d gs s h;match vs,rs,gs with
 | [],rs,gs=>have e:rs=[]:=gs;subst e;exact h.elim
 | [v],_,⟨r,rr,e1,g1,g2⟩ =>
  subst e1;rw[show rr=[] from g2]at h
  cases e2:asI r.d with
  | stk=>simp[e2]at h
  | exc x=>exact(cZ e2).elim
  | ok j =>
   simp only[e2,R.ok_bind]at h;by_cases hj:-(2^62)<=j/\j<2^62
   · rw[if_pos hj]at h
     exact⟨j,by rw[g1.int (dJ e2)],hj.1,hj.2,h _ H' (aI.refl _) wY⟩
   · rw[if_neg hj]at h;exact h.elim
 | v :: w :: _,_,⟨r,rr,e1,g1,r2,rr2,e2,g2⟩ =>
  subst e1;subst e2;exact h.elim
theorem two {k:Res->Res->R Its}{F:FI}(hF:F=fun ρ=>f ρ >>= fun x=>g ρ >>= fun y=>k x y){σ:St}{H:Hp}{Rq:It->Hp->Prop}{q:List V->Hp->Prop}(h:tI X.K P F σ H Rq)
 (hk:∀ H0 B ρ v w H' r r',DenE X.K H0 H B σ ρ->DenE X.K H0 H' B σ ρ->aM X.K H0 H H' B v r->aM X.K H0 H H' B w r'->aI H H'->(match k r r' with
  | .ok w=>∀ J H1,aI H' H1->sI X.K H0 H1 B J w->Rq J H1
  | .exc x=>P.p x σ H'
  | .stk=>False)->q [v,w] H'):tAs X.K P [f,g] σ H q:=by
 have e:F=fun ρ=>evs [f,g] ρ >>= fun rs=>match rs with | [x,y]=>k x y | _=>.stk:=by
  rw[hF];funext ρ
  unfold evs evs;cases f ρ with
  | ok r =>
   show (g ρ >>= fun y=>k r y)=_
   cases g ρ with
   | ok r'=>rfl
   | _=>rfl
  | _=>rfl
 rw[e]at h;refine aNg h ?_
 intro H0 B ρ vs H' rs d0 d gs s h;match vs,rs,gs with
 | [],rs,gs=>have e:rs=[]:=gs;subst e;exact h.elim
 | [v],_,⟨r,rr,e1,g1,g2⟩ =>
  subst e1;rw[show rr=[] from g2]at h
  exact h.elim
 | [v,w],_,⟨r,rr,e1,g1,r2,rr2,e2,g2,g3⟩ =>
  subst e1;subst e2;rw[show rr2=[] from g3]at h
  exact hk H0 B ρ v w H' r r2 d0 d g1 g2 s h
 | _ :: _ :: _ :: _,_,⟨r,rr,e1,g1,r2,rr2,e2,g2,r3,rr3,e3,_⟩ =>
  subst e1;subst e2;subst e3;exact h.elim
theorem aI6 {tg:Expr}(hg:Gl X "range")(hm:X.mg "range" = none)(ha:PE X a (tE X.K P f))(hb:PE X b (tE X.K P g))(hs:starEach [a,b] X.env=[(false,eval a X.env),(false,eval b X.env)]:=by rfl)(hs2:starEach [b] X.env=[(false,eval b X.env)]:=by rfl) :
 PI X tg (.Call (.Name "range" p) [a,b] [] pos) (tI X.K P (qO f g)):=by
 refine PI.imp (aCg hg hm (aA ha (aA hb aH hs2) (by rw[hs,hs2])) hs hs2) ?_
 intro σ H Rq h;refine two rfl h ?_
 intro H0 B ρ v w H' r r' d0 d g1 g2 s h;cases e1:asI r.d with
 | stk=>simp[e1]at h
 | exc x=>exact(cZ e1).elim
 | ok i =>
  cases e2:asI r'.d with
  | stk=>simp[e1,e2]at h
  | exc x=>exact(cZ e2).elim
  | ok j =>
   simp only[e1,e2,R.ok_bind]at h;by_cases hj:-(2^62)<=i/\i<2^62/\-(2^62)<=j/\j<2^62
   · rw[if_pos hj]at h
     exact⟨i,j,by rw[g1.int (dJ e1),g2.int (dJ e2)],hj,h _ H' (aI.refl _) wY⟩
   · rw[if_neg hj]at h;exact h.elim
theorem aGb {K:PySem.W.Frag}{H0 H':Hp}{B:Addr->Prop}{a b:Addr}{xs ys:List V}{ds es:List D}{st fr fr':Bool}(hs:st=true->¬ B a/\¬ B b)(h2:Rd H' a (.lst xs))(k2:Rd H' b (.lst ys))
 (h3:aJ K (aZ fr H0 H' B) ds xs) (k3:aJ K (aZ fr' H0 H' B) es ys):sI K H0 H' B (Itz K a b) ⟨st,fr&&fr',aB3 ds es⟩:=by
 refine⟨fun c=>c=a\/c=b,fun h c z=>by rcases z with z | z<;>rw[z];exact(hs h).1;exact(hs h).2,fun H2 B2 j1 j2 j3 j4 j5 i=>?_⟩
 have q1:SqL K H2 a xs:=.inl (wE h2 fun o=>j1 a o (.inl rfl));have q2:SqL K H2 b ys:=.inl (wE k2 fun o=>j1 b o (.inr rfl));have l1:=h3.length;have l2:=k3.length;refine⟨fun hi=>⟨xs,ys,q1,q2,?_⟩,fun d hd=>?_⟩
 · simp[aB3]at hi;omega
 · unfold aB3 at hd
   rw[List.getElem?_zipWith]at hd;cases e1:ds[i]? with
   | none=>rw[e1]at hd;cases hd
   | some d1 =>
    cases e2:es[i]? with
    | none=>rw[e1,e2]at hd;cases hd
    | some d2 =>
     rw[e1,e2]at hd;cases hd;obtain⟨v,hv,rv⟩:=h3.get e1;obtain⟨w,hw,rw'⟩:=k3.get e2;refine⟨⟨xs,ys,v,w,q1,q2,hv,hw⟩,fun x H3 y=>?_⟩
     obtain⟨t,x1,y1,e3,e4,e5,y2,y3⟩:=y;have z1:=y2 xs q1;have z2:=y3 ys q2;rw[hv]at z1;cases z1;rw[hw]at z2;cases z2;subst e3;subst e5;refine⟨aI.upd_new e4,t,[v,w],rfl,aS.mpr ⟨fun z=>?_,bC⟩,v,[w],rfl,?_,w,[],rfl,?_,rfl⟩
     · rcases z with z | ⟨_,o,z,_⟩
       · obtain⟨o,q⟩:=j4 t z;rw[e4]at q;cases q
       · rw[j5 _ _ z]at e4;cases e4
     · have m:aI (aZ fr H0 H' B) (aZ fr H0 (upd H2 t (.tup [v,w])) B2):=aV (fun b o q n=>aI.upd_new e4 b o (j2 b o q n)) j3
       have:=(aJ.one (Rep.same m rv)).andL (fr':=fr')
       obtain⟨_,_,z1,z2,_⟩:=this;cases z1;exact z2
     · have m:aI (aZ fr' H0 H' B) (aZ fr' H0 (upd H2 t (.tup [v,w])) B2):=aV (fun b o q n=>aI.upd_new e4 b o (j2 b o q n)) j3
       have:=(aJ.one (Rep.same m rw')).andR (fr:=fr)
       obtain⟨_,_,z1,z2,_⟩:=this;cases z1;exact z2
theorem aF8 {ts:List Expr}{k:Nat}{tp:Pos}(hc:X.calm=true)(hg:Gl X "zip")(hm:X.mg "zip" = none)(ha:PE X a (tE X.K P f))(hb:PE X b (tE X.K P g))(hs:starEach [a,b] X.env=[(false,eval a X.env),(false,eval b X.env)]:=by rfl)(hs2:starEach [b] X.env=[(false,eval b X.env)]:=by rfl) :
 PI X (.Tuple ts k tp) (.Call (.Name "zip" p) [a,b] [] pos) (tI X.K P (zF f g)):=by
 refine PI.imp (aNs hc hg hm (aA ha (aA hb aH hs2) (by rw[hs,hs2])) hs hs2) ?_
 intro σ H Rq h;refine two rfl h ?_
 intro H0 B ρ v w H' r r' d0 d g1 g2 s h;cases e1:asL r.d with
 | stk=>simp[e1]at h
 | exc x=>exact(iF e1).elim
 | ok xs =>
  cases e2:asL r'.d with
  | stk=>simp[e1,e2]at h
  | exc x=>exact(iF e2).elim
  | ok ys =>
   simp only[e1,e2,R.ok_bind]at h;obtain⟨a1,xs1,h1,h2,h3⟩:=g1.list (gK e1);obtain⟨a2,xs2,k1,k2,k3⟩:=g2.list (gK e2);refine⟨a1,a2,by rw[h1,k1],⟨xs1,.inl h2⟩,⟨xs2,.inl k2⟩,h _ H' (aI.refl _) (aGb (fun hk=>?_) h2 k2 h3 k3)⟩
   rw[Br]at hk;exact⟨g1.notB d0 (gK e1) h1 hk.1,g2.notB d0 (gK e2) k1 hk.2⟩
end Mir
namespace Mir
open PySem L2
variable {X:Cx}{P:XP}{a b c e:Expr}{es:List Expr}{f g:FE}{fs:FEs}{pos:Pos}
mutual
def gOf (K:PySem.W.Frag):Tg->TG
 | .nm i=>xU i
 | .tp ts=>aGy K ts.length (kD K ts)
def kD (K:PySem.W.Frag):List Tg->TGs
 | []=>aG6
 | t :: ts=>aBd (gOf K t) (kD K ts)
end
theorem uD {fr:Bool}:∀ (ts:List Tg) (ds:List D) (ρ ρ':Env),Tg.binds fr ts ds ρ=.ok ρ'->ds.length=ts.length
 | [],ds,ρ,ρ',e=>by
  cases ds with
  | nil=>rfl
  | cons d ds=>simp[Tg.binds]at e
 | t :: ts,ds,ρ,ρ',e=>by
  cases ds with
  | nil=>simp[Tg.binds]at e
  | cons d ds =>
   simp only[Tg.binds]at e;cases e1:Tg.bind fr t d ρ with
   | stk=>simp[e1]at e
   | exc x=>simp[e1]at e
   | ok ρ1 =>
    simp only[e1,R.ok_bind]at e;simp[uD ts ds ρ1 ρ' e]
section
variable {K:PySem.W.Frag}{G H:Hp}{fr:Bool}{I:St->Env->Prop}
mutual
theorem oS (sub:aI G H)(hI:∀ σ ρ i d v,I σ ρ->Rep K G d v->I (σ.set i (some v)) (ρ.set i (some ⟨.shr,fr,d⟩))):∀ (t:Tg) (d:D) (v:V) (σ:St) (ρ ρ':Env) (Q:St->Hp->Prop),Tg.bind fr t d ρ=.ok ρ'->Rep K G d v->I σ ρ->(∀ σ',I σ' ρ'->Q σ' H)->gOf K t v σ H Q
 | .nm i,d,v,σ,ρ,ρ',Q,e,r,i0,q=>by
  unfold gOf;simp only[Tg.bind]at e;cases e;exact q _ (hI σ ρ i d v i0 r)
 | .tp ts,d,v,σ,ρ,ρ',Q,e,r,i0,q=>by
  unfold gOf;cases d with
  | tup ds =>
   simp only[Tg.bind]at e;obtain⟨a,xs,h1,h2,h3⟩:=r;have:=yO sub hI ts ds xs σ ρ ρ' Q e h3 i0 q
   exact⟨a,xs,h1,.inl (.inl (sub _ _ h2)),by rw[←h3.length];exact this.2,this.1⟩
  | _=>simp[Tg.bind]at e
theorem yO (sub:aI G H)(hI:∀ σ ρ i d v,I σ ρ->Rep K G d v->I (σ.set i (some v)) (ρ.set i (some ⟨.shr,fr,d⟩))):∀ (ts:List Tg) (ds:List D) (vs:List V) (σ:St) (ρ ρ':Env) (Q:St->Hp->Prop),Tg.binds fr ts ds ρ=.ok ρ'->aJ K G ds vs->I σ ρ->(∀ σ',I σ' ρ'->Q σ' H)->kD K ts vs σ H Q/\ds.length=ts.length
 | [],ds,vs,σ,ρ,ρ',Q,e,r,i0,q=>by
  cases ds with
  | nil =>
   simp only[Tg.binds]at e;cases e;exact⟨by unfold kD;exact⟨r,q σ i0⟩,rfl⟩
  | cons d ds=>simp[Tg.binds]at e
 | t :: ts,ds,vs,σ,ρ,ρ',Q,e,r,i0,q=>by
  cases ds with
  | nil=>simp[Tg.binds]at e
  | cons d ds =>
   simp only[Tg.binds]at e;obtain⟨x,xr,h1,h2,h3⟩:=r;cases e1:Tg.bind fr t d ρ with
   | stk=>simp[e1]at e
   | exc x=>simp[e1]at e
   | ok ρ1 =>
    simp only[e1,R.ok_bind]at e;have len:=uD ts ds ρ1 ρ' e;refine⟨?_,by simp[len]⟩
    unfold kD;exact⟨x,xr,h1,oS sub hI t d x σ ρ ρ1 _ e1 h2 i0 fun σ' i1=>(yO sub hI ts ds xr σ' ρ1 ρ' Q e h3 i1 q).1⟩
end
end
theorem mC.to {K:PySem.W.Frag}{H0 H H':Hp}{B B':Addr->Prop}{v:V}{r:Res}(sm:aI H0 H)(g:mC K H0 H B v r)(k:∀ b o,H b=some o->¬ B b->H' b=some o)(ko:∀ b o,H b=some o->B b->r.k=.own->v=.ref b->H' b=some o/\B' b)(h:∀ b,B' b->B b\/H b=none):mC K H0 H' B' v r:=by
 unfold mC at g ⊢;have m:∀ fr,aI (aZ fr H0 H B) (aZ fr H0 H' B'):=fun fr=>aV k h;cases e:r.k with
 | shr=>rw[e]at g;exact Rep.same (m _) g
 | own =>
  rw[e]at g;obtain⟨a,o,h1,h2,h3,h4,h5⟩:=g;obtain⟨q1,q2⟩:=ko a _ h4 h2 e h1;exact⟨a,o,h1,q2,h3,q1,h5.same (m _)⟩
 | tmp=>rw[e]at g;exact g
 | old=>rw[e]at g;exact⟨g.1,Rep.same (eG (fun _ _ q _=>q) fun b z=>(h b z).imp id fun q=>sm.none q) g.2⟩
theorem DenE.to {K:PySem.W.Frag}{H0 H H':Hp}{B B':Addr->Prop}{σ:St}{ρ:Env}(d:DenE K H0 H B σ ρ)(s:aI H H')(hB:∀ b,B b->B' b)(h:∀ b,B' b->B b\/H b=none)(bnd:∀ b,B' b->∃ o,H' b=some o/\stab o=false):DenE K H0 H' B' σ ρ :=
 ⟨d.len,d.sam.trans s,bnd,fun i e he=>let ⟨v,a,g⟩:=d.ent i e he;⟨v,a,g.to d.sam (fun b o q _=>s b o q) (fun b o q q2 _ _=>⟨s b o q,hB b q2⟩) h⟩⟩
theorem DenE.set {K:PySem.W.Frag}{H0 H:Hp}{B:Addr->Prop}{σ:St}{ρ:Env}{i:Nat}{v:V}{r:Res}(d:DenE K H0 H B σ ρ)(g:mC K H0 H B v r):DenE K H0 H B (σ.set i (some v)) (ρ.set i (some r)):=by
 refine⟨by rw[Bf,Bf];exact d.len,d.sam,d.bnd,fun j e he=>?_⟩
 by_cases hj:i=j
 · subst hj
   by_cases hi:i<ρ.length
   · rw[Am hi]at he
     cases he;exact⟨v,Am (by rw[←d.len];exact hi),g⟩
   · rw[Cl (by rw[Bf];omega)]at he
     cases he
 · rw[Ah hj]at he
   obtain⟨w,q1,q2⟩:=d.ent j e he;exact⟨w,by rw[Ah hj];exact q1,q2⟩
theorem DenE.comp {K:PySem.W.Frag}{H0 H:Hp}{B:Addr->Prop}{σ:St}{ρ:Env}(d:DenE K H0 H B σ ρ)(k:Nat)(fs:List Nat):DenE K H0 H B (eO k fs σ) (dM k fs ρ):=by
 refine⟨by simp[eO,dM],d.sam,d.bnd,fun i e he=>?_⟩
 unfold dM at he;unfold eO;by_cases hi:i<k
 · rw[Bv (by simpa using hi),Dl,if_pos hi]at he
   cases he
 · rw[Bt (by simpa using hi),Du,As]at he
   rw[Bt (by simpa using hi),Du,As]
   cases q:fs[i-k]? with
   | none=>rw[q]at he;cases he
   | some j =>
    rw[q]at he;simp only[Ec,Cg.injEq]at he ⊢
    have he':ρ[j]?=some (some e):=by
     cases z:ρ[j]? with
     | none=>rw[z]at he;cases he
     | some y=>rw[z]at he;simp at he;rw[he]
    obtain⟨v,q1,q2⟩:=d.ent j e he';exact⟨v,by rw[q1];rfl,q2⟩
def tBm (K:PySem.W.Frag)(P:XP)(f:FB):St->Hp->(Option V->Hp->Prop)->Prop:=fun σ H Q=>∃ H0 B ρ,DenE K H0 H B σ ρ/\match f ρ with
 | .ok (some r)=>∀ v H',aI H H'->aM K H0 H H' B v r->Q (some v) H'
 | .ok none=>∀ H',aI H H'->Q none H'
 | .exc x=>P.p x σ H
 | .stk=>False
theorem PB.imp {ifs:List Expr}{t t':St->Hp->(Option V->Hp->Prop)->Prop}(p:PB X ifs e t)(h:∀ σ H Q,t' σ H Q->t σ H Q):PB X ifs e t':=fun pins s σ H Q I q=>p pins s σ H Q I (h σ H Q q)
theorem zN (he:PE X e (tE X.K P f)):PB X [] e (tBm X.K P (bE f)):=by
 refine PB.imp (aLe he) ?_
 rintro σ H Q ⟨H0,B,ρ,d,h⟩
 unfold bE at h;show tE X.K P f σ H fun v H'=>Q (some v) H'
 cases e1:f ρ with
 | stk=>simp[e1]at h
 | exc x=>simp[e1]at h;exact cR d e1 h
 | ok r=>simp only[e1,R.ok_bind]at h;exact eB d e1 fun v H' s d' g'=>h v H' s g'
theorem oC {t:FT}(hc:PT X c (tT X.K P t))(he:PE X e (tE X.K P f)):PB X [c] e (tBm X.K P (Mir.bIf t f)):=by
 refine PB.imp (aN8 hc he) ?_
 rintro σ H Q ⟨H0,B,ρ,d,h⟩
 unfold Mir.bIf at h;show tT X.K P t σ H fun b H1=>if b=true then tE X.K P f σ H1 fun v H'=>Q (some v) H' else Q none H1
 refine⟨H0,B,ρ,d,?_⟩
 cases e1:t ρ with
 | stk=>simp[e1]at h
 | exc x=>simp[e1]at h;exact h
 | ok k =>
  simp only[e1,R.ok_bind]at h;intro H1 s1;cases k with
  | false=>exact aKx (h H1 s1)
  | true =>
   refine aMw ⟨H0,B,ρ,d.mono s1,?_⟩
   rw[if_pos rfl]at h;cases e2:f ρ with
   | stk=>simp[e2]at h
   | exc x=>simp[e2]at h;exact P.mono h s1
   | ok r=>simp only[e2,R.ok_bind]at h;exact fun v H' s g'=>h v H' (s1.trans s) (g'.old s1)
theorem pI {fr:Bool}{x:Xc}:∀ (t:Tg) (d:D) (ρ:Env),Tg.bind fr t d ρ=.exc x->False:=by
 have hs:∀ (n:Nat),(∀ (t:Tg) (d:D) (ρ:Env),sizeOf t<=n->Tg.bind fr t d ρ=.exc x->False)/\(∀ (ts:List Tg) (ds:List D) (ρ:Env),sizeOf ts<=n->Tg.binds fr ts ds ρ=.exc x->False):=by
  intro n;induction n with
  | zero =>
   refine⟨fun t d ρ h=>?_,fun ts ds ρ h=>?_⟩
   · cases t<;>simp at h
   · cases ts<;>simp at h
  | succ n ih =>
   refine⟨fun t d ρ h e=>?_,fun ts ds ρ h e=>?_⟩
   · cases t with
     | nm i=>simp[Tg.bind]at e
     | tp ts =>
      cases d with
      | tup ds=>simp only[Tg.bind]at e;exact ih.2 ts ds ρ (by simp at h;omega) e
      | _=>simp[Tg.bind]at e
   · cases ts with
     | nil=>cases ds<;>simp[Tg.binds]at e
     | cons t ts =>
      cases ds with
      | nil=>simp[Tg.binds]at e
      | cons d ds =>
       simp only[Tg.binds]at e;simp at h
       cases e1:Tg.bind fr t d ρ with
       | stk=>simp[e1]at e
       | exc y=>simp[e1]at e;subst e;exact ih.1 t d ρ (by omega) e1
       | ok ρ1=>simp only[e1,R.ok_bind]at e;exact ih.2 ts ds ρ1 (by omega) e
 exact fun t d ρ e=>(hs (sizeOf t)).1 t d ρ (Af _) e
theorem mF {tg:Tg}{fb:FB}{fr:Bool}{ρ:Env}{x:Xc}:∀ {ds:List D},hG tg fb fr ρ ds=.exc x->False
 | [],e=>by simp[hG]at e
 | d :: r,e=>by
  simp only[hG]at e;cases e1:tg.bind fr d ρ with
  | stk=>simp[e1]at e
  | exc y=>exact pI _ _ _ e1
  | ok ρ1 =>
   simp only[e1,R.ok_bind]at e;cases e2:fb ρ1 with
   | stk=>simp[e2]at e
   | exc y=>simp[e2]at e
   | ok o =>
    cases o with
    | none=>simp only[e2]at e;exact mF e
    | some r' =>
     simp only[e2]at e;cases e3:r'.give with
     | stk=>simp[e3]at e
     | exc y=>unfold Res.give at e3;split at e3<;>cases e3
     | ok z =>
      simp only[e3,R.ok_bind]at e;cases e4:hG tg fb fr ρ r with
      | stk=>simp[e4]at e
      | exc y=>exact mF e4
      | ok z=>simp[e4]at e
theorem yP {K:PySem.W.Frag}{H0 H H1:Hp}{B:Addr->Prop}{σ:St}{ρ:Env}{J:It}{w:Its}{k:Nat}{fs:List Nat}{tg:Tg}{fb:FB}{y:Bool×List D}{acc:Addr}{Qf:Hp->Prop}
 (d:DenE K H0 H B σ ρ) (s1:aI H H1) (hw:sI K H0 H1 B J w) (e:hG tg fb w.fr (dM k fs ρ) w.ds=.ok y) (hz:w.ds.length<=sizeLine) (hacc:H1 acc=none)
 (hq:∀ H2,aI H H2->aM K H0 H H2 B (.ref acc) ⟨.tmp,y.1,.lst y.2⟩->Qf H2):pC J k fs (gOf K tg) (tBm K XP0 fb) σ acc Qf H1:=by
 obtain⟨A,hst,hwk⟩:=hw;have hacc0:H acc=none:=s1.none hacc;have nB:¬ B acc:=fun z=>by obtain⟨o,q,_⟩:=d.bnd acc z;rw[hacc0]at q;cases q
 refine⟨fun i m ys H2=>m=w.ds.length-i/\i<=w.ds.length/\ys.length<=i/\aI H1 H2/\H2 acc=some (.lst ys)/\∃ es1 esS frS,y.2=es1++esS/\hG tg fb w.fr (dM k fs ρ) (w.ds.drop i)=.ok (frS,esS)/\(y.1=true->frS=true) /\
  aJ K (aZ y.1 H0 H2 fun b=>B b\/b=acc) es1 ys,⟨w.ds.length,rfl,Bz _,Af _,aI.upd_new hacc,bC,[],y.2,y.1,rfl,e,fun h=>h,rfl⟩,?_⟩
 rintro i m ys H2 ⟨hm,hi,hys,s2,ha2,es1,esS,frS,hy,hS,hfr,hR⟩
 refine⟨ha2,?_⟩
 have sH2:=s1.trans s2
 have bnd2:∀ b,(B b\/b=acc)->∃ o,H2 b=some o/\stab o=false:=fun b z=>by
  rcases z with z | z
  · obtain⟨o,q,n⟩:=d.bnd b z
    exact⟨o,sH2 _ _ q,n⟩
  · exact⟨_,by rw[z];exact ha2,rfl⟩
 have cond:∀ b,(B b\/b=acc)->B b\/H1 b=none:=fun b z=>z.imp id fun z=>by rw[z];exact hacc
 have cond0:∀ b,(B b\/b=acc)->B b\/H b=none:=fun b z=>z.imp id fun z=>by rw[z];exact hacc0
 have wk:=hwk H2 (fun b=>B b\/b=acc) (fun a o _ q=>s2 _ _ q) (fun b o q _=>s2 _ _ q) cond (fun b z=>let ⟨o,q,_⟩:=bnd2 b z;⟨o,q⟩) (d.sam.trans sH2) i
 by_cases hlt:i<w.ds.length
 · refine .inr ?_
   have hd:w.ds[i]?=some w.ds[i]:=Ao hlt;obtain⟨go,yl⟩:=wk.2 _ hd;refine⟨go,Cf hys (Al hlt hz),fun x H3 y3=>?_⟩
   obtain⟨s3,rx⟩:=yl x H3 y3;rw[List.drop_eq_getElem_cons hlt]at hS;simp only[hG]at hS
   have den3:DenE K H0 H3 (fun b=>B b\/b=acc) (eO k fs σ) (dM k fs ρ) :=
    (d.to (sH2.trans s3) (fun b z=>.inl z) cond0 fun b z=>let ⟨o,q,n⟩:=bnd2 b z;⟨o,s3 _ _ q,n⟩).comp k fs
   cases e1:tg.bind w.fr w.ds[i] (dM k fs ρ) with
   | stk=>simp[e1]at hS
   | exc x=>simp[e1]at hS
   | ok ρ1 =>
    simp only[e1,R.ok_bind]at hS;refine oS (G:=aZ w.fr H0 H3 fun b=>B b\/b=acc) (fr:=w.fr) (I:=fun σ' ρ'=>DenE K H0 H3 (fun b=>B b\/b=acc) σ' ρ') dY (fun σ' ρ' i d' v' D r=>D.set r) tg _ x _ _ ρ1 _ e1 rx den3 fun σ4 den4=>?_
    refine⟨H0,_,ρ1,den4,?_⟩
    cases e2:fb ρ1 with
    | stk=>simp[e2]at hS
    | exc x=>simp[e2]at hS
    | ok o =>
     cases o with
     | none =>
      simp only[e2]at hS;intro H5 s5;refine⟨w.ds.length-(i+1),by omega,rfl,hlt,by omega,(s2.trans s3).trans s5,s5 _ _ (s3 _ _ ha2),es1,esS,frS,hy,hS,hfr,aJ.same (aV (fun b o q _=>s5 _ _ (s3 _ _ q)) fun b z=>.inl z) hR⟩
     | some r =>
      simp only[e2]at hS;cases e3:r.give with
      | stk=>simp[e3]at hS
      | exc x=>simp[e3]at hS
      | ok r' =>
       simp only[e3,R.ok_bind]at hS;cases e4:hG tg fb w.fr (dM k fs ρ) (w.ds.drop (i+1)) with
       | stk=>simp[e4]at hS
       | exc x=>simp[e4]at hS
       | ok z =>
        simp only[e4,R.ok_bind]at hS;cases hS;intro v H5 s5 g5;obtain⟨q1,q2⟩:=g5.give den4 e3;subst q1;refine⟨s5 _ _ (s3 _ _ ha2),w.ds.length-(i+1),by omega,rfl,hlt,by simp;omega,?_,bC,es1++[r.d],z.2,z.1,by rw[hy];simp,e4,fun h=>?_,?_⟩
        · intro b o q
          rw[aK (bF q hacc)];exact s5 _ _ (s3 _ _ (s2 _ _ q))
        · have:=hfr h
          simp at this
          exact this.2
        · have m:∀ fr,aI (aZ fr H0 H5 fun b=>B b\/b=acc) (aZ fr H0 (upd H5 acc (.lst (ys++[v]))) fun b=>B b\/b=acc):=fun fr=>aV (fun b o q n=>by rw[aK (fun z=>n (.inr z))];exact q) fun b z=>.inl z
          have m2:aI (aZ y.1 H0 H2 fun b=>B b\/b=acc) (aZ y.1 H0 H5 fun b=>B b\/b=acc):=aV (fun b o q _=>s5 _ _ (s3 _ _ q)) fun b z=>.inl z;refine aJ.append (aJ.same (m _) (aJ.same m2 hR)) (aJ.one (Rep.same (m _) ?_))
          cases hy1:y.1 with
          | false=>exact Rep.same iU q2
          | true =>
           have:=hfr hy1
           simp at this
           rw[this.1]at q2;exact q2
 · have hi':i=w.ds.length:=by omega
   refine .inl ⟨wk.1 (by omega),hq H2 sH2 ⟨acc,_,rfl,hacc0,ha2,.lst ?_⟩⟩
   rw[List.drop_of_length_le (by omega)]at hS
   simp only[hG]at hS;cases hS;rw[hy,Ce];exact hR
variable {scope:Scope}{N:List Str}{k:Nat}{cs:List Nat}{tg iter elt:Expr}{ifs:List Expr}{t:Tg}{it:FI}{fb:FB}
theorem aGj (σ:St)(H:Hp)(Q:VK)(h:tE X.K P (bW it k cs t fb) σ H Q):aKa (tI X.K P it) k cs (gOf X.K t) (tBm X.K XP0 fb) σ H Q:=by
 obtain⟨H0,B,ρ,d,h⟩:=h;unfold bW at h;refine⟨H0,B,ρ,d,?_⟩
 cases e:it ρ with
 | stk=>simp[e]at h
 | exc x=>simp[e]at h;exact h
 | ok w =>
  simp only[e,R.ok_bind]at h;intro J H1 s1 hw acc hacc;cases e2:hG t fb w.fr (dM k cs ρ) w.ds with
  | stk=>simp[e2]at h
  | exc x=>exact(mF e2).elim
  | ok y =>
   simp only[e2,R.ok_bind]at h;by_cases hz:w.ds.length<=sizeLine
   · rw[if_pos hz]at h
     exact yP d s1 hw e2 hz hacc fun H2 s2 g2=>h _ H2 s2 g2
   · rw[if_neg hz]at h;exact h.elim
theorem jV (hc:X.calm=true)(C:CompOk X scope N k cs)(hi:PI X tg iter (tI X.K P it))(hg:∀ fp s H,PG (cQ X scope N fp s H) tg (gOf X.K t))(gl:sH k (gOf X.K t))(hb:∀ fp s H,PB (cQ X scope N fp s H) ifs elt (tBm X.K XP0 fb))
 (hs:∀ x,foldedSetIterable iter X.env x=pure x:=by intro _;rfl):PE X (.ListComp elt [⟨tg,iter,ifs,0⟩] scope pos) (tE X.K P (bW it k cs t fb)) :=
 PE.imp (aAx hc C hi hg gl hb hs) aGj
end Mir
namespace Mir
open PySem L2
variable {X:Cx}{P:XP}{a b c e:Expr}{es:List Expr}{f g:FE}{fs:FEs}{pos:Pos}
def fA (σ:St)(ρ:Env)(i:Nat)(a:Addr):Prop:=σ[i]?=some (some (.ref a))/\∃ e,ρ[i]?=some (some e)/\e.k=.own
def iW (σ:St)(ρ:Env)(a:Addr):Prop:=∃ i,fA σ ρ i a
abbrev Bs (T:Addr->Prop)(σ:St)(ρ:Env):Addr->Prop:=fun a=>iW σ ρ a\/T a
structure DenS (K:PySem.W.Frag)(H0 H:Hp)(T:Addr->Prop)(σ:St)(ρ:Env):Prop where
 e:DenE K H0 H (Bs T σ ρ) σ ρ
 sep:∀ a,iW σ ρ a->¬ T a
 dis:∀ i j a,fA σ ρ i a->fA σ ρ j a->i=j
structure Ext (H:Hp)(σ:St)(ρ:Env)(H':Hp)(σ':St)(ρ':Env):Prop where
 kp:∀ b o,H b=some o->¬ iW σ ρ b->H' b=some o
 ow:∀ b,iW σ' ρ' b->iW σ ρ b\/H b=none
section
variable {K:PySem.W.Frag}{H0 H H' H'':Hp}{T:Addr->Prop}{σ σ' σ'':St}{ρ ρ' ρ'':Env}
theorem Ext.refl:Ext H σ ρ H σ ρ:=⟨fun _ _ h _=>h,fun _ h=>.inl h⟩
theorem Ext.trans (x:Ext H σ ρ H' σ' ρ')(y:Ext H' σ' ρ' H'' σ'' ρ''):Ext H σ ρ H'' σ'' ρ'':=by
 refine⟨fun b o h n=>y.kp b o (x.kp b o h n) fun z=>?_,fun b z=>?_⟩
 · rcases x.ow b z with q | q
   · exact n q
   · rw[h]at q;cases q
 · rcases y.ow b z with q | q
   · exact x.ow b q
   · cases e:H b with
     | none=>exact .inr rfl
     | some o =>
      by_cases hb:iW σ ρ b
      · exact .inl hb
      · rw[x.kp b o e hb]at q;cases q
theorem Ext.same (s:aI H H'):Ext H σ ρ H' σ ρ:=⟨fun b o h _=>s b o h,fun _ h=>.inl h⟩
theorem DenS.mono (d:DenS K H0 H T σ ρ)(s:aI H H'):DenS K H0 H' T σ ρ:=⟨d.e.mono s,d.sep,d.dis⟩
theorem fF {i j:Nat}{v:V}{r:Res}{a:Addr}(h:fA (σ.set i (some v)) (ρ.set i (some r)) j a):(j=i/\v=.ref a/\r.k=.own)\/(j≠i/\fA σ ρ j a):=by
 obtain⟨h1,e,h2,h3⟩:=h;by_cases hj:i=j
 · subst hj
   by_cases hi:i<σ.length
   · rw[Am hi]at h1
     cases h1;by_cases hr:i<ρ.length
     · rw[Am hr]at h2;cases h2
       exact .inl ⟨rfl,rfl,h3⟩
     · rw[Cl (by rw[Bf];omega)]at h2;cases h2
   · rw[Cl (by rw[Bf];omega)]at h1;cases h1
 · rw[Ah hj]at h1 h2
   exact .inr ⟨fun z=>hj z.symm,h1,e,h2,h3⟩
theorem qL {i j:Nat}{v:V}{r:Res}{a:Addr}(h:fA σ ρ j a)(hj:j≠i):fA (σ.set i (some v)) (ρ.set i (some r)) j a:=by
 obtain⟨h1,e,h2,h3⟩:=h;exact⟨by rw[Ah (Ne.symm hj)];exact h1,e,by rw[Ah (Ne.symm hj)];exact h2,h3⟩
theorem DenS.set_shr {i:Nat}{v:V}{fr:Bool}{dd:D}(d:DenS K H0 H T σ ρ)(r:Rep K (aZ fr H0 H (Bs T σ ρ)) dd v):DenS K H0 H T (σ.set i (some v)) (ρ.set i (some ⟨.shr,fr,dd⟩))/\∀ a,iW (σ.set i (some v)) (ρ.set i (some ⟨.shr,fr,dd⟩)) a->iW σ ρ a:=by
 have sub:∀ a,iW (σ.set i (some v)) (ρ.set i (some ⟨.shr,fr,dd⟩)) a->iW σ ρ a:=fun a ⟨j,h⟩=>by
  rcases fF h with ⟨_,_,h⟩ | ⟨_,h⟩
  · cases h
  · exact⟨j,h⟩
 have subB:∀ a,Bs T (σ.set i (some v)) (ρ.set i (some ⟨.shr,fr,dd⟩)) a->Bs T σ ρ a:=fun a z=>z.imp (sub a) id;refine⟨⟨⟨by rw[Bf,Bf];exact d.e.len,d.e.sam,fun b z=>d.e.bnd b (subB b z),fun j e he=>?_⟩,fun a z=>d.sep a (sub a z),fun j k a h1 h2=>?_⟩,sub⟩
 · by_cases hj:i=j
   · subst hj
     by_cases hi:i<ρ.length
     · rw[Am hi]at he
       cases he;exact⟨v,Am (by rw[←d.e.len];exact hi),Rep.same (aV (fun _ _ q _=>q) fun b z=>.inl (subB b z)) r⟩
     · rw[Cl (by rw[Bf];omega)]at he;cases he
   · rw[Ah hj]at he
     obtain⟨w,q1,q2⟩:=d.e.ent j e he;refine⟨w,by rw[Ah hj];exact q1,q2.to d.e.sam (fun _ _ q _=>q) (fun b o q _ k1 k2=>⟨q,.inl ⟨j,qL ⟨by rw[q1,k2],e,he,k1⟩ (fun z=>hj z.symm)⟩⟩) fun b z=>.inl (subB b z)⟩
 · rcases fF h1 with ⟨_,_,h⟩ | ⟨_,h1⟩
   · cases h
   · rcases fF h2 with ⟨_,_,h⟩ | ⟨_,h2⟩
     · cases h
     · exact d.dis j k a h1 h2
theorem DenS.set_con {i:Nat}{a:Addr}{o:HO}{dd:D}{fr:Bool}(d:DenS K H0 H T σ ρ)(s:aI H H')(ha:H a=none)(ha':H' a=some o)(r:iY K (aZ fr H0 H' fun b=>Bs T σ ρ b\/b=a) dd o) :
 DenS K H0 H' T (σ.set i (some (.ref a))) (ρ.set i (some ⟨.own,fr,dd⟩))/\Ext H σ ρ H' (σ.set i (some (.ref a))) (ρ.set i (some ⟨.own,fr,dd⟩)):=by
 have sub:∀ b,iW (σ.set i (some (.ref a))) (ρ.set i (some ⟨.own,fr,dd⟩)) b->iW σ ρ b\/b=a:=fun b ⟨j,h⟩=>by
  rcases fF h with ⟨_,h,_⟩ | ⟨_,h⟩
  · cases h;exact .inr rfl
  · exact .inl ⟨j,h⟩
 have subB:∀ b,Bs T (σ.set i (some (.ref a))) (ρ.set i (some ⟨.own,fr,dd⟩)) b->Bs T σ ρ b\/b=a:=fun b z=>by
  rcases z with z | z
  · exact(sub b z).imp .inl id
  · exact .inl (.inr z)
 have subH:∀ b,Bs T (σ.set i (some (.ref a))) (ρ.set i (some ⟨.own,fr,dd⟩)) b->Bs T σ ρ b\/H b=none:=fun b z=>(subB b z).imp id fun z=>by rw[z];exact ha
 have nB:∀ b,Bs T σ ρ b->b≠a:=fun b z q=>by obtain⟨o,w,_⟩:=d.e.bnd b z;rw[q,ha]at w;cases w
 refine⟨⟨⟨by rw[Bf,Bf];exact d.e.len,d.e.sam.trans s,fun b z=>?_,fun j e he=>?_⟩,fun b z=>?_,fun j k b h1 h2=>?_⟩,fun b o h _=>s b o h,fun b z=>(sub b z).imp id fun z=>by rw[z];exact ha⟩
 · rcases subB b z with z | z
   · obtain⟨o,w,n⟩:=d.e.bnd b z;exact⟨o,s _ _ w,n⟩
   · exact⟨_,by rw[z];exact ha',r.stab⟩
 · by_cases hj:i=j
   · subst hj
     by_cases hi:i<ρ.length
     · rw[Am hi]at he
       cases he;have hσ:(σ.set i (some (V.ref a)))[i]?=some (some (V.ref a)):=Am (by rw[←d.e.len];exact hi)
       refine⟨.ref a,hσ,a,o,rfl,.inl ⟨i,hσ,_,Am hi,rfl⟩,d.e.sam.none ha,ha',r.same (aV (fun _ _ q _=>q) fun b z=>.inl (subB b z))⟩
     · rw[Cl (by rw[Bf];omega)]at he;cases he
   · rw[Ah hj]at he
     obtain⟨w,q1,q2⟩:=d.e.ent j e he;refine⟨w,by rw[Ah hj];exact q1,q2.to d.e.sam (fun _ _ q _=>s _ _ q) (fun b o q _ k1 k2=>⟨s _ _ q,.inl ⟨j,qL ⟨by rw[q1,k2],e,he,k1⟩ (fun z=>hj z.symm)⟩⟩) subH⟩
 · rcases sub b z with z | z
   · exact d.sep b z
   · intro q;exact nB b (.inr q) z
 · rcases fF h1 with ⟨e1,h,_⟩ | ⟨_,h1⟩
   · cases h
     rcases fF h2 with ⟨e2,_,_⟩ | ⟨_,h2⟩
     · rw[e1,e2]
     · exact absurd rfl (nB _ (.inl ⟨k,h2⟩))
   · rcases fF h2 with ⟨_,h,_⟩ | ⟨_,h2⟩
     · cases h;exact absurd rfl (nB _ (.inl ⟨j,h1⟩))
     · exact d.dis j k b h1 h2
theorem DenS.writeO {i:Nat}{a:Addr}{e:Res}{o':HO}{dd:D}{fr:Bool}(d:DenS K H0 H T σ ρ)(hσ:σ[i]?=some (some (.ref a)))(he:ρ[i]?=some (some e))(hk:e.k=.own)(h0:H0 a=none)(r:iY K (aZ fr H0 H (Bs T σ ρ)) dd o') :
 DenS K H0 (upd H a o') T σ (ρ.set i (some ⟨.own,fr,dd⟩))/\Ext H σ ρ (upd H a o') σ (ρ.set i (some ⟨.own,fr,dd⟩)):=by
 have oi:fA σ ρ i a:=⟨hσ,e,he,hk⟩
 have hi:i<ρ.length:=by
  obtain⟨h,_⟩:=Aj.mp he;exact h
 have fwd:∀ j b,fA σ (ρ.set i (some ⟨.own,fr,dd⟩)) j b->fA σ ρ j b:=fun j b ⟨h1,e',h2,h3⟩=>by
  by_cases hj:i=j
  · subst hj;exact⟨h1,e,he,hk⟩
  · rw[Ah hj]at h2;exact⟨h1,e',h2,h3⟩
 have bwd:∀ j b,fA σ ρ j b->fA σ (ρ.set i (some ⟨.own,fr,dd⟩)) j b:=fun j b ⟨h1,e',h2,h3⟩=>by
  by_cases hj:i=j
  · subst hj;exact⟨h1,_,Am hi,rfl⟩
  · exact⟨h1,e',by rw[Ah hj];exact h2,h3⟩
 have subB:∀ b,Bs T σ (ρ.set i (some ⟨.own,fr,dd⟩)) b->Bs T σ ρ b:=fun b z=>z.imp (fun⟨j,h⟩=>⟨j,fwd j b h⟩) id;have Ba:Bs T σ ρ a:=.inl ⟨i,oi⟩;have kp:∀ b o,H b=some o->¬ Bs T σ ρ b->upd H a o' b=some o:=fun b o q n=>by rw[aK (fun z=>n (by rw[z];exact Ba))];exact q
 refine⟨⟨⟨by rw[Bf];exact d.e.len,fun b o q=>?_,fun b z=>?_,fun j e' he'=>?_⟩,fun b z=>d.sep b (let ⟨j,h⟩:=z;⟨j,fwd j b h⟩),fun j k b h1 h2=>d.dis j k b (fwd j b h1) (fwd k b h2)⟩,fun b o q n=>?_,fun b z=>.inl (let ⟨j,h⟩:=z;⟨j,fwd j b h⟩)⟩
 · rw[aK (bF q h0)];exact d.e.sam b o q
 · by_cases hb:b=a
   · subst hb;exact⟨_,bC,r.stab⟩
   · obtain⟨o,w,n⟩:=d.e.bnd b (subB b z);exact⟨o,by rw[aK hb];exact w,n⟩
 · by_cases hj:i=j
   · subst hj
     rw[Am hi]at he';cases he';exact⟨.ref a,hσ,a,o',rfl,.inl ⟨i,bwd i a oi⟩,h0,bC,r.same (aV kp fun b z=>.inl (subB b z))⟩
   · rw[Ah hj]at he'
     obtain⟨w,q1,q2⟩:=d.e.ent j e' he';refine⟨w,q1,q2.to d.e.sam kp (fun b o q _ k1 k2=>?_) fun b z=>.inl (subB b z)⟩
     have oj:fA σ ρ j b:=⟨by rw[q1,k2],e',he',k1⟩
     refine⟨?_,.inl ⟨j,bwd j b oj⟩⟩
     rw[aK (fun z=>hj (d.dis i j a oi (by rw[z]at oj;exact oj)))]
     exact q
 · rw[aK (fun z=>n (by rw[z];exact⟨i,oi⟩))];exact q
theorem DenS.write {i:Nat}{a:Addr}{e:Res}{vs:List V}{ds:List D}{fr:Bool}(d:DenS K H0 H T σ ρ)(hσ:σ[i]?=some (some (.ref a)))(he:ρ[i]?=some (some e))(hk:e.k=.own)(h0:H0 a=none)(r:aJ K (aZ fr H0 H (Bs T σ ρ)) ds vs) :
 DenS K H0 (upd H a (.lst vs)) T σ (ρ.set i (some ⟨.own,fr,.lst ds⟩))/\Ext H σ ρ (upd H a (.lst vs)) σ (ρ.set i (some ⟨.own,fr,.lst ds⟩)):=d.writeO hσ he hk h0 (.lst r)
theorem aBb {i:Nat}{y:Bool×List D}(h:rT i ρ=.ok y):ρ[i]?=some (some ⟨.own,y.1,.lst y.2⟩):=by
 unfold rT at h;split at h
 · rename_i e;cases h;exact e
 · cases h
theorem DenS.own {i:Nat}{fr:Bool}{ds:List D}(d:DenS K H0 H T σ ρ)(he:ρ[i]?=some (some ⟨.own,fr,.lst ds⟩)):∃ a vs,σ[i]?=some (some (.ref a))/\H0 a=none/\H a=some (.lst vs)/\aJ K (aZ fr H0 H (Bs T σ ρ)) ds vs:=by
 obtain⟨v,q1,a,o,h1,h2,h3,h4,vs,h5,h6⟩:=d.e.ent i _ he;subst h1;subst h5;exact⟨a,vs,q1,h3,h4,h6⟩
theorem DenS.ownD {i:Nat}{fr:Bool}{ks:List (List Int)}{ds:List D}(d:DenS K H0 H T σ ρ)(he:ρ[i]?=some (some ⟨.own,fr,.dct ks ds⟩)):∃ a kvs,σ[i]?=some (some (.ref a))/\H0 a=none/\H a=some (.dT kvs)/\cJ ks kvs/\aJ K (aZ fr H0 H (Bs T σ ρ)) ds (kvs.map (·.2)):=by
 obtain⟨v,q1,a,o,h1,h2,h3,h4,kvs,h5,h6,h7⟩:=d.e.ent i _ he;subst h1;subst h5;exact⟨a,kvs,q1,h3,h4,h6,h7⟩
theorem DenS.freeze (d:DenS K H0 H T σ ρ)(i:Nat):DenS K H0 H T σ (frz i ρ)/\Ext H σ ρ H σ (frz i ρ):=by
 unfold frz;split
 · rename_i e he
   have hi:i<ρ.length:=by
    obtain⟨h,_⟩:=Aj.mp he;exact h
   have fwd:∀ j b,fA σ (ρ.set i (some ⟨.shr,e.fr,e.d⟩)) j b->j≠i/\fA σ ρ j b:=fun j b ⟨h1,e',h2,h3⟩=>by
    by_cases hj:i=j
    · subst hj;rw[Am hi]at h2;cases h2;cases h3
    · rw[Ah hj]at h2;exact⟨fun z=>hj z.symm,h1,e',h2,h3⟩
   have subB:∀ b,Bs T σ (ρ.set i (some ⟨.shr,e.fr,e.d⟩)) b->Bs T σ ρ b:=fun b z=>z.imp (fun⟨j,h⟩=>⟨j,(fwd j b h).2⟩) id;refine⟨⟨⟨by rw[Bf];exact d.e.len,d.e.sam,fun b z=>d.e.bnd b (subB b z),fun j e' he'=>?_⟩,fun b z=>d.sep b (let ⟨j,h⟩:=z;⟨j,(fwd j b h).2⟩),fun j k b h1 h2=>d.dis j k b (fwd j b h1).2 (fwd k b h2).2⟩,fun b o q _=>q,fun b z=>.inl (let ⟨j,h⟩:=z;⟨j,(fwd j b h).2⟩)⟩
   by_cases hj:i=j
   · subst hj
     rw[Am hi]at he';cases he';obtain⟨w,q1,q2⟩:=d.e.ent i e he;refine⟨w,q1,?_⟩
     have m:aI (aZ e.fr H0 H (Bs T σ ρ)) (aZ e.fr H0 H (Bs T σ (ρ.set i (some ⟨.shr,e.fr,e.d⟩)))):=aV (fun _ _ q _=>q) fun b z=>.inl (subB b z);unfold mC at q2;cases k:e.k with
     | shr=>rw[k]at q2;exact Rep.same m q2
     | own =>
      rw[k]at q2;obtain⟨a,o,h1,h2,h3,h4,h5⟩:=q2;show Rep K (aZ e.fr H0 H (Bs T σ (ρ.set i (some ⟨.shr,e.fr,e.d⟩)))) e.d w
      rw[h1];refine h5.rep m (aS.mpr ⟨fun z=>?_,h4⟩)
      rcases z with z | ⟨_,o,z,_⟩
      · rcases z with ⟨j,z⟩ | z
        · obtain⟨z1,z2⟩:=fwd j a z
          exact z1 (d.dis j i a z2 ⟨by rw[q1,h1],e,he,k⟩)
        · exact d.sep a ⟨i,by rw[q1,h1],e,he,k⟩ z
      · rw[h3]at z;cases z
     | tmp=>rw[k]at q2;exact q2.elim
     | old =>
      rw[k]at q2;refine Rep.same (fun b o q=>?_) q2.2
      obtain⟨n,q⟩:=aS.mp q;refine aS.mpr ⟨fun z=>?_,d.e.sam b o q⟩
      rcases z with z | ⟨z,_⟩
      · exact n (subB b z)
      · rw[q2.1]at z;cases z
   · rw[Ah hj]at he'
     obtain⟨w,q1,q2⟩:=d.e.ent j e' he';refine⟨w,q1,q2.to d.e.sam (fun _ _ q _=>q) (fun b o q _ k1 k2=>⟨q,.inl ⟨j,by rw[q1,k2],e',by rw[Ah hj];exact he',k1⟩⟩) fun b z=>.inl (subB b z)⟩
 · exact⟨d,Ext.refl⟩
end
end Mir
namespace Mir
open PySem L2
variable {X:Cx}{P:XP}{a b c e:Expr}{es:List Expr}{f g:FE}{fs:FEs}{pos:Pos}
def lD (K:PySem.W.Frag)(H0 H':Hp)(T:Addr->Prop)(v:V)(r:Res):Prop :=
 match r.k with
 | .shr=>Rep K (aZ r.fr H0 H' T) r.d v
 | _=>∃ a o,v=.ref a/\H0 a=none/\H' a=some o/\iY K (aZ r.fr H0 H' fun b=>T b\/b=a) r.d o
def jI (K:PySem.W.Frag)(P:XP)(D:Ends)(H0:Hp)(T:Addr->Prop)(H:Hp)(σ:St)(ρ:Env)(r:RS):Prop :=
 match r with
 | .nx ρ'=>∀ σ' H',DenS K H0 H' T σ' ρ'->Ext H σ ρ H' σ' ρ'->D.nx σ' H'
 | .bk ρ'=>∀ σ' H',DenS K H0 H' T σ' ρ'->Ext H σ ρ H' σ' ρ'->D.bk σ' H'
 | .ct ρ'=>∀ σ' H',DenS K H0 H' T σ' ρ'->Ext H σ ρ H' σ' ρ'->D.ct σ' H'
 | .rt r=>∀ v H',aI H0 H'->lD K H0 H' T v r->D.rt v H'
 | .exc x ρ'=>∀ σ' H',DenS K H0 H' T σ' ρ'->Ext H σ ρ H' σ' ρ'->P.p x σ' H'
 | .stk=>False
def tS (K:PySem.W.Frag)(P:XP)(F:FS):TS:=fun D σ H=>∃ H0 T ρ,DenS K H0 H T σ ρ/\jI K P D H0 T H σ ρ (F ρ)
theorem jI.trans {K:PySem.W.Frag}{D:Ends}{H0 H H1:Hp}{T:Addr->Prop}{σ σ1:St}{ρ ρ1:Env}{r:RS}(x:Ext H σ ρ H1 σ1 ρ1)(h:jI K P D H0 T H σ ρ r):jI K P D H0 T H1 σ1 ρ1 r:=by
 cases r with
 | nx ρ'=>exact fun σ' H' d y=>h σ' H' d (x.trans y)
 | bk ρ'=>exact fun σ' H' d y=>h σ' H' d (x.trans y)
 | ct ρ'=>exact fun σ' H' d y=>h σ' H' d (x.trans y)
 | rt r=>exact h
 | exc z ρ'=>exact fun σ' H' d y=>h σ' H' d (x.trans y)
 | stk=>exact h
theorem PS.imp {st:Stmt}{t t':TS}(p:PS X st t)(h:∀ D σ H,t' D σ H->t D σ H):PS X st t':=fun pins s σ H D I q=>p pins s σ H D I (h D σ H q)
theorem PSs.imp {st:List Stmt}{t t':TS}(p:PSs X st t)(h:∀ D σ H,t' D σ H->t D σ H):PSs X st t':=fun pins s σ H D I q=>p pins s σ H D I (h D σ H q)
variable {st:Stmt}{rest:List Stmt}{F G:FS}
theorem dG:PSs X [] (tS X.K P cI):=PSs.imp aJu fun D σ H ⟨H0,T,ρ,d,h⟩=>h σ H d Ext.refl
theorem aN1 {K:PySem.W.Frag}(D:Ends)(σ:St)(H:Hp)(h:tS K P (aL F G) D σ H):aPi (tS K P F) (tS K P G) D σ H:=by
 obtain⟨H0,T,ρ,d,h⟩:=h;refine⟨H0,T,ρ,d,?_⟩
 unfold aL at h;cases e:F ρ with
 | nx ρ1 =>
  rw[e]at h;exact fun σ1 H1 d1 x1=>⟨H0,T,ρ1,d1,h.trans x1⟩
 | bk ρ'=>rw[e]at h;exact h
 | ct ρ'=>rw[e]at h;exact h
 | rt r=>rw[e]at h;exact h
 | exc z ρ'=>rw[e]at h;exact h
 | stk=>rw[e]at h;exact h
theorem aF (h1:PS X st (tS X.K P F))(h2:PSs X rest (tS X.K P G)):PSs X (st :: rest) (tS X.K P (aL F G)):=PSs.imp (aEm h1 h2) aN1
theorem aU (h1:PS X st (tS X.K P F)):PSs X [st] (tS X.K P F):=aBy h1
theorem aEp {K:PySem.W.Frag}{k:Res->Env->RS}{D:Ends}{σ:St}{H:Hp}{q:VK}(hX:X.K=K)(h:tS K P (fun ρ=>(f ρ).at ρ fun r=>k r ρ) D σ H)
 (hk:∀ H0 T ρ v H' r,DenS K H0 H T σ ρ->DenS K H0 H' T σ ρ->aI H H'->aM K H0 H H' (Bs T σ ρ) v r->jI K P D H0 T H σ ρ (k r ρ)->q v H'):tE K P f σ H q:=by
 subst hX;obtain⟨H0,T,ρ,d,h⟩:=h;cases e:f ρ with
 | stk=>simp only[e,R.at]at h;exact h.elim
 | exc x=>simp only[e,R.at]at h;exact cR d.e e (h σ H d Ext.refl)
 | ok r =>
  simp only[e,R.at]at h;exact eB d.e e fun v H' s d' g'=>hk H0 T ρ v H' r d (d.mono s) s g' h
theorem aAb (he:PE X e (tE X.K P f))(hs:swapsWith e none pos.line X.env=pure false:=by rfl):PS X (.Expr e pos) (tS X.K P (iD f)):=by
 refine PS.imp (uQ he hs) ?_
 intro D σ H h;exact aEp (q:=fun _ H1=>D.nx σ H1) rfl h fun H0 T ρ v H' r d d' s g h=>h σ H' d' (Ext.same s)
theorem aNc {K:PySem.W.Frag}{H0 H H':Hp}{T:Addr->Prop}{σ:St}{ρ:Env}{v:V}{r:Res}(d:DenS K H0 H T σ ρ)(g:aM K H0 H H' (Bs T σ ρ) v r):lD K H0 H' T v ⟨if r.k=.shr then .shr else .tmp,r.fr,r.d⟩:=by
 unfold aM at g;unfold lD;cases k:r.k with
 | shr=>rw[k]at g;exact Rep.same (aV (fun _ _ q _=>q) fun b z=>.inl (.inr z)) g
 | own =>
  rw[k]at g;obtain⟨a,o,h1,h2,h3,h4,h5⟩:=g;exact⟨a,o,h1,h3,h4,h5.same (aV (fun _ _ q _=>q) fun b z=>.inl (z.elim .inr fun z=>by rw[z];exact h2))⟩
 | tmp =>
  rw[k]at g;obtain⟨a,o,h1,h2,h3,h4⟩:=g;exact⟨a,o,h1,d.e.sam.none h2,h3,h4.same (aV (fun _ _ q _=>q) fun b z=>.inl (z.imp .inr id))⟩
 | old=>rw[k]at g;exact g.elim
theorem cM (he:PE X e (tE X.K P f)):PS X (.Return (some e) pos) (tS X.K P (bD f)):=by
 refine PS.imp (aL1 he) ?_
 intro D σ H h;exact aEp (q:=D.rt) (k:=fun r ρ=>.rt ⟨if r.k=.shr then .shr else .tmp,r.fr,r.d⟩) rfl h fun H0 T ρ v H' r d d' s g h=>h v H' d'.e.sam (aNc d g)
theorem yM {K:PySem.W.Frag}{D:Ends}{H0 H H':Hp}{T:Addr->Prop}{σ:St}{ρ:Env}{v:V}{r:Res}{i:Nat}(d:DenS K H0 H T σ ρ)(s:aI H H')(g:aM K H0 H H' (Bs T σ ρ) v r)(h:jI K P D H0 T H σ ρ ((r.keep).at ρ fun e=>.nx (ρ.set i (some e)))) :
 D.nx (σ.set i (some v)) H':=by
 unfold Res.keep at h;unfold aM at g;cases k:r.k with
 | shr =>
  rw[k]at g h;have d':=(d.mono s).set_shr (i:=i) g;refine h _ H' ?_ ⟨fun b o q _=>s b o q,fun b z=>.inl ?_⟩
  · have e:r=⟨.shr,r.fr,r.d⟩:=by rw[←k]
    rw[e];exact d'.1
  · have e:r=⟨.shr,r.fr,r.d⟩:=by rw[←k]
    rw[e]at z;exact d'.2 b z
 | own=>rw[k]at h;exact h.elim
 | old=>rw[k]at h;exact h.elim
 | tmp =>
  rw[k]at g h;obtain⟨a,o,h1,h2,h3,h4⟩:=g;subst h1;have d':=d.set_con (i:=i) s h2 h3 h4;simp only[R.at]at h;exact h _ H' d'.1 d'.2
theorem bQ {i:Nat}{x:Str}{pos':Pos}(hN:X.N.Nodup)(hi:X.N[i]?=some x)(hx:Loc X.env.scope x)(he:PE X e (tE X.K P f))(hs:swapsWith e (some (.Name x pos')) pos.line X.env=pure false:=by rfl)(hf:X.fn x=true\/X.env.scope.names.lookup x=some .local:=by first | exact .inl rfl | exact .inr rfl | assumption) :
 PS X (.Assign [.Name x pos'] e pos) (tS X.K P (aR i f)):=by
 refine PS.imp (aD4 hN hi hx he hs hf) ?_
 intro D σ H h;exact aEp (q:=fun v H1=>D.nx (σ.set i (some v)) H1) (k:=fun r ρ=>(r.keep).at ρ fun e=>.nx (ρ.set i (some e))) rfl h fun H0 T ρ v H' r d d' s g h=>yM d s g h
theorem aF5 {scope:Scope}{N:List Str}{k:Nat}{cs:List Nat}{tg iter elt:Expr}{ifs:List Expr}{t:Tg}{it:FI}{fb:FB}{i:Nat}{y:Str}{py spos:Pos}(hc:X.calm=true)(hN:X.N.Nodup)(hi':X.N[i]?=some y)(hy:X.env.scope.names.lookup y=some .local)
 (C:CompOk X scope N k cs) (hi:PI X tg iter (tI X.K P it)) (hg:∀ fp s H,PG (cQ X scope N fp s H) tg (gOf X.K t)) (gl:sH k (gOf X.K t)) (hb:∀ fp s H,PB (cQ X scope N fp s H) ifs elt (tBm X.K XP0 fb))
 (hsw:swapsWith (.ListComp elt [⟨tg,iter,ifs,0⟩] scope pos) (some (.Name y py)) spos.line X.env=pure true:=by rfl) (hs:∀ x,foldedSetIterable iter X.env x=pure x:=by intro _;rfl) :
 PS X (.Assign [.Name y py] (.ListComp elt [⟨tg,iter,ifs,0⟩] scope pos) spos) (tS X.K P (aR i (bW it k cs t fb))):=by
 refine PS.imp (aJe (i:=i) hc hN hi' hy C hi hg gl hb hsw hs) ?_
 intro D σ H h;have h':=aEp (f:=bW it k cs t fb) (q:=fun v H1=>D.nx (σ.set i (some v)) H1) (k:=fun r ρ=>(r.keep).at ρ fun e=>.nx (ρ.set i (some e))) rfl h fun H0 T ρ v H' r d d' s g h=>yM d s g h;exact aGj σ H _ h'
theorem aRc {t:FT}{D:Ends}{σ:St}{H:Hp}{F G:FS}(h:tS X.K P (ifS t F G) D σ H):tT X.K P t σ H fun b H1=>if b=true then tS X.K P F D σ H1 else tS X.K P G D σ H1:=by
 obtain⟨H0,T,ρ,d,h⟩:=h;unfold ifS at h;refine⟨H0,_,ρ,d.e,?_⟩
 cases e:t ρ with
 | stk=>simp only[e,R.at]at h;exact h.elim
 | exc x=>simp only[e,R.at]at h;exact h σ H d Ext.refl
 | ok k =>
  simp only[e,R.at]at h;intro H1 s1;cases k with
  | true=>exact aMw ⟨H0,T,ρ,d.mono s1,jI.trans (Ext.same s1) h⟩
  | false=>exact aKx ⟨H0,T,ρ,d.mono s1,jI.trans (Ext.same s1) h⟩
theorem eQ {t:FT}{sa sb:List Stmt}(hc:PT X c (tT X.K P t))(ha:PSs X sa (tS X.K P F))(hb:PSs X sb (tS X.K P G)):PS X (.If c sa sb pos) (tS X.K P (ifS t F G)):=by
 refine PS.imp (aOt hc ha hb) ?_
 intro D σ H h;exact aRc h
theorem wX {i:Nat}(h:PS X st (tS X.K P F)):PS X st (tS X.K P (mO i F)):=by
 refine PS.imp h ?_
 rintro D σ H ⟨H0,T,ρ,d,h⟩
 obtain⟨d',x⟩:=d.freeze i;exact⟨H0,T,frz i ρ,d',jI.trans x h⟩
theorem sY {i:Nat}{x:Str}{p ap cp:Pos}(hN:X.N[i]?=some x)(hv:Vis X.env.scope x)(he:PE X e (tE X.K P f))(hd:(x==("__debug__":Str))=false:=by decide)(hcd:(x==("__classdict__":Str))=false:=by decide)
 (h1:starEach [e] X.env=[(false,eval e X.env)]:=by rfl) (hbase:attributeBase (.Name x p) "append" X.env (eval (.Name x p) X.env)=eval (.Name x p) X.env:=by rfl)
 (hfew:((backTo cp (starEach [e] X.env)).all (fun x=>!x.1)&&(backToKw cp (keywordEach [] X.env)).all (fun x=>x.1.isSome)&&decide ([e].length+([]:List Keyword).length+(if ([]:List Keyword).isEmpty then 0 else 1)<30))=true:=by rfl)
 (hline:(ap.endLine==cp.line)=true:=by rfl)
 (hs:swapsWith (.Call (.Attribute (.Name x p) "append" ap) [e] [] cp) none pos.line X.env=pure false:=by rfl) :
 PS X (.Expr (.Call (.Attribute (.Name x p) "append" ap) [e] [] cp) pos) (tS X.K P (jB i f)):=by
 refine PS.imp (uQ (aJ8 PySem.F.plainAttrs_list PySem.F.slot_list_append PySem.F.type_list_append sP (nM hN hv hd hcd) (fY he lR h1) hbase hfew hline (hs:=h1)) hs) ?_
 rintro D σ H ⟨H0,T,ρ,d,h⟩
 unfold jB at h;cases e3:rT i ρ with
 | stk=>simp only[e3,R.at]at h;exact h.elim
 | exc z=>unfold rT at e3;split at e3<;>cases e3
 | ok y =>
  simp only[e3,R.at]at h;have ho:=aBb e3;obtain⟨a,vs,q1,q2,q3,q4⟩:=d.own ho;refine⟨_,q1,.inl ⟨rfl,vs,SqL.of q3⟩,?_⟩
  cases e1:f ρ with
  | stk=>simp only[e1]at h;exact h.elim
  | exc z=>simp only[e1]at h;exact cR d.e e1 (h σ H d Ext.refl)
  | ok r =>
   simp only[e1]at h;refine eB d.e e1 fun v H' s d' g'=>?_
   cases e2:r.give with
   | stk=>simp only[e2]at h;exact h.elim
   | exc z=>unfold Res.give at e2;split at e2<;>cases e2
   | ok r' =>
    simp only[e2]at h;obtain⟨g1,g2⟩:=g'.give d.e e2;subst g1;by_cases hz:y.2.length<sizeLine
    · rw[if_pos hz]at h
      have dS:=d.mono s;have q4':aJ X.K (aZ y.1 H0 H' (Bs T σ ρ)) y.2 vs:=aJ.same (aV (fun b o q _=>s b o q) fun b z=>.inl z) q4;refine⟨a,vs,v,rfl,rfl,s _ _ q3,by rw[←q4.length];exact hz,?_⟩
      obtain⟨w1,w2⟩:=dS.write (fr:=y.1&&r.fr) (ds:=y.2++[r.d]) (vs:=vs++[v]) q1 ho rfl q2 (q4'.andL.append (aJ.one g2).andR);exact h σ _ w1 ((Ext.same s).trans w2)
    · rw[if_neg hz]at h;exact h.elim
theorem gQ {iter:Expr}{body:List Stmt}{tg:Expr}{t:Tg}{it:FI}(hp:PassesOwn (model X.prog X.w) X.A X.env X.xe)(hc:X.calm=true)(hi:PI X tg iter (tI X.K P it))(hg:PG X tg (gOf X.K t))(hb:PSs X body (tS X.K P F))
 (hs:∀ x,foldedSetIterable iter X.env x=pure x:=by intro _;rfl):PS X (.For tg iter body [] pos) (tS X.K P (cV it t F)):=by
 refine PS.imp (aMm hp hc hi hg hb hs) ?_
 rintro D σ H ⟨H0,T,ρ,d,h⟩
 unfold cV at h;refine⟨H0,_,ρ,d.e,?_⟩
 cases e:it ρ with
 | stk=>simp only[e,R.at]at h;exact h.elim
 | exc z=>simp only[e,R.at]at h;exact h σ H d Ext.refl
 | ok w =>
  simp only[e,R.at]at h;by_cases hst:w.st=true
  · rw[if_pos hst]at h
    intro J H1 s1 hw;obtain⟨A,hA,hwk⟩:=hw;refine⟨fun i m σ' H'=>m=w.ds.length-i/\i<=w.ds.length/\∃ ρi,DenS X.K H0 H' T σ' ρi/\Ext H1 σ ρ H' σ' ρi/\jI X.K P D H0 T H1 σ ρ (fZ t F w.fr (w.ds.drop i) ρi),⟨w.ds.length,rfl,Bz _,ρ,d.mono s1,Ext.refl,jI.trans (Ext.same s1) h⟩,?_⟩
    rintro i m σ' H' ⟨hm,hi',ρi,di,xi,pi⟩
    have wk:=hwk H' (Bs T σ' ρi) (fun a o ha q=>xi.kp a o q fun z=>hA hst a ha (.inl z)) (fun b o q n=>xi.kp b o q fun z=>n (.inl z)) (fun b z=>?_) (fun b z=>let ⟨o,q,_⟩:=di.e.bnd b z;⟨o,q⟩) di.e.sam i
    · by_cases hlt:i<w.ds.length
      · refine .inr ?_
        have hd:w.ds[i]?=some w.ds[i]:=Ao hlt;obtain⟨go,yl⟩:=wk.2 _ hd;refine⟨go,fun σ'' H''=>w.ds.length-(i+1)=w.ds.length-(i+1)/\i+1<=w.ds.length/\∃ ρi,DenS X.K H0 H'' T σ'' ρi/\Ext H1 σ ρ H'' σ'' ρi/\jI X.K P D H0 T H1 σ ρ (fZ t F w.fr (w.ds.drop (i+1)) ρi),fun σ'' H'' q=>⟨_,by omega,q⟩,fun x H3 y3=>?_⟩
        obtain⟨s3,rx⟩:=yl x H3 y3;rw[List.drop_eq_getElem_cons hlt]at pi;simp only[fZ]at pi;cases e1:t.bind w.fr w.ds[i] ρi with
        | stk=>simp only[e1,R.at]at pi;exact pi.elim
        | exc z=>exact(pI _ _ _ e1).elim
        | ok ρ1 =>
         simp only[e1,R.at]at pi;refine oS (G:=aZ w.fr H0 H3 (Bs T σ' ρi)) (fr:=w.fr) (I:=fun σ2 ρ2=>DenS X.K H0 H3 T σ2 ρ2/\∀ a,iW σ2 ρ2 a->iW σ' ρi a) dY (fun σ2 ρ2 j dd v ⟨D2,O2⟩ r=>?_) t _ x σ' ρi ρ1 _ e1 rx ⟨di.mono s3,fun a z=>z⟩ fun σ4 ⟨d4,o4⟩=>?_
         · have:=D2.set_shr (i:=j) (Rep.same (aV (fun _ _ q _=>q) fun b z=>.inl (z.imp (O2 b) id)) r)
           exact⟨this.1,fun a z=>O2 a (this.2 a z)⟩
         · have x4:Ext H1 σ ρ H3 σ4 ρ1:=xi.trans ⟨fun b o q _=>s3 b o q,fun b z=>.inl (o4 b z)⟩
           refine⟨H0,T,ρ1,d4,?_⟩
           cases e2:F ρ1 with
           | stk=>simp only[e2]at pi;exact pi
           | nx ρ2=>simp only[e2]at pi;exact fun σ5 H5 d5 x5=>⟨rfl,hlt,ρ2,d5,x4.trans x5,pi⟩
           | ct ρ2=>simp only[e2]at pi;exact fun σ5 H5 d5 x5=>⟨rfl,hlt,ρ2,d5,x4.trans x5,pi⟩
           | bk ρ2=>simp only[e2]at pi;exact fun σ5 H5 d5 x5=>pi σ5 H5 d5 (x4.trans x5)
           | rt r=>simp only[e2]at pi;exact pi
           | exc z ρ2=>simp only[e2]at pi;exact fun σ5 H5 d5 x5=>pi σ5 H5 d5 (x4.trans x5)
      · refine .inl ⟨wk.1 (by omega),?_⟩
        rw[List.drop_of_length_le (by omega)]at pi
        exact pi σ' H' di xi
    · rcases z with z | z
      · exact(xi.ow b z).imp .inl id
      · exact .inl (.inr z)
  · rw[if_neg hst]at h;exact h.elim
end Mir
namespace Mir
open PySem L2
variable {X:Cx}{P:XP}{a b c e:Expr}{es:List Expr}{f g:FE}{fs:FEs}{pos:Pos}
def spM (K:PySem.W.Frag)(cl:XC->Addr)(φ:Φ):Sp:=fun vs H Q E=>∃ ds B,(∀ b,B b->∃ o,H b=some o/\stab o=false)/\aJ K (cut H B) ds vs/\match φ ds with
 | .ok r=>∀ v H',aI H H'->lD K H H' B v r->Q v H'
 | .exc x=>∀ H',aI H H'->E (.ref (cl x.c)) none H'
 | .stk=>False
def Thr (CX:CXT)(cl:XC->Addr)(X:Cx)(P:XP):Prop:=∀ (pins:List (Addr×Obj)) (σ:St) (H:Hp) (s:Shared) (e:Value) (s':Shared),Inv X pins σ H s->CX X.stack H s (fun c _ H'=>∃ x:Xc,c=.ref (cl x.c)/\P.p x σ H') e s'->X.xe e s'
theorem aJl {CX:CXT}{k:Nat}{fa:Addr}{fd:FuncData}{ps:List Str}{sp:Sp}{E:XK}{pins:List (Addr×Obj)}{σ:St}{H:Hp}{s:Shared}{Q:VK}{us:List Value}{vs:List V}(F:FnOk X.prog X.w X.K X.mg X.base CX k fa fd ps sp)(hr:Room k X.A)(hb:tF X.K fd ps [])
 (hx:∀ e s',CX X.stack H s E e s'->X.xe e s') (I:Inv X pins σ H s) (r:bH vs us) (h:sp vs H Q E):wpAny (model X.prog X.w) X.A (call (.ref fa) us) (EP X pins σ Q) X.xe s:=by
 have hl:us.length=ps.length:=by rw[←r.length];exact F.len _ _ _ _ h
 have hb':=hb s us I.kIn (by rw[Ce];exact hl)
 rw[Ce]at hb';refine wpAny_call (codeAny_mono (F.run X.A X.stack s H ⟨us,[]⟩ us vs Q E hr I.env0 hb' r h) fun r s' hq=>?_)
 cases r with
 | error e=>exact hx e s' hq
 | ok fl =>
  cases fl with
  | ret u=>exact I.after hq
  | next=>exact False.elim hq
  | brk=>exact False.elim hq
  | cont=>exact False.elim hq
theorem dP.plain {K:PySem.W.Frag}{H0 H H':Hp}{B:Addr->Prop}{σ:St}{ρ:Env}{Z:Addr->Prop}(den:DenE K H0 H B σ ρ):∀ {vs:List V} {rs:List Res},dP K H0 H H' B vs rs->(∀ b,Z b->B b/\V.ref b∉vs)->aJ K (cut H' Z) (rs.map (·.d)) vs
 | [],_,h,_=>by rw[show _=[] from h];rfl
 | v :: vs,_,⟨r,rr,e,g,gs⟩,hz=>by
  subst e;refine⟨v,vs,rfl,?_,dP.plain den gs fun b z=>⟨(hz b z).1,fun q=>(hz b z).2 (Ac _ q)⟩⟩
  have m:∀ fr,aI (aZ fr H0 H' B) (cut H' Z):=fun fr=>eG (fun _ _ q _=>q) fun b z=>.inl (.inl (hz b z).1);unfold aM at g;cases k:r.k with
  | shr=>rw[k]at g;exact Rep.same (m _) g
  | own =>
   rw[k]at g;obtain⟨a,o,h1,h2,h3,h4,h5⟩:=g;subst h1;exact h5.rep (m _) (aS.mpr ⟨fun z=>(hz a z).2 Aa,h4⟩)
  | old=>rw[k]at g;exact g.elim
  | tmp =>
   rw[k]at g;obtain⟨a,o,h1,h2,h3,h4⟩:=g;subst h1;exact h4.rep (eG (fun _ _ q _=>q) fun b z=>.inl (.inl (.inl (hz b z).1))) (aS.mpr ⟨fun z=>(hz a z).2 Aa,h3⟩)
theorem yL:∀ {rs:List Res} {y:Bool×List D},gives rs=.ok y->y.2=rs.map (·.d)
 | [],y,e=>by simp[gives]at e;subst e;rfl
 | r :: rs,y,e=>by
  simp only[gives]at e;cases e2:r.give with
  | stk=>simp[e2]at e
  | exc x=>simp[e2]at e
  | ok r' =>
   cases e3:gives rs with
   | stk=>simp[e2,e3]at e
   | exc x=>simp[e2,e3]at e
   | ok y' =>
    simp only[e2,e3,R.ok_bind]at e;cases e
    have:r'.d=r.d:=by
     unfold Res.give at e2;split at e2
     · cases e2
     · cases e2;rfl
    simp[yL e3,this]
theorem aC1 {cl:XC->Addr}{φ:Φ}{σ:St}{H:Hp}{Q:VK}(h:tE X.K P (aC φ fs) σ H Q):tAs X.K P fs σ H fun vs H1=>spM X.K cl φ vs H1 Q (fun c _ H'=>∃ x:Xc,c=.ref (cl x.c)/\P.p x σ H'):=by
 refine tA1 h ?_
 intro H0 B ρ vs H' rs d0 d gs s h;cases e:φ (rs.map (·.d)) with
 | stk=>simp[e]at h
 | exc x =>
  simp[e]at h
  refine⟨rs.map (·.d),fun _=>False,fun _ z=>z.elim,gs.plain d0 (fun _ z=>z.elim),?_⟩
  rw[e];exact fun H2 s2=>⟨x,rfl,P.mono h s2⟩
 | ok r =>
  simp only[e,R.ok_bind]at h;by_cases hf:r.fr=true
  · rw[if_pos hf]at h
    refine⟨rs.map (·.d),fun b=>B b/\V.ref b∉vs,fun b z=>d.bnd b z.1,gs.plain d0 (fun _ z=>z),?_⟩
    rw[e];intro v H2 s2 ro;refine h v H2 s2 ?_
    have ban:∀ b o,H2 b=some o->¬ Ban true H' (fun b=>B b/\V.ref b∉vs) b->¬ Ban true H0 B b:=fun b o q n z=>by
     rcases z with z | ⟨_,o',z1,z2⟩
     · obtain⟨o',z1,z2⟩:=d.bnd b z
       exact n (.inr ⟨rfl,o',z1,z2⟩)
     · exact n (.inr ⟨rfl,o',d.sam _ _ z1,z2⟩)
    unfold lD at ro;unfold aM;cases k:r.k with
    | shr =>
     rw[k]at ro;simp only[if_true];rw[hf]at ro;exact Rep.same (fun b o q=>let ⟨q1,q2⟩:=aS.mp q;aS.mpr ⟨ban b o q2 q1,q2⟩) ro
    | own =>
     rw[k]at ro;obtain⟨a,o',h1,h2,h3,h5⟩:=ro;rw[hf]at h5;refine⟨a,o',h1,s.none h2,h3,h5.same (fun b o q=>?_)⟩
     obtain⟨q1,q2⟩:=aS.mp q;refine aS.mpr ⟨fun z=>?_,q2⟩
     rcases z with (z | z) | z
     · exact ban b o q2 (fun w=>q1 (w.imp .inl id)) (.inl z)
     · exact q1 (.inl (.inr z))
     · exact ban b o q2 (fun w=>q1 (w.imp .inl id)) (.inr z)
    | old =>
     rw[k]at ro;obtain⟨a,o',h1,h2,h3,h5⟩:=ro;rw[hf]at h5;refine⟨a,o',h1,s.none h2,h3,h5.same (fun b o q=>?_)⟩
     obtain⟨q1,q2⟩:=aS.mp q;refine aS.mpr ⟨fun z=>?_,q2⟩
     rcases z with (z | z) | z
     · exact ban b o q2 (fun w=>q1 (w.imp .inl id)) (.inl z)
     · exact q1 (.inl (.inr z))
     · exact ban b o q2 (fun w=>q1 (w.imp .inl id)) (.inr z)
    | tmp =>
     rw[k]at ro;obtain⟨a,o',h1,h2,h3,h5⟩:=ro;rw[hf]at h5;refine⟨a,o',h1,s.none h2,h3,h5.same (fun b o q=>?_)⟩
     obtain⟨q1,q2⟩:=aS.mp q;refine aS.mpr ⟨fun z=>?_,q2⟩
     rcases z with (z | z) | z
     · exact ban b o q2 (fun w=>q1 (w.imp .inl id)) (.inl z)
     · exact q1 (.inl (.inr z))
     · exact ban b o q2 (fun w=>q1 (w.imp .inl id)) (.inr z)
  · rw[if_neg hf]at h
    have hf':r.fr=false:=by cases q:r.fr with | true=>exact absurd q hf | false=>rfl
    cases e2:gives rs with
    | stk=>simp[e2]at h
    | exc x=>exact(kT e2).elim
    | ok y =>
     simp only[e2,R.ok_bind]at h;have re:=gs.gives d0 e2;rw[yL e2]at re;refine⟨rs.map (·.d),Ban y.1 H0 B,fun b z=>?_,re,?_⟩
     · rcases z with z | ⟨_,o,z1,z2⟩
       · exact d.bnd b z
       · exact⟨o,d.sam _ _ z1,z2⟩
     · rw[e]
       intro v H2 s2 ro;refine h v H2 s2 ?_
       unfold lD at ro;unfold aM;cases k:r.k with
       | shr =>
        rw[k,hf']at ro;simp only[if_true];exact Rep.same (eG (fun _ _ q _=>q) fun b z=>.inl (.inl z)) ro
       | own =>
        rw[k,hf']at ro;obtain⟨a,o',h1,h2,h3,h5⟩:=ro;refine⟨a,o',h1,s.none h2,h3,h5.same (eG (fun _ _ q _=>q) fun b z=>.inl (.inl ?_))⟩
        rcases z with (z | z) | z
        · exact .inl (.inl z)
        · exact .inr z
        · exact .inl (.inr z)
       | old =>
        rw[k,hf']at ro;obtain⟨a,o',h1,h2,h3,h5⟩:=ro;refine⟨a,o',h1,s.none h2,h3,h5.same (eG (fun _ _ q _=>q) fun b z=>.inl (.inl ?_))⟩
        rcases z with (z | z) | z
        · exact .inl (.inl z)
        · exact .inr z
        · exact .inl (.inr z)
       | tmp =>
        rw[k,hf']at ro;obtain⟨a,o',h1,h2,h3,h5⟩:=ro;refine⟨a,o',h1,s.none h2,h3,h5.same (eG (fun _ _ q _=>q) fun b z=>.inl (.inl ?_))⟩
        rcases z with (z | z) | z
        · exact .inl (.inl z)
        · exact .inr z
        · exact .inl (.inr z)
variable {x:Str}{p:Pos}{ps:List Str}{k:Nat}{CX:CXT}{cl:XC->Addr}{φ:Φ}
theorem bJ (cc:aO X.prog X.w X.K X.mg X.base CX k x ps (spM X.K cl φ))(hr:Room k X.A)(hg:Gl X x)(ht:Thr CX cl X P)(ha:PA X (e :: es) (tAs X.K P fs))
 (hdb:(x==("__debug__":Str))=false:=by decide) (he:starEach (e :: es) X.env=(false,eval e X.env) :: starEach es X.env:=by rfl) (hpl:(backTo pos (starEach es X.env)).any (·.1)=false:=by rfl) :
 PE X (.Call (.Name x p) (e :: es) [] pos) (tE X.K P (aC φ fs)):=by
 obtain⟨fa,fd,F,m,kp,b⟩:=cc;intro pins s σ H Q I h;refine wpAny_Call_Name_kw (oP I hg m ?_ hdb)
 refine PySem.W.callWith_K (h₀:=X.base) I.ok.mod.kin kp (thn (ha pos pins s σ H _ I (aC1 (cl:=cl) h)) fun us s1 ⟨vs,H1,I1,r,q⟩=>⟨I1.kIn,?_⟩) he hpl
 exact aJl F hr b (fun e s' hq=>ht pins σ H1 s1 e s' I1 hq) I1 r q
theorem DenS.start {K:PySem.W.Frag}{H:Hp}{B:Addr->Prop}{vs:List V}{ds:List D}{N:List Str}(hB:∀ b,B b->∃ o,H b=some o/\stab o=false)(r:aJ K (cut H B) ds vs):DenS K H H B (L2.start N vs) (stE N.length ds):=by
 have no:∀ i a,¬ fA (L2.start N vs) (stE N.length ds) i a:=fun i a ⟨_,e,h2,h3⟩=>by
  unfold stE at h2;by_cases hi:i<ds.length
  · rw[Bv (by simpa using hi),As]at h2
    cases q:ds[i]? with
    | none=>rw[q]at h2;cases h2
    | some d=>rw[q]at h2;cases h2;cases h3
  · rw[Bt (by simpa using hi),Dl]at h2
    split at h2<;>cases h2
 refine⟨⟨?_,aI.refl H,fun b z=>?_,fun i e he=>?_⟩,fun a ⟨i,z⟩=>(no i a z).elim,fun i j a z _=>(no i a z).elim⟩
 · unfold stE L2.start
   simp[r.length]
 · rcases z with ⟨i,z⟩ | z
   · exact(no i b z).elim
   · exact hB b z
 · unfold stE at he
   by_cases hi:i<ds.length
   · rw[Bv (by simpa using hi),As]at he
     cases q:ds[i]? with
     | none=>rw[q]at he;cases he
     | some d =>
      rw[q]at he;cases he;obtain⟨v,q1,q2⟩:=r.get q;refine⟨v,?_,?_⟩
      · unfold L2.start
        have:i<vs.length:=by rw[←r.length];exact hi
        rw[Bv (by simpa using this),As,q1]
        rfl
      · refine Rep.same (eG (fun _ _ q _=>q) fun b z=>.inl ?_) q2
        rcases z with (⟨j,z⟩ | z) | ⟨z,_⟩
        · exact(no j b z).elim
        · exact z
        · cases z
   · rw[Bt (by simpa using hi),Dl]at he
     split at he<;>cases he
theorem lD.fr {K:PySem.W.Frag}{H0 H':Hp}{T:Addr->Prop}{v:V}{r:Res}(s:aI H0 H')(h:lD K H0 H' T v r):lD K H0 H' T v ⟨r.k,r.fr||r.d.imm,r.d⟩:=by
 unfold lD at h ⊢;cases k:r.k with
 | shr=>rw[k]at h;exact Rep.fr s h
 | own =>
  rw[k]at h;obtain⟨a,o,h1,h2,h3,h4⟩:=h;refine⟨a,o,h1,h2,h3,?_⟩
  rw[h4.imm,Fj];exact h4
 | old =>
  rw[k]at h;obtain⟨a,o,h1,h2,h3,h4⟩:=h;refine⟨a,o,h1,h2,h3,?_⟩
  rw[h4.imm,Fj];exact h4
 | tmp =>
  rw[k]at h;obtain⟨a,o,h1,h2,h3,h4⟩:=h;refine⟨a,o,h1,h2,h3,?_⟩
  rw[h4.imm,Fj];exact h4
section
variable {Pg:Program}{w:World}{K:PySem.W.Frag}{mg:Str->Option Value}{base:Heap}
theorem aHg {φ:Φ}{n:Nat}(h:∀ ds,ds.length≠n->φ ds=.stk):∀ vs H Q E,spM K cl φ vs H Q E->vs.length=n:=fun vs H Q E ⟨ds,B,_,r,q⟩=>by
 rw[←r.length];by_cases e:ds.length=n
 · exact e
 · rw[h ds e]at q;exact q.elim
end
end Mir
namespace Mir
open PySem L2
variable {X:Cx}{P:XP}{a b c e:Expr}{es:List Expr}{f g:FE}{fs:FEs}{pos:Pos}
theorem bV {i:Nat}{x:Str}(hN:X.N.Nodup)(hi:X.N[i]?=some x)(hx:Loc X.env.scope x)(hf:X.fn x=true\/X.env.scope.names.lookup x=some .local:=by first | exact .inl rfl | exact .inr rfl | assumption):PG X (.Name x pos) (gOf X.K (.nm i)):=by
 unfold gOf;exact aI1 hN hi hx hf
theorem eM:PGs X [] (kD X.K []):=by
 unfold kD;exact aJf
theorem bK {t:Tg}{ts:List Tg}(h1:PG X e (gOf X.K t))(h2:PGs X es (kD X.K ts))(hs:(assignEach (e :: es) X.env).map (·.2)=assign e X.env :: (assignEach es X.env).map (·.2):=by rfl):PGs X (e :: es) (kD X.K (t :: ts)):=by
 unfold kD;exact aD6 h1 h2 hs
theorem jJ {ts:List Tg}{k:Nat}(hc:X.calm=true)(h:PGs X es (kD X.K ts))(hn:(assignEach es X.env).length=ts.length:=by rfl)(hst:(assignEach es X.env).findIdx? (·.1)=none:=by rfl):PG X (.Tuple es k pos) (gOf X.K (.tp ts)):=by
 unfold gOf;exact aMv hc h hn hst
mutual
def Tg.inK (k:Nat):Tg->Bool
 | .nm i=>decide (i<k)
 | .tp ts=>Tg.inKs k ts
def Tg.inKs (k:Nat):List Tg->Bool
 | []=>true
 | t :: ts=>t.inK k&&Tg.inKs k ts
end
mutual
theorem aKb {K:PySem.W.Frag}:∀ t:Tg,wU (gOf K t)
 | .nm i=>by unfold gOf;exact aCt
 | .tp ts=>by unfold gOf;exact aFy (zR ts)
theorem zR {K:PySem.W.Frag}:∀ ts:List Tg,nN (kD K ts)
 | []=>by unfold kD;exact aDa
 | t :: ts=>by unfold kD;exact zK (aKb t) (zR ts)
end
mutual
theorem oI {K:PySem.W.Frag}{k:Nat}:∀ {t:Tg},t.inK k=true->sH k (gOf K t)
 | .nm i,h=>by unfold gOf;exact aGr (by simpa[Tg.inK] using h)
 | .tp ts,h=>by unfold gOf;exact aIc (aKh (by simpa[Tg.inK] using h))
theorem aKh {K:PySem.W.Frag}{k:Nat}:∀ {ts:List Tg},Tg.inKs k ts=true->xE k (kD K ts)
 | [],_=>by unfold kD;exact aFp
 | t :: ts,h=>by
  have h':t.inK k=true/\Tg.inKs k ts=true:=by simpa[Tg.inKs] using h
  unfold kD;exact aB4 (aKb t) (zR ts) (oI h'.1) (aKh h'.2)
end
def cH:List D->R (List Int)
 | []=>.ok []
 | d :: r=>do
  let i ← asI d
  let l ← cH r
  .ok (i :: l)
theorem dA {x:Xc}:∀ {ds:List D},cH ds=.exc x->False
 | [],h=>by simp[cH]at h
 | d :: r,h=>by
  simp only[cH]at h;cases e:asI d with
  | stk=>simp[e]at h
  | exc y=>exact cZ e
  | ok i =>
   cases e2:cH r with
   | stk=>simp[e,e2]at h
   | exc y=>exact dA e2
   | ok l=>simp[e,e2]at h
theorem aJ.ints {K:PySem.W.Frag}{G:Hp}:∀ {ds:List D} {vs:List V} {l:List Int},cH ds=.ok l->aJ K G ds vs->vs=l.map V.int
 | [],vs,l,h,r=>by simp[cH]at h;subst h;exact r
 | d :: r,vs,l,h,⟨x,xr,h1,h2,h3⟩=>by
  simp only[cH]at h;cases e:asI d with
  | stk=>simp[e]at h
  | exc y=>simp[e]at h
  | ok i =>
   cases e2:cH r with
   | stk=>simp[e,e2]at h
   | exc y=>simp[e,e2]at h
   | ok l' =>
    simp[e,e2]at h
    subst h;rw[dJ e]at h2;rw[h1,aJ.ints e2 h3,show x=.int i from h2]
    rfl
variable {p:Pos}
inductive Ty where
 | int | bool | list | tuple | str
 deriving DecidableEq
def Ty.nm:Ty->String
 | .int=>"int"
 | .bool=>"bool"
 | .list=>"list"
 | .tuple=>"tuple"
 | .str=>"str"
def wZ:Ty->D->R Bool
 | .int,.int _=>.ok true
 | .int,.bl _=>.ok true
 | .bool,.bl _=>.ok true
 | .list,.lst _=>.ok true
 | .tuple,.tup _=>.ok true
 | .str,.str _=>.ok true
 | _,.obj _ _=>.stk
 | _,.exc _ _=>.stk
 | _,.any=>.stk
 | _,.dct _ _=>.stk
 | _,_=>.ok false
def eE (t:Ty)(a:FE):FE:=fun ρ=>do
 let x ← a ρ
 let b ← wZ t x.d
 .ok (sc (.bl b))
def tyD:D->String
 | .non=>"NoneType"
 | .bl _=>"bool"
 | .int _=>"int"
 | .str _=>"str"
 | .lst _=>"list"
 | .tup _=>"tuple"
 | _=>""
theorem aHr {K:PySem.W.Frag}{H:Hp}{a:Addr}{xs:List V}(h:Rd H a (.lst xs)):TyOf K H (.ref a) (.type "list"):=by
 rcases h with h | ⟨o,h⟩
 · exact .lst h
 · exact .frz h
theorem aM.ty {K:PySem.W.Frag}{H0 H H':Hp}{B:Addr->Prop}{v:V}{r:Res}(g:aM K H0 H H' B v r)(h1:∀ c ds,r.d≠.obj c ds)(h2:∀ c ds,r.d≠.exc c ds)(h3:r.d≠.any)(h4:∀ c ds,r.d≠.dct c ds):TyOf K H' v (.type (tyD r.d)):=by
 cases k:r.d with
 | lst ds=>obtain⟨a,xs,q1,q2,q3⟩:=g.list k;rw[q1];exact aHr q2
 | non=>have:=g.shr_of (by rw[k];rfl);rw[k]at this;rw[show v=.non from this];exact .non
 | bl b=>have:=g.shr_of (by rw[k];rfl);rw[k]at this;rw[show v=.bl b from this];exact .bl b
 | int b=>have:=g.shr_of (by rw[k];rfl);rw[k]at this;rw[show v=.int b from this];exact .int b
 | str b=>have:=g.shr_of (by rw[k];rfl);rw[k]at this;rw[show v=.str b from this];exact .str b
 | tup ds =>
  obtain⟨a,xs,q1,q2,q3⟩:=g.tuple k;rw[q1];exact .tup q2
 | obj c b=>exact absurd k (h1 _ _)
 | exc c b=>exact absurd k (h2 _ _)
 | any=>exact absurd k h3
 | dct c b=>exact absurd k (h4 _ _)
theorem aDv {t:Ty}{d:D}{x:Xc}(h:wZ t d=.exc x):False:=by
 cases t<;>cases d<;>simp[wZ]at h
theorem mS {t:Ty}{d:D}{b:Bool}(h:wZ t d=.ok b):(∀ c ds,d≠.obj c ds)/\(∀ c ds,d≠.exc c ds)/\d≠.any/\∀ c ds,d≠.dct c ds:=by
 cases t<;>cases d<;>simp[wZ]at h<;>exact⟨fun _ _ z=>(by cases z),fun _ _ z=>(by cases z),fun z=>(by cases z),fun _ _ z=>(by cases z)⟩
theorem aLc {K:PySem.W.Frag}{t:Ty}{d:D}{b:Bool}(h:wZ t d=.ok b):Bi K (.type (tyD d)) (.type t.nm)=some b:=by
 cases t<;>cases d<;>simp[wZ]at h<;>subst h<;>rfl
theorem nX {t:Ty}{y:Str}{p2:Pos}(hg:Gl X "isinstance")(hm:X.mg "isinstance" = none)(ha:PE X a (tE X.K P f))(hb:PE X (.Name y p2) (tC (.ty t.nm)))(he:starEach [a,.Name y p2] X.env=[(false,eval a X.env),(false,eval (.Name y p2) X.env)]:=by rfl)
 (he2:starEach [.Name y p2] X.env=[(false,eval (.Name y p2) X.env)]:=by rfl):PE X (.Call (.Name "isinstance" p) [a,.Name y p2] [] pos) (tE X.K P (eE t f)):=by
 refine PE.imp (fP aDq hg hm (by decide +kernel) (fY ha (fY hb lR he2) (by rw[he,he2])) (he:=by rw[he,he2]) (hpl:=by rw[he2];rfl)) ?_
 intro σ H Q h;refine t1 (q:=fun v H1=>∃ x t' n b,[v,V.ty t.nm]=[x,.ty n]/\TyOf X.K H1 x t'/\Bi X.K t' (.type n)=some b/\Q (.bl b) H1) h ?_
 intro H0 B ρ v H' r d g s h;cases e:wZ t r.d with
 | stk=>simp[e]at h
 | exc x=>exact(aDv e).elim
 | ok b =>
  simp only[e,R.ok_bind]at h;exact⟨v,_,t.nm,b,rfl,g.ty (mS e).1 (mS e).2.1 (mS e).2.2.1 (mS e).2.2.2,aLc e,h _ H' (aI.refl _) (aM.sc (show Rep _ _ (.bl _) _ from rfl))⟩
end Mir
namespace Mir
open PySem L2
variable {X:Cx}{P:XP}{pins:List (Addr×Obj)}{σ:St}{H H':Hp}{s s':Shared}{ea C:Addr}
theorem bN.there {Pg:Program}{w:World}{H:Hp}{h:Heap}{a:Addr}{o:HO}(x:bN Pg w H h a o):∃ ob,h.get? a=some ob:=by
 cases o with
 | lst xs=>obtain⟨_,_,_,_,e⟩:=x;exact⟨_,e⟩
 | tup xs=>obtain⟨_,_,_,p⟩:=x;obtain⟨o,e,_⟩:=p;exact⟨o,e⟩
 | dK kvs=>obtain⟨_,_,_,_,o,_,_,e,_⟩:=x;exact⟨o,e⟩
 | dT kvs=>obtain⟨_,_,_,_,o,_,_,e,_⟩:=x;exact⟨o,e⟩
 | set S n=>obtain⟨o,_,_,_,e,_⟩:=x;exact⟨o,e⟩
 | ins C dx fs=>obtain⟨_,_,_,e,_⟩:=x;exact⟨_,e⟩
 | own y=>exact x
 | xd fs=>obtain⟨_,⟨o,_,_,e,_⟩,_⟩:=x;exact⟨o,e⟩
 | rng lo hi=>obtain⟨_,_,_,e⟩:=x;exact⟨_,e⟩
 | frz ob u=>obtain⟨e,_⟩:=x;exact⟨_,e⟩
 | tbl ps=>exact⟨_,x⟩
 | met f y=>exact⟨_,x⟩
 | ext φ=>obtain⟨_,e,_⟩:=x;exact e
structure Fly (Pg:Program)(w:World)(l:List PySem.Env)(H:Hp)(s:Shared)(ea C:Addr)(H':Hp)(s':Shared):Prop where
 os:s'.os=s.os
 bare:PyProof.Rows.AllBare s'.gens
 hok:HOk Pg w H' s'.heap
 un:Un (frs l) [] H H' s.heap s'.heap
 new:s.heap.get? ea=none
 unt:H' ea=none
 fly:∃ a0 Bh,Heap.FlyingW Bh l ea (.ref C) a0 s'.heap/\(∀ b o o',s.heap.get? b=some o->b∉frs l->s'.heap.get? b=some o'->Bh.get? b=some o')/\(∀ b u o',H' b=some u->s'.heap.get? b=some o'->Bh.get? b=some o')
def CXM (Pg:Program)(w:World):CXT:=fun outer H s E e s'=>∃ ea C H',e=.ref ea/\Fly Pg w outer H s ea C H' s'/\E (.ref C) none H'
theorem uJ {Pg:Program}{w:World}{h h' Bh:Heap}(x:HOk Pg w H h)(k:∀ b u o',H b=some u->h.get? b=some o'->Bh.get? b=some o')(st:Bh.StaysIn h'):HOk Pg w H h':=fun a o e =>
 (x a o e).stay (fun b u hb q=>by
  rcases hb with hb | hb
  · exact st _ _ (k b o u (by rw[hb];exact e) q)
  · exact st _ _ (k b _ u hb q)) (fun _ q=>q) fun _ _ q=>q
theorem zE {Pg:Program}{w:World}{fs:List Addr}{H0:Hp}{h0 h h' Bh:Heap}(u:Un fs [] H0 H h0 h)(ok:HOk Pg w H h)(hk:∀ b o o',h0.get? b=some o->b∉fs->h.get? b=some o'->Bh.get? b=some o')(ht:∀ b u o',H b=some u->h.get? b=some o'->Bh.get? b=some o')(st:Bh.StaysIn h')
 (sl:∀ b o,b∈fs->h.get? b=some o->∃ s,h'.get? b=some { o with slots:=s }):Un fs [] H0 H h0 h':=by
 refine⟨fun b o q n hb hx=>st _ _ (hk b o o q hb (u.keep b o q n hb hx)),fun b o q n hb hx=>?_,u.free,fun b o q hx=>?_,u.tups,u.frzs,u.tbls⟩
 · obtain⟨s1,e1⟩:=u.slot b o q n hb hx
   obtain⟨s2,e2⟩:=sl b _ hb e1;exact⟨s2,e2⟩
 · obtain⟨o',e⟩:=u.there b o q hx
   by_cases hb:b∈fs
   · obtain⟨s2,e2⟩:=sl b _ hb e
     exact⟨_,e2⟩
   · exact⟨o',st _ _ (hk b o o' q hb e)⟩
theorem lZ {env:PySem.Env}{l:List PySem.Env}{L:Addr}(h:env.frame=some L):frs (env :: l)=L :: frs l:=by unfold frs;rw[Dy,h]
theorem aHf {M:Model}{E:Value->Shared->Prop}{Q:Unit->Shared->Prop}(I:Inv X pins σ H s)(hx:X.ex=[])(hst:X.stack=X.env :: X.outer)(hf:X.env.frame=some X.env.locals)(F:Fly X.prog X.w X.stack H s ea C H' s')
 (hQ:∀ h',Fly X.prog X.w X.outer X.H₀ X.s₀ ea C H' { s' with heap:=h' }->Q () { s' with heap:=h' }):wpAny M X.A (leaving X.env (.ref ea)) Q E s':=by
 obtain⟨a0,Bh,fl,cov,trk⟩:=F.fly;have I':Inv X pins σ H' s':=I.call' (ch:=[]) F.os F.un F.hok F.bare (fun b z=>absurd z (by simp))
 rw[hst]at fl;refine wpAny_leaves_onW (by rw[I.ok.frames,hst]) hf fl fun h' x1 x2=>hQ h' ?_
 have ne:∀ b o,X.s₀.heap.get? b=some o->b≠X.env.locals:=fun b o e=>Ax (Al (Ae e) I.ok.above)
 have cov':∀ b o o',X.s₀.heap.get? b=some o->b∉frs X.outer->s'.heap.get? b=some o'->Bh.get? b=some o':=fun b o o' e n q=>by
  obtain⟨o1,e1⟩:=I.base.there b o e (by rw[hx];simp)
  refine cov b o1 o' e1 ?_ q
  rw[hst,lZ hf];simp only[Ai,not_or];exact⟨ne b o e,n⟩
 have base:Un (frs X.outer) [] X.H₀ H' X.s₀.heap s'.heap:=by
  have:=I'.base
  rw[hx]at this;exact this
 refine⟨F.os.trans I.os,F.bare,uJ F.hok trk x1.1,zE base F.hok cov' trk x1.1 (fun b o hb q=>?_),?_,F.unt,a0,Bh,x1,fun b o o' e n q=>?_,fun b u o' e q=>?_⟩
 · obtain⟨_,o1,e1,nf⟩:=fl.2.2.1.mem (b:=b) (by have:=lZ (l:=X.outer) hf;unfold frs at this;rw[this];exact Ac _ hb)
   rw[q]at e1;cases e1;exact x2 b o q nf
 · cases q:X.s₀.heap.get? ea with
   | none=>rfl
   | some o =>
    obtain⟨o1,e1⟩:=I.base.there ea o q (by rw[hx];simp)
    rw[F.new]at e1;cases e1
 · obtain⟨o1,e1⟩:=base.there b o e (by simp)
   have q1:=cov' b o o1 e n e1;have:=x1.1 _ _ q1
   rw[show ({ s' with heap:=h' }:Shared).heap.get? b=some o' from q]at this
   cases this;exact q1
 · obtain⟨o1,e1⟩:=bN.there (F.hok b u e)
   have q1:=trk b u o1 e e1;have:=x1.1 _ _ q1
   rw[show ({ s' with heap:=h' }:Shared).heap.get? b=some o' from q]at this
   cases this;exact q1
theorem aEw {M:Model}{E:Value->Shared->Prop}{Q:Unit->Shared->Prop}{args:List Value}{h1:Heap}(I:Inv X pins σ H s)(hx:X.ex=[])(hst:X.stack=X.env :: X.outer)(hf:X.env.frame=some X.env.locals)(m:Heap.MadeExcOf s.heap h1 ea (.ref C) args)
 (hQ:∀ h',Fly X.prog X.w X.outer X.H₀ X.s₀ ea C H { s with heap:=h' }->Q () { s with heap:=h' }):wpAny M X.A (leaving X.env (.ref ea)) Q E { s with heap:=h1 }:=by
 have fr:=I.stack;have nl:∀ b,b∈frs X.stack->b∈frs X.stack:=fun b h=>h;refine wpAny_leaves_madeW (base:=Es s.heap (frs X.stack)) (h:=s.heap) (by rw[I.ok.frames,hst]) hf (fun b o q=>PySem.W.of_hideAll _ q) ?_ m fun h' t x1 x2 x3 x4=>hQ h' ?_
 · rw[←hst]
   exact PySem.W.funFrames_hide fr fun env he a ha=>Fb.mpr ⟨env,he,ha⟩
 · have ne:∀ b o,X.s₀.heap.get? b=some o->b≠X.env.locals:=fun b o e=>Ax (Al (Ae e) I.ok.above)
   have hid:∀ b o,s.heap.get? b=some o->b∉frs X.stack->(Es s.heap (frs X.stack)).get? b=some o:=fun b o q n=>PySem.W.hideAll_get _ q n
   have nin:∀ b o,X.s₀.heap.get? b=some o->b∉frs X.outer->b∉frs X.stack:=fun b o e n=>by
    rw[hst,lZ hf];simp only[Ai,not_or];exact⟨ne b o e,n⟩
   have trk:∀ b u o',H b=some u->s.heap.get? b=some o'->(Es s.heap (frs X.stack)).get? b=some o':=fun b u o' e q=>hid b o' q fun z=>by
    rw[I.stkFree b z]at e;cases e
   have base:Un (frs X.outer) [] X.H₀ H X.s₀.heap s.heap:=by
    have:=I.base
    rw[hx]at this;exact this
   have un:=zE base I.hok (fun b o o' e n q=>hid b o' q (nin b o e n)) trk x1.1 (fun b o hb q=>?_)
   · refine⟨I.os,I.bare,uJ I.hok trk x1.1,un,?_,?_,_,_,x1,fun b o o' e n q=>?_,fun b u o' e q=>?_⟩
     · cases q:X.s₀.heap.get? ea with
       | none=>rfl
       | some o =>
        obtain⟨o1,e1⟩:=I.base.there ea o q (by rw[hx];simp)
        rw[m.new]at e1;cases e1
     · cases q:H ea with
       | none=>rfl
       | some u =>
        obtain⟨o1,e1⟩:=bN.there (I.hok ea u q);rw[m.new]at e1;cases e1
     · obtain⟨o1,e1⟩:=base.there b o e (by simp)
       have q1:=hid b o1 e1 (nin b o e n);have:=x1.1 _ _ q1
       rw[show ({ s with heap:=h' }:Shared).heap.get? b=some o' from q]at this
       cases this;exact q1
     · obtain⟨o1,e1⟩:=bN.there (I.hok b u e)
       have q1:=trk b u o1 e e1;have:=x1.1 _ _ q1
       rw[show ({ s with heap:=h' }:Shared).heap.get? b=some o' from q]at this
       cases this;exact q1
   · have hb':b∈frs X.stack:=by rw[hst,lZ hf];exact Ac _ hb
     obtain⟨_,o1,e1,nf⟩:=fr.mem (b:=b) hb';rw[q]at e1;cases e1;exact x4 b o (m.keeps _ _ q) nf
end Mir
namespace Mir
open PySem L2
variable {X:Cx}{P:XP}{a b c e:Expr}{es:List Expr}{f g:FE}{fs:FEs}{pos:Pos}
abbrev bmV:List Value:=[.type "ValueError",.type "Exception",.type "BaseException",.type "object"]
theorem aNr {K:PySem.W.Frag}{h:Heap}{C:Addr}{bmB:List Value}{newId:String}(X:K.In h)(q:Bl K C bmB newId=true) :
 ∃ bm N nm q bs hdct sn sub ab col dd k0 k1 k2 k3 k5 mN,h.get? C=some (excClassObj nm q C N bs bm hdct sn sub ab col dd k0 k1 k2 k3 k5 newId)/\h.Ns N mN/\mN "__init__" = none/\OwnTail h bmB bm:=by
 unfold Bl at q;repeat' split at q
 case h_1 dd c sl look _ _ C1 tl s0 s1 s2 s3 mk s5 em es =>
  simp only[Br]at q;have eC:C1=C:=by simpa using q.1.1.1.1.1
  have en:mk=newId:=by simpa using q.1.1.1.1.2
  have ed:c.hasDel=false:=by simpa using q.1.1.1.2
  have ei:Be K c.ns "__init__" = some none:=by simpa using q.2
  have ok:PySem.W.nsOkIn K c.ns=true:=q.1.2;have here:=X _ _ look;cases c;cases sl;dsimp only at em es ed ok ei
  subst eC en em es ed;exact⟨_,_,_,_,_,_,_,_,_,_,_,_,_,_,_,_,_,here,.of_isNs (PySem.W.isNs_of_in X ok),PySem.W.nsMap_none_of_in X ok ei,PySem.W.tail_of_in X q.1.1.2⟩
 all_goals exact absurd q Bb
def vC (c:XC)(fs:FEs):FS:=fun ρ=>(evs fs ρ).at ρ fun rs=>if rs.length<=sizeLine then .exc ⟨c,[]⟩ ρ else .stk
def aPq (cl:XC->Addr)(X:Cx)(P:XP):Prop:=∀ (pins:List (Addr×Obj)) (σ:St) (H:Hp) (s:Shared) (h1:Heap) (ea:Addr) (args:List Value) (x:Xc),Inv X pins σ H s->Heap.MadeExcOf s.heap h1 ea (.ref (cl x.c)) args->P.p x σ H->X.xe (.ref ea) { s with heap:=h1 }
theorem aG7 {cl:XC->Addr}{xc:XC}{x:Str}{np cpos:Pos}(hm:X.mg x=some (.ref (cl xc)))(hK:Bl X.K (cl xc) bmV "ValueError.__new__" = true)(hc:X.calm=true)(hg:Gl X x)(ht:aPq cl X P)(ha:PA X (e :: es) (tAs X.K P fs))
 (hdb:(x==("__debug__":Str))=false:=by decide) (he:starEach (e :: es) X.env=(false,eval e X.env) :: starEach es X.env:=by rfl) (hpl:(backTo cpos (starEach es X.env)).any (·.1)=false:=by rfl) :
 PS X (.Raise (some (.Call (.Name x np) (e :: es) [] cpos)) none pos) (tS X.K P (vC xc fs)):=by
 intro pins s σ H D I h;obtain⟨H0,T,ρ,d,h⟩:=h;obtain⟨tl,N,nm,q,bs,hdct,sn,sub,ab,col,dd,k0,k1,k2,k3,k5,mN,hC,hN,hni,TL⟩:=aNr I.ok.mod.kin hK
 refine wpAny_Raise_call_subT (C:=cl xc) (nm:=nm) (q:=q) (N:=N) (bs:=bs) (bm:=tl) (hdct:=hdct) (sn:=sn) (sub:=sub) (ab:=ab) (col:=col) (dd:=dd) (k0:=k0) (k1:=k1) (k2:=k2) (k3:=k3) (k5:=k5)
  PySem.F.excBase_ValueError (mN:=mN) (TL.hasType PySem.F.excBase_ValueError.hasBase) (I.ok.hd hc) (by rw[he];show (false||(backTo cpos (starEach es X.env)).any (·.1))=false;rw[hpl];rfl) hni (oP I hg hm ⟨rfl,?_⟩ hdb)
 have key:tAs X.K P fs σ H fun vs H1=>vs.length<=sizeLine/\P.p ⟨xc,[]⟩ σ H1:=by
  refine⟨H0,_,ρ,d.e,?_⟩
  unfold vC at h;cases e1:evs fs ρ with
  | stk=>simp only[e1,R.at]at h;exact h.elim
  | exc z=>simp only[e1,R.at]at h;exact h σ H d Ext.refl
  | ok rs =>
   simp only[e1,R.at]at h;intro vs H1 s1 gs;by_cases hz:rs.length<=sizeLine
   · rw[if_pos hz]at h
     exact⟨by rw[gs.len];exact hz,h σ H1 (d.mono s1) (Ext.same s1)⟩
   · rw[if_neg hz]at h;exact h.elim
 have hA:=ha cpos pins s σ H _ I key;rw[he]at hA ⊢;refine Calls.evalArgs_plain (wpAny_mono hA (fun us s2 ⟨vs,H1,I1,r,q⟩=>⟨rfl,?_,I1.bk _ _ hC,hN.keeps I1.bk,TL.keeps I1.bk,fun h1 ea m=>?_⟩) fun _ _ y=>y)
 · show us.length<=sizeLine
   rw[←r.length];exact q.1
 · exact ht pins σ H1 s2 h1 ea _ ⟨xc,[]⟩ I1 m q.2
def PX (cl:XC->Addr)(E:XK):XP:=⟨fun x _ H=>∀ H',aI H H'->E (.ref (cl x.c)) none H',fun h s H' s'=>h H' (s.trans s')⟩
section
variable {Pg:Program}{w:World}{K:PySem.W.Frag}{mg:Str->Option Value}{base:Heap}{cl:XC->Addr}{N:List Str}{qual:Str}{scope:Scope}{fa:Addr}{cdv:Value}{A:Around}{outer:List PySem.Env}{s0:Shared}{H0:Hp}{E:XK}
theorem dW:Thr (CXM Pg w) cl (oN (CXM Pg w) Pg w K mg base N qual scope fa cdv A outer s0 H0 E) (PX cl E):=by
 rintro pins σ H s e s' I ⟨ea,C,H',rfl,F,x,hx,px⟩
 refine aHf I rfl rfl rfl F fun h' F'=>⟨ea,C,H',rfl,F',?_⟩
 rw[hx];exact px H' (aI.refl H')
theorem aO2:aPq cl (oN (CXM Pg w) Pg w K mg base N qual scope fa cdv A outer s0 H0 E) (PX cl E):=by
 intro pins σ H s h1 ea args x I m px;exact aEw I rfl rfl rfl m fun h' F'=>⟨ea,cl x.c,H,rfl,F',px H (aI.refl H)⟩
theorem gL:PassesOwn (model Pg w) (oN (CXM Pg w) Pg w K mg base N qual scope fa cdv A outer s0 H0 E).A (oN (CXM Pg w) Pg w K mg base N qual scope fa cdv A outer s0 H0 E).env (oN (CXM Pg w) Pg w K mg base N qual scope fa cdv A outer s0 H0 E).xe:=PassesOwn.leaving
theorem aJ1 {x:Str}{ps:List Str}{k:Nat}{st:Stmt}{F:FS}{f:Addr}{fd:FuncData}(Fu:Fun K x x st f fd)(S:FnScope N ps (aY st))
 (hb:∀ (f:Addr) (cdv:Value) (A:Around) (outer:List PySem.Env) (s:Shared) (H:Hp) (E:XK),Room k (A.deeper (Gb x (aY st) s.heap.objs.size f cdv)) ->
  PSs (oN (CXM Pg w) Pg w K mg base N x (aY st) f cdv A outer s H E) (fO st) (tS K (PX cl E) F)):FnOk Pg w K mg base (CXM Pg w) (k+1) f fd ps (spM K cl (cW ps.length N.length F)):=by
 obtain⟨oc,od,kV,doc,pm,an,cdv,ct,osl,rfl,lk,hcd⟩:=Fu.ex;refine aP2 lk hcd S (aHg fun ds e=>?_) fun A outer s H vs Q E hr hsp=>⟨_,hb f cdv A outer s H E hr,?_⟩
 · unfold cW
   rw[if_neg e]
 · obtain⟨ds,B,hB,r,q⟩:=hsp
   refine⟨H,B,stE N.length ds,DenS.start hB r,?_⟩
   unfold cW at q;by_cases e:ds.length=ps.length
   · rw[if_pos e]at q
     cases e2:F (stE N.length ds) with
     | nx ρ'=>simp only[e2]at q;exact fun σ' H' d' x'=>q .non H' d'.e.sam (show V.non=V.non from rfl)
     | rt r=>simp only[e2]at q;exact fun v H' s' ro=>q v H' s' (ro.fr s')
     | bk ρ'=>simp only[e2]at q
     | ct ρ'=>simp only[e2]at q
     | exc z ρ'=>simp only[e2]at q;exact fun σ' H' d' x' H'' s''=>q H'' (d'.e.sam.trans s'')
     | stk=>simp only[e2]at q
   · rw[if_neg e]at q;exact q.elim
theorem dQ {x:Str}{ps:List Str}{k:Nat}{st:Stmt}{F:FS}(Fa:cB K mg x st ps)(S:FnScope N ps (aY st))
 (hb:∀ (f:Addr) (cdv:Value) (A:Around) (outer:List PySem.Env) (s:Shared) (H:Hp) (E:XK),Room k (A.deeper (Gb x (aY st) s.heap.objs.size f cdv)) ->
  PSs (oN (CXM Pg w) Pg w K mg base N x (aY st) f cdv A outer s H E) (fO st) (tS K (PX cl E) F)):aO Pg w K mg base (CXM Pg w) (k+1) x ps (spM K cl (cW ps.length N.length F)) :=
 let ⟨f,fd,Fu,m,b⟩:=Fa
 ⟨f,fd,aJ1 Fu S hb,m,Fu.kp,b⟩
end
end Mir
namespace Mir
open PySem L2
open PySem.W (Frag looks_findIn looks_find looks_mroIn findIn mroIn specialIn takesIn clsIn findObj notCls subIn looks_subIn Looks)
section
variable {prog:Program}{w:World}{A:Around}{E:Value->Shared->Prop}{s:Shared}{K:Frag}{C x:Addr}{ox:Obj}
structure XCls (K:Frag)(C:Addr):Prop where
 ga:findIn K (.ref C) "__getattribute__" = some (some (.builtin "BaseException.__getattribute__"))
 gh:findIn K (.ref C) "__getattr__" = some none
 cl:findIn K (.ref C) "__class__" = some (some (.builtin "object.__class__"))
 ob:mroIn K C (.type "object")=some true
 be:subIn K (.ref C) (.type "BaseException")=some true
 is:(clsIn K C).isSome=true
theorem fC.type {M:Model}{h:Heap}(I:fC x C h):Looks M h (typeOf (.ref x)) (.ref C):=by
 obtain⟨o,e,c,_⟩:=I;intro A Q E s k q;exact wpAny_bind (wpAny_loadPart (k _ _ e) (wpAny_pure (c▸q)))
theorem aQr {tp:Value}{R:Result->Shared->Prop}(c:XCls K C)(X:K.In s.heap)(I:fC x C s.heap)(q:R (.ok (.ret (.ref C))) s) :
 codeAny (model prog w) A (.call (.builtin "getset_descriptor.__get__") ⟨[.builtin "object.__class__",.ref x,tp],[]⟩) R s:=by
 have l0:=I.type (M:=model prog w);have l1:=looks_mroIn (M:=model prog w) X c.ob;rw[show ("object":String) = ".".intercalate ("object.__class__".cutAt '.').dropLast from (congrArg Prod.fst PySem.W.KF.owner_class).symm]at l1
 have ty:s.TypeIs (.builtin "object.__class__") "getset_descriptor":=F.typeOf_object_class;refine codeAny_call_builtin F.slot_gs_get.plain F.entry_gs_get (F.slot_gs_get.check _ _ _ _ _ _ _ _ ty (F.args_gs_get _ _ _) ?_)
 obtain⟨h,g,d,t,os⟩:=s;repeat (any_goals (first | assumption | with_reducible refine l0.at ?_ | with_reducible refine l1.at ?_ | wp_step))
 refine And.intro (Code.quiet_builtin _ (by decide +kernel)) (codeAny_builtin PySem.W.KF.entry_class ?_)
 repeat (any_goals (first | assumption | with_reducible refine l0.at ?_ | wp_step))
theorem aO8 {tk:Tok}{Q:Fin->Shared->Prop}(c:XCls K C)(X:K.In s.heap)(I:fC x C s.heap)(q:Q (.done (.ret (.ref C))) s) :
 wpAny (model prog w) A (Builtin.«object.__getattribute__» ⟨[.ref x,.str "__class__" tk],[]⟩) Q E s:=by
 have l0:=I.type (M:=model prog w);have l1:=looks_findIn (M:=model prog w) X c.cl;have f1:s.TypeIs (.builtin "object.__class__") "getset_descriptor":=F.typeOf_object_class;have f2:=F.typeOf_object_class;have f3:=F.slot_gs_get.lookup;have f4:=F.slot_gs_set.lookup;obtain⟨h,g,d,t,os⟩:=s;repeat (any_goals (first | assumption | with_reducible refine l0.at ?_ | with_reducible refine l1.at ?_ | wp_step))
 exact aQr c X I (wpAny_pure q)
theorem aQn {nv:Value}{Q:Unit->Shared->Prop}(c:XCls K C)(X:K.In s.heap)(I:fC x C s.heap)(q:Q () s):wpAny (model prog w) A (checkBuiltinCall "BaseException.__getattribute__" ⟨[.ref x,nv],[]⟩) Q E s:=by
 have li:Looks (model prog w) s.heap (isInstance (.ref x) (.type "BaseException")) true:=I.type.andThen (looks_subIn X c.be);have k1:=show builtinKind "BaseException.__getattribute__" = some .slot by decide +kernel
 have k2:=show splitId "BaseException.__getattribute__" = some ("BaseException","__getattribute__") by decide +kernel
 have k3:=F.args_bexc_ga (.ref x) nv;obtain⟨h,g,d,t,os⟩:=s;simp only[checkBuiltinCall,k1,k2];refine wpAny_bind (li.at ?_)
 repeat any_goals first | assumption | wp_step
theorem aQa {Q:Option Value->Shared->Prop}(c:XCls K C)(X:K.In s.heap)(I:fC x C s.heap)(q:Q (some (.ref C)) { s with toks:=s.toks+1 }) :
 wpAny (model prog w) A (getAttr? (.ref x) "__class__") Q E s:=by
 have l0:=I.type (M:=model prog w);have l1:=looks_findIn (M:=model prog w) X c.ga;have l2:=looks_findIn (M:=model prog w) X c.gh
 have n1:(onTheHeap (Value.ref C)&&Value.builtin "BaseException.__getattribute__" == Value.builtin "object.__getattribute__")=false:=by
  rw[show (Value.builtin "BaseException.__getattribute__" == Value.builtin "object.__getattribute__")=false by decide +kernel,Bool.and_false]
 have l3:=F.excAttr_ValueError.ga.bind (.ref x);obtain⟨h,g,d,t,os⟩:=s;repeat (any_goals (first | assumption | with_reducible refine l0.at ?_ | with_reducible refine l1.at ?_ | with_reducible refine l2.at ?_ | wp_step))
 refine codeAny_call_builtin F.excAttr_ValueError.ga.plain F.entry_bexc_ga (aQn c X I (aO8 c X I ?_))
 repeat any_goals first | assumption | wp_step
theorem vI (e:(clsIn K C).isSome=true):∃ c d cd sl,K.lookup C=some ⟨c,d,.cls cd,sl⟩:=by
 unfold clsIn at e;cases q:K.lookup C with
 | none=>simp[q]at e
 | some o =>
  obtain⟨c,d,da,sl⟩:=o;cases da<;>first | exact⟨_,_,_,_,rfl⟩ | simp[q]at e
theorem aFq (c:XCls K C):PySem.W.KitX K (.ref x) (.ref C) (fC x C) where
 ty _ _ _ I:=I.type
 it M h X _:=by
  obtain⟨k,d,cd,sl,e⟩:=vI c.is;intro A Q E s st q;exact wpAny_bind (wpAny_loadPart (st _ _ (X _ _ e)) (wpAny_pure q))
 ne h tp dd its n sl X e:=by
  obtain⟨k,d,cd,sl',e'⟩:=vI c.is;by_cases z:C=tp
  · subst z
    exact absurd ((X _ _ e').symm.trans e) (by simp)
  · simpa using z
 ca X I q:=aQa c X I q
end
end Mir
namespace Mir
open PySem L2
variable {X:Cx}{P:XP}{a b c e:Expr}{es:List Expr}{f g:FE}{fs:FEs}{pos p:Pos}
structure XTab (K:PySem.W.Frag):Prop where
 cl:∀ c:XC,XCls K (clK K c)
 xx:∀ c d:XC,Bi K (.ref (clK K d)) (.ref (clK K c))=some (decide (d=c))
 xv:∀ d:XC,Bi K (.ref (clK K d)) (.type "ValueError")=some true
 tx:∀ t∈["NoneType","bool","int","str","list","tuple"],∀ c:XC,Bi K (.type t) (.ref (clK K c))=some false
inductive TyX (K:PySem.W.Frag) (H:Hp):V->Value->Prop where
 | of {v:V} {t:Value} (h:TyOf K H v t):TyX K H v t
 | exc {a C:Addr} (c:XCls K C) (h:H a=some (.ext (fC a C))):TyX K H (.ref a) (.ref C)
theorem aKv {A:Around}{E:Value->Shared->Prop}{Q:Value->Shared->Prop}{pins:List (Addr×Obj)}{σ:St}{H:Hp}{s:Shared}{x:V}{u t c:Value}{b:Bool}(I:Inv X pins σ H s)(rx:bI x u)(ty:TyX X.K H x t)
 (e:Bi X.K t c=some b) (h:∀ tk,Q (.bool b) { s with toks:=tk }):wpAny (model X.prog X.w) A (call (.builtin "isinstance") [u,c]) Q E s:=by
 cases ty with
 | of ty=>exact uG I rx ty e h
 | @exc a C xc q =>
  cases (show u=Value.ref a from rx)
  exact Bw (aFq xc) I.kIn (I.hok a _ q).1 e (fun z=>nomatch z) h
theorem aF7 {n:V}{c:Value}(rn:∀ v,bI n v->v=c):iO X (.builtin "isinstance") (fun xs H Q=>∃ x t b,xs=[x,n]/\TyX X.K H x t/\Bi X.K t c=some b/\Q (.bl b) H):=by
 intro pins s σ H xs us Q I r h;obtain⟨x,t,b,rfl,ty,e,q⟩:=h;obtain⟨u,v,rfl,r1,r2⟩:=aAt r;rw[rn v r2];exact aKv I r1 ty e fun tk=>⟨.bl b,H,I.tok tk,rfl,q⟩
def isX:Option XC->D->R Bool
 | _,.obj _ _=>.stk
 | _,.any=>.stk
 | _,.dct _ _=>.stk
 | some c,.exc d _=>.ok (decide (d=c))
 | none,.exc _ _=>.ok true
 | _,_=>.ok false
def kY (c:Option XC)(a:FE):FE:=fun ρ=>do
 let x ← a ρ
 let b ← isX c x.d
 .ok (sc (.bl b))
def vX (K:PySem.W.Frag):Option XC->V
 | some c=>.ref (clK K c)
 | none=>.ty "ValueError"
def aNt (K:PySem.W.Frag):Option XC->Value
 | some c=>.ref (clK K c)
 | none=>.type "ValueError"
theorem aLu {K:PySem.W.Frag}:∀ c:Option XC,∀ v,bI (vX K c) v->v=aNt K c
 | some _,_,h=>h
 | none,_,h=>h
theorem aQc {t:String}(h:t∈["NoneType","bool","int","str","list","tuple"]){K:PySem.W.Frag}:Bi K (.type t) (.type "ValueError")=some false:=by
 simp only[Ai,Bc,or_false]at h;rcases h with rfl | rfl | rfl | rfl | rfl | rfl<;>rfl
theorem aJc {c:Option XC}{d:D}{x:Xc}(h:isX c d=.exc x):False:=by
 cases c<;>cases d<;>simp[isX]at h
theorem aM.tyX {K:PySem.W.Frag}{H0 H H':Hp}{B:Addr->Prop}{v:V}{r:Res}{c:Option XC}{b:Bool}(T:XTab K)(g:aM K H0 H H' B v r)(e:isX c r.d=.ok b):∃ t,TyX K H' v t/\Bi K t (aNt K c)=some b:=by
 cases k:r.d with
 | obj n ds=>rw[k]at e;cases c<;>simp[isX]at e
 | dct n ds=>rw[k]at e;cases c<;>simp[isX]at e
 | any=>rw[k]at e;cases c<;>simp[isX]at e
 | exc d ds =>
  have:=g.shr_of (by rw[k];rfl)
  rw[k]at this;obtain⟨_,a,rfl,q⟩:=this;refine⟨_,.exc (T.cl d) (aS.mp q).2,?_⟩
  rw[k]at e;cases c with
  | none=>simp[isX]at e;subst e;exact T.xv d
  | some c=>simp only[isX,R.ok.injEq]at e;rw[←e];exact T.xx c d
 | _ =>
  have ty:TyOf K H' v (.type (tyD r.d)):=g.ty (by rw[k];exact fun _ _ z=>by cases z) (by rw[k];exact fun _ _ z=>by cases z) (by rw[k];exact fun z=>by cases z) (by rw[k];exact fun _ _ z=>by cases z)
  rw[k]at e ty;refine⟨_,.of ty,?_⟩
  cases c with
  | none=>simp[isX]at e;subst e;exact aQc (by simp[tyD])
  | some c=>simp[isX]at e;subst e;exact T.tx _ (by simp[tyD]) c
theorem gO {c:Option XC}{y:Str}{p2:Pos}(T:XTab X.K)(hg:Gl X "isinstance")(hm:X.mg "isinstance" = none)(ha:PE X a (tE X.K P f))(hb:PE X (.Name y p2) (tC (vX X.K c)))(he:starEach [a,.Name y p2] X.env=[(false,eval a X.env),(false,eval (.Name y p2) X.env)]:=by rfl)
 (he2:starEach [.Name y p2] X.env=[(false,eval (.Name y p2) X.env)]:=by rfl):PE X (.Call (.Name "isinstance" p) [a,.Name y p2] [] pos) (tE X.K P (kY c f)):=by
 refine PE.imp (fP (aF7 (aLu (K:=X.K) c)) hg hm (by decide +kernel) (fY ha (fY hb lR he2) (by rw[he,he2])) (he:=by rw[he,he2]) (hpl:=by rw[he2];rfl)) ?_
 intro σ H Q h;refine t1 (q:=fun v H1=>∃ x t b,[v,vX X.K c]=[x,vX X.K c]/\TyX X.K H1 x t/\Bi X.K t (aNt X.K c)=some b/\Q (.bl b) H1) h ?_
 intro H0 B ρ v H' r d g s h;cases e:isX c r.d with
 | stk=>simp[e]at h
 | exc x=>exact(aJc e).elim
 | ok b =>
  simp only[e,R.ok_bind]at h;obtain⟨t,ty,kk⟩:=g.tyX T e;exact⟨v,t,b,rfl,ty,kk,h _ H' (aI.refl _) (aM.sc (show Rep _ _ (.bl _) _ from rfl))⟩
end Mir
namespace Mir
open PySem L2
variable {X:Cx}{P:XP}{pins:List (Addr×Obj)}{σ:St}{H H':Hp}{s s':Shared}{ea C:Addr}
abbrev reC (X:Cx)(A:Around)(cm:Bool)(pn:List (Addr×Obj))(xe:Value->Shared->Prop):Cx:={ X with A:=A,calm:=cm,pn:=pn,xe:=xe }
theorem aEq {A:Around}{cm:Bool}{pn pins':List (Addr×Obj)}{xe:Value->Shared->Prop}(I:Inv X pins σ H s)(hA:A.frames=X.A.frames)(hc:cm=true->A.handled=none)(hp:∀ p∈pn++pins',p∈X.pn++pins):Inv (reC X A cm pn xe) pins' σ H s :=
 have k:=I.ok
 ⟨⟨k.mod,k.kind,k.glob,k.blt,k.above,k.inj,k.has,k.cab,hc,hA.trans k.frames,k.stk,k.exf,k.bs,k.bsz,k.noex,k.exfs,k.funs,k.frf⟩,I.os,I.bare,I.base,I.loc,I.cell,I.free,I.freeC,fun p h=>I.pin p (hp p h),I.hok,I.len⟩
theorem aBg {A:Around}{cm:Bool}{pn pins':List (Addr×Obj)}{xe:Value->Shared->Prop}(I:Inv (reC X A cm pn xe) pins' σ H s)(hA:A.frames=X.A.frames)(hc:X.calm=true->X.A.handled=none)(hp:∀ p∈X.pn++pins,p∈pn++pins'):Inv X pins σ H s :=
 have k:=I.ok
 ⟨⟨k.mod,k.kind,k.glob,k.blt,k.above,k.inj,k.has,k.cab,hc,hA.symm.trans k.frames,k.stk,k.exf,k.bs,k.bsz,k.noex,k.exfs,k.funs,k.frf⟩,I.os,I.bare,I.base,I.loc,I.cell,I.free,I.freeC,fun p h=>I.pin p (hp p h),I.hok,I.len⟩
section
variable {Pg:Program}{w:World}{l:List PySem.Env}{M:Model}{A:Around}{E:Value->Shared->Prop}{R:Shared->Prop}
theorem Fly.at {h' Bh:Heap}{a0:Value}(F:Fly Pg w l H s ea C H' s')(fl:Heap.FlyingW Bh l ea (.ref C) a0 s'.heap)(cov:∀ b o o',s.heap.get? b=some o->b∉frs l->s'.heap.get? b=some o'->Bh.get? b=some o')
 (trk:∀ b u o',H' b=some u->s'.heap.get? b=some o'->Bh.get? b=some o') (fl':Heap.FlyingW Bh l ea (.ref C) a0 h') (up:s'.heap.UpToSlots h'):Fly Pg w l H s ea C H' { s' with heap:=h' }:=by
 have same:∀ b o1 o',Bh.get? b=some o1->h'.get? b=some o'->o1=o':=fun b o1 o' q e=>Cg.inj ((fl'.1 _ _ q).symm.trans e);refine⟨F.os,F.bare,uJ F.hok trk fl'.1,zE F.un F.hok cov trk fl'.1 fun b o hb q=>?_,F.new,F.unt,a0,Bh,fl',fun b o o' e n q=>?_,fun b u o' e q=>?_⟩
 · obtain⟨_,o1,e1,nf⟩:=fl.2.2.1.mem (b:=b) hb
   rw[q]at e1;cases e1;exact up b o q nf
 · obtain⟨o1,e1⟩:=F.un.there b o e (by simp)
   have q1:=cov b o o1 e n e1;exact same b o1 o' q1 q▸q1
 · obtain⟨o1,e1⟩:=bN.there (F.hok b u e)
   have q1:=trk b u o1 e e1;exact same b o1 o' q1 q▸q1
theorem Fly.lands {env:PySem.Env}{outer:List PySem.Env}{L:Addr}(F:Fly Pg w (env :: outer) H s ea C H' s')(hA:A.frames=some (env :: outer))(hf:env.frame=some L)(q:∀ h',Fly Pg w (env :: outer) H s ea C H' { s' with heap:=h' }->R { s' with heap:=h' }) :
 wpAny M A (noteFrame (.ref ea) env) (fun _ s3=>wpAny M A (setFlight (.ref ea) none) (fun _ s4=>R s4) E s3) E s':=by
 obtain⟨a0,Bh,fl,cov,trk⟩:=id F.fly;refine wpAny_looks_onW hA hf fl fun h1 x1 u1=>wpAny_landsW x1 fun h2 x2 u2=>?_
 exact q h2 (F.at fl cov trk x2 (u1.trans u2))
theorem Fly.again (F:Fly Pg w l H s ea C H' s')(q:∀ h',Fly Pg w l H s ea C H' { s' with heap:=h' }->R { s' with heap:=h' }):wpAny M A (setFlight (.ref ea) none) (fun _ s4=>R s4) E s':=by
 obtain⟨a0,Bh,fl,cov,trk⟩:=id F.fly;exact PyProof.Rows.lands_againW fl fun h1 x1 u1=>q h1 (F.at fl cov trk x1 u1)
theorem Fly.exc (F:Fly Pg w l H s ea C H' s'):fC ea C s'.heap:=by
 obtain⟨a0,Bh,fl,_,_⟩:=F.fly;obtain⟨o,vs,e1,e2,e3,_⟩:=fl.first
 exact⟨o,e1,e2,by unfold PySem.W.notCls;rw[e3]⟩
end
theorem Fly.inv (F:Fly X.prog X.w X.stack H s ea C H' s')(I:Inv X pins σ H s):Inv X pins σ H' s':=I.call' (ch:=[]) F.os F.un F.hok F.bare fun b z=>absurd z (by simp)
theorem Inv.track {φ:Heap->Prop}(I0:Inv X pins σ H s)(I:Inv X pins σ H' s')(hx:X.ex=[])(new:s.heap.get? ea=none)(unt:H' ea=none)(ok:φ s'.heap)(st:∀ h1 h2:Heap,φ h1->(∀ o,h1.get? ea=some o->h2.get? ea=some o)->φ h2)(at_:∃ o,s'.heap.get? ea=some o) :
 Inv X pins σ (upd H' ea (.ext φ)) s':=by
 have old:∀ b o,s.heap.get? b=some o->b≠ea:=fun b o e z=>by rw[z,new]at e;cases e
 have old0:∀ b o,X.s₀.heap.get? b=some o->b≠ea:=fun b o e=>by
  obtain⟨o1,e1⟩:=I0.base.there b o e (by rw[hx];simp)
  exact old b o1 e1
 have ne:∀ b u,H' b=some u->b≠ea:=fun b u e z=>by rw[z,unt]at e;cases e
 have keep:∀ b u,H' b=some u->upd H' ea (.ext φ) b=some u:=fun b u e=>by rw[aK (ne b u e)];exact e
 have bs:=I.base;refine⟨I.ok,I.os,I.bare,⟨bs.keep,bs.slot,fun b o e n hb=>?_,bs.there,fun b xs e=>keep _ _ (bs.tups b xs e),fun b o u e=>keep _ _ (bs.frzs b o u e),fun b ps e=>?_⟩,I.loc,I.cell,?_,fun x c e=>?_,fun p hp=>?_,fun b u e=>?_,I.len⟩
 · rw[aK (old0 b o e)];exact bs.free b o e n hb
 · obtain⟨more,q⟩:=bs.tbls b ps e
   exact⟨more,keep _ _ q⟩
 · obtain⟨m,⟨o,_,_,e,_⟩,_⟩:=I0.loc
   rw[aK (old _ o e)];exact I.free
 · obtain⟨v,o,q,_⟩:=I0.cell x c e
   rw[aK (old _ o q)];exact I.freeC x c e
 · obtain⟨q1,q2,q3⟩:=I.pin p hp
   rw[aK (old _ _ (I0.pin p hp).1)];exact⟨q1,q2,q3⟩
 · by_cases z:b=ea
   · subst z
     rw[bC]at e;cases e;exact⟨ok,at_,st⟩
   · rw[aK z]at e
     exact(I.hok b u e).stay (fun _ _ _ q=>q) (fun c q=>keep _ _ q) fun c xs q=>keep _ _ q
structure XTop (K:PySem.W.Frag)(T:Addr):Prop where
 ty:Eg K (.ref T)=some (.type "type")
 is:(Dz K T).isSome=true
 be:Fh K (.ref T) (.type "BaseException")=some true
 xs:∀ c:XC,Fh K (.ref (clK K c)) (.ref T)=some true
theorem aLt {M:Model}{A:Around}{E:Value->Shared->Prop}{K:PySem.W.Frag}{T:Addr}{c:XC}{Q:Bool->Shared->Prop}(t:XTop K T)(X:K.In s.heap)(I:fC ea (clK K c) s.heap)(q:Q true s):wpAny M A (excMatches (.ref ea) (.ref T)) Q E s:=by
 have l0:=I.type (M:=M);have l1:=PySem.W.looks_typeIn (M:=M) X t.ty;have l2:=PySem.W.looks_subIn (M:=M) X t.be;have l3:=PySem.W.looks_subIn (M:=M) X (t.xs c);have f:=tc_notTuple;obtain⟨k,d,cd,sl,e⟩:=vI t.is;have e':=X _ _ e;obtain⟨h,g,dr,tk,os⟩:=s;unfold excMatches;repeat (first | assumption | with_reducible refine l0.at ?_ | with_reducible refine l1.at ?_ | with_reducible refine l2.at ?_ | with_reducible refine l3.at ?_ | with_reducible refine wpAny_loadPart_at e' ?_ | wp_step)
end Mir
namespace Mir
open PySem L2
variable {X:Cx}{P:XP}{pins:List (Addr×Obj)}{σ:St}{H H':Hp}{s s':Shared}{ea C:Addr}
theorem DenS.unset {K:PySem.W.Frag}{H0 H:Hp}{T:Addr->Prop}{σ:St}{ρ:Env}(k:Nat)(d:DenS K H0 H T σ ρ):DenS K H0 H T (σ.set k none) (ρ.set k none)/\∀ a,iW (σ.set k none) (ρ.set k none) a->iW σ ρ a:=by
 have own:∀ j a,fA (σ.set k none) (ρ.set k none) j a->k≠j/\fA σ ρ j a:=fun j a ⟨h1,e,h2,h3⟩=>by
  by_cases hj:k=j
  · subst hj
    rw[Fg]at h2;split at h2<;>simp_all
  · rw[Ah hj]at h1 h2
    exact⟨hj,h1,e,h2,h3⟩
 have sub:∀ a,iW (σ.set k none) (ρ.set k none) a->iW σ ρ a:=fun a ⟨j,h⟩=>⟨j,(own j a h).2⟩;have subB:∀ a,Bs T (σ.set k none) (ρ.set k none) a->Bs T σ ρ a:=fun a z=>z.imp (sub a) id;refine⟨⟨⟨by rw[Bf,Bf];exact d.e.len,d.e.sam,fun b z=>d.e.bnd b (subB b z),fun j e he=>?_⟩,fun a z=>d.sep a (sub a z),fun i j a h1 h2=>d.dis i j a (own i a h1).2 (own j a h2).2⟩,sub⟩
 have hj:k≠j:=fun z=>by
  subst z;rw[Fg]at he;split at he<;>simp_all
 rw[Ah hj]at he;obtain⟨w,q1,q2⟩:=d.e.ent j e he;refine⟨w,by rw[Ah hj];exact q1,q2.to d.e.sam (fun _ _ q _=>q) (fun b o q _ k1 k2=>⟨q,.inl ⟨j,?_⟩⟩) fun b z=>.inl (subB b z)⟩
 exact⟨by rw[Ah hj,q1,k2],e,by rw[Ah hj];exact he,k1⟩
theorem Inv.unset {h':Heap}{m m':Str->Option Value}{k:Nat}{n:Str}(I:Inv X pins σ H s)(hN:X.N.Nodup)(hk:X.N[k]?=some n)(hn:s.heap.Ns X.env.locals m)
 (look:∀ (i:Nat) (x:Str) (v:V),X.N[i]?=some x->σ[i]?=some (some v)->Vis X.env.scope x->∃ u,bI v u/\aOv X.env s.heap m x u) (hn':h'.Ns X.env.locals m') (hm:∀ x,x≠n->m' x=m x) (sb:Heap.SameBut X.env.locals s.heap h'):Inv X pins (σ.set k none) H { s with heap:=h' }:=by
 have neL:∀ b o,X.s₀.heap.get? b=some o->b≠X.env.locals:=fun b o e=>Ax (Al (Ae e) I.ok.above);have kp:∀ b o,b≠X.env.locals->s.heap.get? b=some o->h'.get? b=some o:=fun b o z e=>(sb.2 b z).trans e;have nt:∀ b u,H b=some u->b≠X.env.locals:=fun b u e z=>by rw[z,I.free]at e;cases e
 have bs:=I.base;refine⟨I.ok,I.os,I.bare,⟨fun b o e q1 q2 q3=>kp _ _ (neL b o e) (bs.keep b o e q1 q2 q3),fun b o e q1 q2 q3=>?_,bs.free,fun b o e q=>?_,bs.tups,bs.frzs,bs.tbls⟩,⟨m',hn',fun i x v e1 e2 e3=>?_⟩,fun x c e=>?_,I.free,I.freeC,fun p hp=>?_,fun b u e=>?_,by rw[Bf];exact I.len⟩
 · obtain⟨sl,q⟩:=bs.slot b o e q1 q2 q3
   exact⟨sl,kp _ _ (neL b o e) q⟩
 · obtain⟨o',q'⟩:=bs.there b o e q
   exact⟨o',kp _ _ (neL b o e) q'⟩
 · have ik:k≠i:=fun z=>by
    subst z;rw[Fg]at e2;split at e2<;>simp_all
   rw[Ah ik]at e2
   have xn:x≠n:=fun z=>by
    subst z;obtain⟨l1,q1⟩:=Aj.mp e1;obtain⟨l2,q2⟩:=Aj.mp hk;exact ik ((List.getElem_inj hN).mp (q2.trans q1.symm))
   obtain⟨u,r,lk⟩:=look i x v e1 e2 e3;refine⟨u,r,?_⟩
   rcases lk with ⟨a,b⟩ | ⟨a,c,b,o,q1,q2⟩
   · exact .inl ⟨a,by rw[hm x xn];exact b⟩
   · exact .inr ⟨a,c,b,o,kp _ _ (I.cne x c b) q1,q2⟩
 · obtain⟨v,o,q1,q2⟩:=I.cell x c e
   exact⟨v,o,kp _ _ (I.cne x c e) q1,q2⟩
 · obtain⟨q1,q2,q3,q4⟩:=I.pin p hp
   exact⟨kp _ _ q3 q1,q2,q3,q4⟩
 · refine(I.hok b u e).stay (fun c v z q=>kp c v ?_ q) (fun _ q=>q) fun _ _ q=>q
   rcases z with z | z
   · rw[z];exact nt b u e
   · exact nt c _ z
theorem aQt {M:Model}{A:Around}{E:Value->Shared->Prop}{R:Shared->Prop}{k:Nat}{n:Str}{pos:Pos}(I:Inv X pins σ H s)(hN:X.N.Nodup)(hk:X.N[k]?=some n)(hl:X.env.kindOf n=some .local)(hl':X.env.scope.names.lookup n=some .local)
 (q:∀ s',Inv X pins (σ.set k none) H s'->R s'):wpAny M A (do bindName X.env n .none;unbindBehindTheSuite X.env n pos) (fun _ s1=>R s1) E s:=by
 refine wpAny_bind (wpAny_bindName (iZ I hN hk (.inl hl') (v:=.non) rfl (fun s1 I1=>?_) (.inr hl')))
 have kl:k<σ.length:=by rw[I.len];exact(Aj.mp hk).1
 obtain⟨m,hn,look⟩:=id I1.loc;obtain⟨u,r,lk⟩:=look k n .non hk (Am kl) (.inl hl')
 have hv:m n=some u:=by
  rcases lk with ⟨_,e⟩ | ⟨e | e,_⟩
  · exact e
  · rw[hl]at e;cases e
  · rw[hl]at e;cases e
 refine wpAny_onRaise (wpAny_unbindName_local hl hn hv (by rw[I.ok.kind];rfl) fun h' w ns sb=>?_)
 have:=Inv.unset I1 hN hk hn look ns (fun x hx=>if_neg hx) sb
 rw[List.set_set]at this;exact q _ this
def aGp (i k:Nat)(F:FS):FS:=fun ρ=>match F ρ with
 | .exc x ρ1=>if x.ds=[] then .nx ((ρ1.set i (some (sc (.exc x.c [])))).set k none) else .stk
 | r=>r
def PTr (K:PySem.W.Frag)(D:Ends)(i k:Nat):XP where
 p x σ H:=x.ds=[]/\∀ H' a,aI H H'->H' a=none->D.nx ((σ.set i (some (.ref a))).set k none) (upd H' a (.ext (fC a (clK K x.c))))
 mono h s:=⟨h.1,fun H' a s' n=>h.2 H' a (s.trans s') n⟩
theorem aQb {α:Type}{l:List α}{i k:Nat}{a b c:α}(h:i≠k):((l.set k a).set i b).set k c=(l.set i b).set k c:=by
 rw[List.set_comm _ _ (Ne.symm h),List.set_set]
section
variable {i k:Nat}{y n cx:Str}{np p1 p2 p3 hpos pos:Pos}{T:Addr}
abbrev wH (cx n y:Str)(np p1 p2 p3 hpos:Pos):ExceptHandler:=.ExceptHandler (some (.Name cx np)) (some n) [.Assign [.Name y p1] (.Name n p2) p3] hpos
theorem aL0 {D:Ends}{x:Xc}{pn pins2:List (Addr×Obj)}{xe:Value->Shared->Prop}(hx:X.ex=[])(hst:X.stack=X.env :: X.outer)(hf:X.env.frame=some X.env.locals)(t:XTop X.K T)(hg:Gl X cx)(hm:X.mg cx=some (.ref T))
 (hN:X.N.Nodup) (hi:X.N[i]?=some y) (hk:X.N[k]?=some n) (hik:i≠k) (ly:X.env.scope.names.lookup y=some .local) (ln:X.env.scope.names.lookup n=some .local) (kn:X.env.kindOf n=some .local)
 (hs:swapsWith (.Name n p2) (some (.Name y p1)) p3.line X.env=pure false) (d1:(cx==("__debug__":Str))=false) (d2:(n==("__debug__":Str))=false) (d3:(n==("__classdict__":Str))=false)
 (hp:∀ p∈X.pn++pins,p∈pn++pins2) (I:Inv (reC X X.A X.calm pn xe) pins2 σ H s) (F:Fly X.prog X.w X.stack H s ea (clK X.K x.c) H' s') (px:(PTr X.K D i k).p x σ H') :
 wpAny (model X.prog X.w) X.A (noteFrame (.ref ea) X.env) (fun _ s2=>wpAny (model X.prog X.w) X.A (setFlight (.ref ea) none) (fun _ s3=>wpAny (model X.prog X.w) X.A (handleBy (.ref ea) X.env [wH cx n y np p1 p2 p3 hpos]) (SP X pins D) X.xe s3) X.xe s2) X.xe s':=by
 have fr:X.A.frames=some (X.env :: X.outer):=by rw[←hst];exact I.ok.frames
 rw[hst]at F;refine Fly.lands F fr hf fun h4 F4=>?_
 rw[←hst]at F4;have I4:=Fly.inv (X:=reC X X.A X.calm pn xe) F4 I;refine wpAny_handleBy_cons (codeAny_handlers_test ?_) fun z=>nomatch z
 refine oP (X:=reC X (X.A.mark (some (.ref ea))) false pn xe) (aEq (X:=reC X X.A X.calm pn xe) I4 rfl (fun z=>nomatch z) fun _ z=>z) hg hm ?_ d1
 refine aLt t I4.kIn F4.exc ?_
 refine codeAny_handlers_suite_as (Fly.again F4 fun h5 F5=>?_)
 have I5:=Fly.inv (X:=reC X X.A X.calm pn xe) F5 I;have I6:=Inv.track I I5 hx F5.new F5.unt F5.exc (fun h1 h2 a b=>a.stay b) (let ⟨o,e,_⟩:=F5.exc;⟨o,e⟩)
 refine iZ (X:=reC X X.A X.calm pn xe) I6 hN hk (.inl ln) (v:=.ref ea) rfl (fun s7 I7=>?_) (.inr ln)
 have kl:k<Ep σ:=by rw[I.len];exact(Aj.mp hk).1
 refine thn (aBy (aD4 (X:=reC X (X.A.mark (some (.ref ea))) false pn _) hN hi (.inl ly) (nM hk (.inl ln) d2 d3) hs (.inr ly)) pins2 s7 _ _
  ⟨fun σ8 H8=>σ8=(σ.set k (some (.ref ea))).set i (some (.ref ea))/\H8=upd H' ea (.ext (fC ea (clK X.K x.c))),fun _ _=>False,fun _ _=>False,fun _ _=>False⟩
  (aEq (X:=reC X X.A X.calm pn xe) I7 rfl (fun z=>nomatch z) fun _ z=>z) ⟨.ref ea,Am kl,rfl,rfl⟩) fun f s8 q=>?_
 cases f with
 | next =>
  obtain⟨_,_,I8,rfl,rfl⟩:=q;have I9:L2.Inv X pins _ _ s8:=aBg I8 rfl I.ok.hd hp;refine aQt I9 hN hk kn ln fun s9 I10=>⟨_,_,I10,?_⟩
  rw[aQb hik];exact px.2 H' ea (aI.refl _) F5.unt
 | brk=>obtain⟨_,_,_,z⟩:=q;exact z.elim
 | cont=>obtain⟨_,_,_,z⟩:=q;exact z.elim
 | ret v=>obtain⟨_,_,_,_,_,z⟩:=q;exact z.elim
theorem aPz {body:List Stmt}{F:FS}(hx:X.ex=[])(hst:X.stack=X.env :: X.outer)(hf:X.env.frame=some X.env.locals)(t:XTop X.K T)(hg:Gl X cx)(hm:X.mg cx=some (.ref T))
 (hN:X.N.Nodup) (hi:X.N[i]?=some y) (hk:X.N[k]?=some n) (hik:i≠k) (ly:X.env.scope.names.lookup y=some .local) (ln:X.env.scope.names.lookup n=some .local) (kn:X.env.kindOf n=some .local)
 (hb:∀ (pn:List (Addr×Obj)) (xe:Value->Shared->Prop) (P':XP),Thr (CXM X.prog X.w) (clK X.K) (reC X X.A X.calm pn xe) P'->PassesOwn (model X.prog X.w) X.A X.env xe->PSs (reC X X.A X.calm pn xe) body (tS X.K P' F))
 (hs:swapsWith (.Name n p2) (some (.Name y p1)) p3.line X.env=pure false:=by rfl) (d1:(cx==("__debug__":Str))=false:=by decide) (d2:(n==("__debug__":Str))=false:=by decide) (d3:(n==("__classdict__":Str))=false:=by decide) :
 PS X (.Try body [wH cx n y np p1 p2 p3 hpos] [] [] pos) (tS X.K P (aGp i k F)):=by
 intro pins s σ H D I h;obtain⟨H0,W,ρ,d,h⟩:=h;refine wpAny_Try_except ?_
 have run:=hb (X.pn++pins) (fun e s1=>wpAny (model X.prog X.w) X.A (noteFrame e X.env) (fun _ s2=>wpAny (model X.prog X.w) X.A (setFlight e none) (fun _ s3=>wpAny (model X.prog X.w) X.A (handleBy e X.env [wH cx n y np p1 p2 p3 hpos]) (SP X pins D) X.xe s3) X.xe s2) X.xe s1) (PTr X.K D i k) (fun pins2 σ2 H2 s2 e s3 I2 z=>by
  obtain⟨ea,C,H3,rfl,Fl,x,hC,px⟩:=z;cases hC
  exact aL0 hx hst hf t hg hm hN hi hk hik ly ln kn hs d1 d2 d3 (fun p z=>Dw _ z) I2 Fl px) (PassesOwn.looking (K:=fun e s2=>wpAny (model X.prog X.w) X.A (setFlight e none) (fun _ s3=>wpAny (model X.prog X.w) X.A (handleBy e X.env [wH cx n y np p1 p2 p3 hpos]) (SP X pins D) X.xe s3) X.xe s2)) [] s σ H D (aEq I rfl I.ok.hd (by simp)) ⟨H0,W,ρ,d,?_⟩
 · have vV:∀ {σ' H' s1 xe},L2.Inv (reC X X.A X.calm (X.pn++pins) xe) [] σ' H' s1->L2.Inv X pins σ' H' s1:=fun J=>aBg J rfl I.ok.hd (by simp)
   refine wpAny_mono run (fun f s1 q=>?_) fun _ _ z=>z
   cases f with
   | next=>obtain⟨σ1,H1,J,q⟩:=q;exact wpAny_execs_nil ⟨σ1,H1,vV J,q⟩
   | brk=>obtain⟨σ1,H1,J,q⟩:=q;exact⟨σ1,H1,vV J,q⟩
   | cont=>obtain⟨σ1,H1,J,q⟩:=q;exact⟨σ1,H1,vV J,q⟩
   | ret v=>obtain⟨u,σ1,H1,J,q⟩:=q;exact⟨u,σ1,H1,vV J,q⟩
 · unfold aGp at h
   cases e:F ρ with
   | exc x ρ1 =>
    rw[e]at h;dsimp only at h
    by_cases z:x.ds=[]
    · rw[if_pos z]at h
      intro σ1 H1 d1 x1;refine⟨z,fun H2 a s2 na=>?_⟩
      have s3:aI H2 (upd H2 a (.ext (fC a (clK X.K x.c)))):=fun b o q=>by rw[aK (bF q na)];exact q
      have d3:=d1.mono (s2.trans s3);have nb:∀ o,(upd H2 a (.ext (fC a (clK X.K x.c)))) a=some o->stab o=true:=fun o q=>by rw[bC]at q;cases q;rfl
      have d4:=d3.set_shr (i:=i) (v:=.ref a) (fr:=true) (dd:=.exc x.c []) ⟨rfl,a,rfl,aS.mpr ⟨fun q=>?_,bC⟩⟩
      · have d5:=d4.1.unset k
        exact h _ _ d5.1 ((x1.trans (Ext.same (s2.trans s3))).trans ⟨fun _ _ q _=>q,fun b q=>.inl (d4.2 b (d5.2 b q))⟩)
      · rcases q with q | ⟨_,o,q1,q2⟩
        · obtain⟨o,q1,q2⟩:=d3.e.bnd a q
          rw[nb o q1]at q2;cases q2
        · rw[nb o (d3.e.sam a o q1)]at q2;cases q2
    · rw[if_neg z]at h
      exact h.elim
   | _=>rw[e]at h;exact h
end
structure XAll (K:PySem.W.Frag)(mg:Str->Option Value)(T:Addr):Prop where
 flat:mg "FlatError" = some (.ref T)
 top:XTop K T
 tab:XTab K
 nm:∀ c:XC,mg c.nm=some (.ref (clK K c))
 ex:∀ c:XC,c≠.BadRows->c≠.NoBox->Bl K (clK K c) bmV "ValueError.__new__" = true
end Mir
namespace Mir
open PySem L2
variable {K:PySem.W.Frag}
def noL (K:PySem.W.Frag):Bool:=K.all fun p=>!(p.2.cls==Value.type "list")
theorem aLh (h:noL K=true){a:Addr}{o:Obj}(e:K.lookup a=some o):o.cls≠.type "list":=fun c=>by
 have m:(a,o)∈K:=by
  clear h c
  induction K with
  | nil=>cases e
  | cons p r ih =>
   obtain⟨b,u⟩:=p;rw[Bq]at e;cases q:a==b with
   | true=>rw[q]at e;cases e;rw[eq_of_beq q];exact Aa
   | false=>rw[q]at e;exact Ac _ (ih e)
 have:=Fn.mp h _ m
 rw[c]at this;simp at this
theorem tX {G:Hp}:∀ ns:List Int,aJ K G (ns.map .int) (ns.map V.int)
 | []=>rfl
 | n :: r=>⟨.int n,r.map V.int,rfl,rfl,tX r⟩
theorem aMx {φ:Φ}{H:Hp}{a:Addr}{ns:List Int}(hL:noL K=true)(h:φ [.lst (ns.map .int)]=.ok (sc (.bl true)))(hS:SqL K H a (ns.map V.int)):spM K (clK K) φ [.ref a] H (fun v _=>v=.bl true) fun _ _ _=>False:=by
 have rd:Rd H a (.lst (ns.map V.int)):=by
  rcases hS with q | ⟨o,its,n,e,c,_⟩
  · exact q
  · exact absurd c (aLh hL e)
 refine⟨[.lst (ns.map .int)],fun _=>False,fun _ z=>z.elim,⟨.ref a,[],rfl,⟨a,ns.map V.int,rfl,?_,tX ns⟩,rfl⟩,?_⟩
 · rcases rd with q | ⟨o,q⟩
   · exact .inl (aS.mpr ⟨fun z=>z,q⟩)
   · exact .inr ⟨o,aS.mpr ⟨fun z=>z,q⟩⟩
 · rw[h]
   exact fun v H' _ r=>r
def XC.tab (a1 a2 a3 a4 a5 a6 a7 a8 a9 a10 a11 a12 a13 a14:Addr):XC->Addr
 | .NotAlike=>a1 | .BadCount=>a2 | .BadRows=>a3 | .BadRow=>a4 | .OtherSpace=>a5 | .BadSize=>a6 | .BadPlaces=>a7 | .ZeroSum=>a8 | .NoBox=>a9 | .BadTable=>a10 | .NoLine=>a11 | .BadName=>a12 | .NoRow=>a13 | .NoName=>a14
theorem aBc {t:Value}{C:Addr}{b:Bool}(n:t≠.ref C)(h1:(Dz K C).isSome=true)(h2:Eg K (.ref C)=some (.type "type"))(h3:Fh K t (.ref C)=some b):Bi K t (.ref C)=some b:=by
 unfold Bi;rw[if_neg (fun z=>n (beq_iff_eq.mp z))];show (if ((Dz K C).isSome&&Eg K (.ref C)==some (.type "type"))=true then Fh K t (.ref C) else none)=some b
 rw[if_pos (by rw[h1,h2];rfl)]
 exact h3
abbrev aJn (T:Addr):List Value:=[.ref T,.type "ValueError",.type "Exception",.type "BaseException",.type "object"]
structure XOne (K:PySem.W.Frag)(T:Addr)(n:Str)(C:Addr):Prop where
 ns:Be K mainGlobals n=some (some (.ref C))
 lk:∃ od cd sl,K.lookup C=some ⟨.type "type",od,.cls cd,sl⟩/\cd.mro=.ref C :: aJn T
 ga:Cw K (.ref C) "__getattribute__" = some (some (.builtin "BaseException.__getattribute__"))
 gh:Cw K (.ref C) "__getattr__" = some none
 cl:Cw K (.ref C) "__class__" = some (some (.builtin "object.__class__"))
structure XFlat (K:PySem.W.Frag)(T:Addr):Prop where
 ns:Be K mainGlobals "FlatError" = some (some (.ref T))
 lk:∃ od cd sl,K.lookup T=some ⟨.type "type",od,.cls cd,sl⟩/\cd.mro=aJn T
section
variable {T C:Addr}{n:Str}{l:List Value}
theorem aGe {od:Option Addr}{cd:ClassData}{sl:Array (Option Value)}(e:K.lookup C=some ⟨.type "type",od,.cls cd,sl⟩):Dz K C=some cd:=by unfold Dz;rw[e]
theorem aP5 {o:Obj}(e:K.lookup C=some o):Eg K (.ref C)=some o.cls:=by
 show (K.lookup C).map (·.cls)=_
 rw[e];rfl
theorem nR {v:Value}(h:∃ od cd sl,K.lookup C=some ⟨.type "type",od,.cls cd,sl⟩/\cd.mro=l)(ne:l≠[]):Fi K C v=some (l.contains v):=by
 obtain⟨od,cd,sl,e,m⟩:=h;unfold Fi;rw[aGe e,Ek,m,if_neg (by simpa using ne)]
theorem aBk (h:∃ od cd sl,K.lookup C=some ⟨.type "type",od,.cls cd,sl⟩/\cd.mro=l):(Dz K C).isSome=true:=by
 obtain⟨od,cd,sl,e,m⟩:=h;rw[aGe e];rfl
theorem zG (h:∃ od cd sl,K.lookup C=some ⟨.type "type",od,.cls cd,sl⟩/\cd.mro=l):Eg K (.ref C)=some (.type "type"):=by
 obtain⟨od,cd,sl,e,m⟩:=h;exact aP5 e
end
theorem aG5 {mg:Str->Option Value}{h:Heap}{T:Addr}{A:XC->Addr}(X:K.In h)(G:h.Ns mainGlobals mg)(t:XFlat K T)(o:∀ c:XC,XOne K T c.nm (A c))(inj:∀ c d:XC,A c=A d->c=d)(nT:∀ c,A c≠T)
 (ex:∀ c:XC,c≠.BadRows->c≠.NoBox->Bl K (A c) bmV "ValueError.__new__" = true):XAll K mg T:=by
 have e:∀ c,clK K c=A c:=fun c=>by unfold clK;rw[(o c).ns]
 refine⟨Em X G t.ns,⟨zG t.lk,aBk t.lk,?_,fun c=>?_⟩,⟨fun c=>?_,fun c d=>?_,fun d=>?_,fun n hn c=>?_⟩,fun c=>?_,fun c=>?_⟩
 · exact(nR t.lk (by simp)).trans (by simp)
 · rw[e];exact(nR (o c).lk (by simp)).trans (by simp)
 · rw[e]
   exact⟨(o c).ga,(o c).gh,(o c).cl,(nR (o c).lk (by simp)).trans (by simp),(nR (o c).lk (by simp)).trans (by simp),aBk (o c).lk⟩
 · rw[e,e]
   by_cases z:d=c
   · subst z
     simp[Bi]
   · refine aBc (fun q=>z (inj d c (by simpa using q))) (aBk (o c).lk) (zG (o c).lk) ((nR (o d).lk (by simp)).trans ?_)
     have q1:A c≠A d:=fun q=>z (inj c d q).symm;simp[z,q1,nT c]
 · rw[e]
   unfold Bi;rw[if_neg (by simp)]
   show (if PySem.W.kitMeta "ValueError" = true then Fi K (A d) (.type "ValueError") else none)=some true
   rw[if_pos (by decide +kernel)]
   exact(nR (o d).lk (by simp)).trans (by simp)
 · rw[e]
   refine aBc (by simp) (aBk (o c).lk) (zG (o c).lk) ?_
   simp only[Ai,Bc,or_false]at hn;rcases hn with rfl | rfl | rfl | rfl | rfl | rfl<;>rfl
 · rw[e];exact Em X G (o c).ns
 · rw[e];exact ex c
structure XRaw (K:PySem.W.Frag)(T:Addr)(n:Str)(C:Addr)(od:Option Addr)(cd:ClassData)(sl:Array (Option Value)):Prop where
 ns:Be K mainGlobals n=some (some (.ref C))
 lk:K.lookup C=some ⟨.type "type",od,.cls cd,sl⟩
 mro:cd.mro=.ref C :: aJn T
 ga:Cw K (.ref C) "__getattribute__" = some (some (.builtin "BaseException.__getattribute__"))
 gh:Cw K (.ref C) "__getattr__" = some none
 cl:Cw K (.ref C) "__class__" = some (some (.builtin "object.__class__"))
structure FRaw (K:PySem.W.Frag)(T:Addr)(od:Option Addr)(cd:ClassData)(sl:Array (Option Value)):Prop where
 ns:Be K mainGlobals "FlatError" = some (some (.ref T))
 lk:K.lookup T=some ⟨.type "type",od,.cls cd,sl⟩
 mro:cd.mro=aJn T
theorem XRaw.one {T C:Addr}{n:Str}{od:Option Addr}{cd:ClassData}{sl:Array (Option Value)}(x:XRaw K T n C od cd sl):XOne K T n C:=⟨x.ns,⟨od,cd,sl,x.lk,x.mro⟩,x.ga,x.gh,x.cl⟩
def XC.nr:XC->Nat
 | .NotAlike=>0 | .BadCount=>1 | .BadRows=>2 | .BadRow=>3 | .OtherSpace=>4 | .BadSize=>5 | .BadPlaces=>6 | .ZeroSum=>7 | .NoBox=>8 | .BadTable=>9 | .NoLine=>10 | .BadName=>11 | .NoRow=>12 | .NoName=>13
def XC.ofNr (n:Nat):XC:=[XC.NotAlike,.BadCount,.BadRows,.BadRow,.OtherSpace,.BadSize,.BadPlaces,.ZeroSum,.NoBox,.BadTable,.NoLine,.BadName,.NoRow,.NoName].getD n .NotAlike
theorem XC.of_nr (c:XC):XC.ofNr c.nr=c:=by cases c<;>rfl
theorem aOa {l:List Addr}(h:l.Nodup){i j:Nat}{x:Addr}(hi:l[i]?=some x)(hj:l[j]?=some x):i=j:=by
 obtain⟨a,_⟩:=Aj.mp hi;exact(List.getElem?_inj a h).mp (hi.trans hj.symm)
theorem XC.tab_at (a1 a2 a3 a4 a5 a6 a7 a8 a9 a10 a11 a12 a13 a14:Addr)(c:XC):[a1,a2,a3,a4,a5,a6,a7,a8,a9,a10,a11,a12,a13,a14][c.nr]?=some (XC.tab a1 a2 a3 a4 a5 a6 a7 a8 a9 a10 a11 a12 a13 a14 c):=by cases c<;>rfl
theorem xall_mk {mg:Str->Option Value}{h:Heap}{T a1 a2 a3 a4 a5 a6 a7 a8 a9 a10 a11 a12 a13 a14:Addr}{od0 od1 od2 od3 od4 od5 od6 od7 od8 od9 od10 od11 od12 od13 od14:Option Addr}{cd0 cd1 cd2 cd3 cd4 cd5 cd6 cd7 cd8 cd9 cd10 cd11 cd12 cd13 cd14:ClassData}{sl0 sl1 sl2 sl3 sl4 sl5 sl6 sl7 sl8 sl9 sl10 sl11 sl12 sl13 sl14:Array (Option Value)}
 (X:K.In h) (G:h.Ns mainGlobals mg) (t:FRaw K T od0 cd0 sl0) (o1:XRaw K T "NotAlike" a1 od1 cd1 sl1) (o2:XRaw K T "BadCount" a2 od2 cd2 sl2) (o3:XRaw K T "BadRows" a3 od3 cd3 sl3) (o4:XRaw K T "BadRow" a4 od4 cd4 sl4) (o5:XRaw K T "OtherSpace" a5 od5 cd5 sl5) (o6:XRaw K T "BadSize" a6 od6 cd6 sl6) (o7:XRaw K T "BadPlaces" a7 od7 cd7 sl7) (o8:XRaw K T "ZeroSum" a8 od8 cd8 sl8) (o9:XRaw K T "NoBox" a9 od9 cd9 sl9) (o10:XRaw K T "BadTable" a10 od10 cd10 sl10) (o11:XRaw K T "NoLine" a11 od11 cd11 sl11) (o12:XRaw K T "BadName" a12 od12 cd12 sl12) (o13:XRaw K T "NoRow" a13 od13 cd13 sl13) (o14:XRaw K T "NoName" a14 od14 cd14 sl14)
 (e1:Bl K a1 bmV "ValueError.__new__" = true) (e2:Bl K a2 bmV "ValueError.__new__" = true) (e4:Bl K a4 bmV "ValueError.__new__" = true) (e5:Bl K a5 bmV "ValueError.__new__" = true) (e6:Bl K a6 bmV "ValueError.__new__" = true) (e7:Bl K a7 bmV "ValueError.__new__" = true) (e8:Bl K a8 bmV "ValueError.__new__" = true) (e10:Bl K a10 bmV "ValueError.__new__" = true) (e11:Bl K a11 bmV "ValueError.__new__" = true) (e12:Bl K a12 bmV "ValueError.__new__" = true) (e13:Bl K a13 bmV "ValueError.__new__" = true) (e14:Bl K a14 bmV "ValueError.__new__" = true)
 (nd:[T,a1,a2,a3,a4,a5,a6,a7,a8,a9,a10,a11,a12,a13,a14].Nodup):XAll K mg T:=by
 have nd2:=Ca.mp nd;have at':=XC.tab_at a1 a2 a3 a4 a5 a6 a7 a8 a9 a10 a11 a12 a13 a14;refine aG5 (A:=XC.tab a1 a2 a3 a4 a5 a6 a7 a8 a9 a10 a11 a12 a13 a14) X G ⟨t.ns,od0,cd0,sl0,t.lk,t.mro⟩ (fun c=>?_) (fun c d q=>?_) (fun c q=>?_) fun c n1 n2=>?_
 · cases c<;>exact XRaw.one (by assumption)
 · rw[←XC.of_nr c,←XC.of_nr d,aOa nd2.2 (at' c) ((at' d).trans (congrArg some q.symm))]
 · exact nd2.1 (q▸List.mem_of_getElem? (at' c))
 · cases c<;>first | assumption | exact absurd rfl n1 | exact absurd rfl n2
structure At (K:PySem.W.Frag)(x:Str)(st:Stmt)(f:Addr)(oc kV doc pm cdv ct:Value)(od an:Option Addr)(sl:Array (Option Value)):Prop where
 ns:Be K mainGlobals x=some (some (.ref f))
 lk:K.lookup f=some ⟨oc,od,.func (Cs x x (hJ st) (fO st) (aY st) .none kV doc pm an cdv ct),sl⟩
 cd:Ei K cdv x=true
 kp:Eh K (.ref f)=true
end Mir
namespace Mir
open PySem L2
variable {X:Cx}{P:XP}{a b c e:Expr}{es:List Expr}{f g:FE}{fs:FEs}{pos p:Pos}
def toI:D->R Int
 | .int i=>.ok i
 | .bl k=>.ok (if k then 1 else 0)
 | _=>.stk
def aQv (a:FE):FE:=fun ρ=>do
 let x ← a ρ
 let i ← toI x.d
 .ok (sc (.int i))
def aCd (t:Tg)(f:FE):FS:=fun ρ=>(f ρ).at ρ fun r=>(r.give).at ρ fun x=>(t.bind x.fr x.d ρ).at ρ .nx
theorem aLl {tg:Expr}{t:Tg}(hg:PG X tg (gOf X.K t))(he:PE X e (tE X.K P f))(hs:swapsWithSole [tg] e pos.line X.env=pure false:=by rfl)(hw:swappedStores [tg] e X.env=pure none:=by rfl)
 (h1:(assignEach [tg] X.env).map (·.2)=[assign tg X.env]:=by rfl):PS X (.Assign [tg] e pos) (tS X.K P (aCd t f)):=by
 refine PS.imp (aLz he hg hs hw h1) ?_
 intro D σ H h;refine aEp (q:=fun v H1=>gOf X.K t v σ H1 D.nx) (k:=fun r ρ=>(r.give).at ρ fun x=>(t.bind x.fr x.d ρ).at ρ .nx) rfl h fun H0 T ρ v H' r d d' s g h=>?_
 cases e1:r.give with
 | stk=>simp only[e1,R.at]at h;exact h.elim
 | exc z=>unfold Res.give at e1;split at e1<;>cases e1
 | ok x =>
  simp only[e1,R.at]at h;obtain⟨ex,rx⟩:=g.give d.e e1;subst ex;cases e2:t.bind r.fr r.d ρ with
  | stk=>simp only[e2]at h;exact h.elim
  | exc z=>exact(pI _ _ _ e2).elim
  | ok ρ1 =>
   simp only[e2]at h;refine oS (G:=aZ r.fr H0 H' (Bs T σ ρ)) (fr:=r.fr) (I:=fun σ2 ρ2=>DenS X.K H0 H' T σ2 ρ2/\∀ a,iW σ2 ρ2 a->iW σ ρ a) dY (fun σ2 ρ2 j dd u ⟨D2,O2⟩ q=>?_) t _ v σ ρ ρ1 _ e2 rx ⟨d',fun _ z=>z⟩ fun σ4 ⟨d4,o4⟩=>?_
   · have:=D2.set_shr (i:=j) (Rep.same (aV (fun _ _ z _=>z) fun b z=>.inl (z.imp (O2 b) id)) q)
     exact⟨this.1,fun a z=>O2 a (this.2 a z)⟩
   · exact h σ4 H' d4 ⟨fun b o z _=>s b o z,fun b z=>.inl (o4 b z)⟩
end Mir
namespace Mir
open PySem L2
variable {X:Cx}{P:XP}{a b c e:Expr}{es:List Expr}{f g:FE}{fs:FEs}{pos p:Pos}
def rM (ds:List D):List D:=ds.zipIdx.map fun x=>.tup [.int x.2,x.1]
end Mir
namespace En
open PySem Zp PyProof.Rows
abbrev trc (t:Addr)(i:Nat):Obj:={ cls:=.type "tuple_iterator",data:=.fields #[.ref t,.int i 0] }
section
variable {prog:Program}{w:World}{A:Around}{E:Value->Shared->Prop}{s:Shared}{it t e:Addr}{i:Nat}{items:Array Value}
theorem aQs {x:Value}{Q:Value->Shared->Prop}(ho:s.heap.get? it=some (trc t i))(ht:IsTup s.heap t items)(hx:items[i]?=some x)
 (q:∀ h',h'.get? it=some (trc t (i+1))->Heap.SameBut it s.heap h'->Q x { s with heap:=h' }):wpAny (model prog w) A (Builtin.SmallTypes.nextOf (.ref it)) Q E s:=by
 have ty:s.TypeIs (.ref it) "tuple_iterator":=⟨_,ho,rfl⟩;obtain⟨o,h1,h2,n,h3⟩:=ht;have hx':items[(i:Int).toNat]?=some x:=by rw[Dc];exact hx
 refine wpAny_bind (wpAny_callSpecial?_slot (name:=Str.ofString "__next__") ty slot_tupleiter_next (wpAny_call_entry slot_tupleiter_next ty entry_tupleiter_next ?_ (args_tupleiter_next _)))
 repeat (first | assumption | (rw[hx']) | (rw[h3]) | (with_reducible refine wpAny_field ho rfl rfl ?_) | (with_reducible refine wpAny_seqItems h1 h3 ?_) | (with_reducible refine wpAny_setField_rec ho (by simp) fun h' e1 e2=>?_) | wp_step)
 exact⟨_,rfl,wpAny_pure (q h' (e1.trans rfl) e2)⟩
theorem aQ1 {Q:Value->Shared->Prop}(hh:A.handled=none)(ho:s.heap.get? it=some (trc t i))(ht:IsTup s.heap t items)(hx:items[i]?=none)
 (q:∀ h' e,Heap.ExtBut it s.heap h'->(∃ o,h'.get? e=some o/\o.cls=.type "StopIteration")->E (.ref e) { s with heap:=h' }):wpAny (model prog w) A (Builtin.SmallTypes.nextOf (.ref it)) Q E s:=by
 have ty:s.TypeIs (.ref it) "tuple_iterator":=⟨_,ho,rfl⟩;obtain⟨o,h1,h2,n,h3⟩:=ht;have hx':items[(i:Int).toNat]?=none:=by rw[Dc];exact hx
 refine wpAny_bind (wpAny_callSpecial?_slot (name:=Str.ofString "__next__") ty slot_tupleiter_next (wpAny_call_entry slot_tupleiter_next ty entry_tupleiter_next ?_ (args_tupleiter_next _)))
 repeat (first | assumption | (rw[hx']) | (rw[h3]) | (with_reducible refine wpAny_field ho rfl rfl ?_) | (with_reducible refine wpAny_seqItems h1 h3 ?_) | (with_reducible refine wpAny_setField_rec ho (by simp) fun h' e1 e2=>?_) | wp_step)
 unfold raiseNew;refine wpAny_bind (wpAny_handled ?_);rw[show A.in1.handled=none from hh]
 refine wpAny_bind (wpAny_pure (wpAny_throw (q _ _ ((e2.extBut.push _).push _) ⟨_,Aq _ rfl,rfl⟩)))
abbrev erc (it:Addr)(i:Int)(old:Value):Obj:={ cls:=.type "enumerate",data:=.fields #[.none,.bool false,.ref it,rawInt i,.none,old] }
theorem aHi {x old:Value}{Q:Fin->Shared->Prop}(he:s.heap.get? e=some (erc it i old))(ho:s.heap.get? it=some (trc t i))(ht:IsTup s.heap t items)(hx:items[i]?=some x)(ne:e≠it)
 (q:∀ h',IsEnumOut h' e it ((i:Int)+1) x s.heap.objs.size->h'.get? it=some (trc t (i+1))->h'.get? s.heap.objs.size=some { cls:=.type "tuple",data:=.seq #[.int i s.toks,x] }->(∀ b o,b≠e->b≠it->s.heap.get? b=some o->h'.get? b=some o) ->
  Q (.done (.ret (.ref s.heap.objs.size))) { s with heap:=h',toks:=s.toks+1 }):wpAny (model prog w) A (Builtin.«enumerate.__next__» ⟨[.ref e],[]⟩) Q E s:=by
 repeat (first | assumption | (with_reducible refine wpAny_field he rfl rfl ?_) | (refine aQs ho ht hx ?_) | wp_step)
 intro h1 e1 u1;have he1:h1.get? e=some (erc it i old):=u1.extBut e _ ne he;repeat (first | assumption | (with_reducible refine wpAny_field he1 rfl rfl ?_) | (with_reducible refine wpAny_setField_rec he1 (by simp) fun h2 e2 u2=>?_) | (with_reducible refine wpAny_setField_rec e2 (by simp) fun h3 e3 u3=>?_) | wp_step)
 have z:h3.objs.size=s.heap.objs.size:=u3.1.trans (u2.1.trans u1.1);have lt:e<s.heap.objs.size:=Ae he;have li:it<s.heap.objs.size:=Ae ho;have g0:(h3.push { cls:=.type "tuple",data:=.seq #[.int i s.toks,x] }).get? e=some (erc it ((i:Int)+1) old):=Ad _ (e3.trans rfl);have p0:(h3.push { cls:=.type "tuple",data:=.seq #[.int i s.toks,x] }).get? s.heap.objs.size=some { cls:=.type "tuple",data:=.seq #[.int i s.toks,x] }:=z▸Aq _ rfl;have k0:∀ b o,b≠e->h1.get? b=some o->(h3.push { cls:=.type "tuple",data:=.seq #[.int i s.toks,x] }).get? b=some o:=fun b o nb q=>Ad _ (u3.extBut b o nb (u2.extBut b o nb q))
 rw[z];generalize h3.push { cls:=.type "tuple",data:=.seq #[.int i s.toks,x] }=g at g0 p0 k0
 have a1:=Cz (Obj.mapFields fun x_1=>x_1.setIfInBounds 5 x) g0 rfl;have a2:=Cz (Obj.mapFields fun x=>x.setIfInBounds 0 (rawInt (s.heap.objs.size:Nat))) a1 rfl;have a3:=Cz (Obj.mapFields fun x=>x.setIfInBounds 1 (Value.bool false)) a2 rfl
 have up:∀ b o,b≠e->g.get? b=some o->(((g.update e (Obj.mapFields fun x_1=>x_1.setIfInBounds 5 x)).update e (Obj.mapFields fun x=>x.setIfInBounds 0 (rawInt (s.heap.objs.size:Nat)))).update e (Obj.mapFields fun x=>x.setIfInBounds 1 (Value.bool false))).get? b=some o:=fun b o nb q =>
  (Dr _ _ nb.symm).trans ((Dr _ _ nb.symm).trans ((Dr _ _ nb.symm).trans q))
 exact q _ (a3.trans rfl) (up _ _ ne.symm (k0 _ _ ne.symm e1)) (up _ _ (Ef lt) p0) fun b o n1 n2 qq=>up b o n1 (k0 b o n1 (u1.extBut b o n2 qq))
theorem dry {old:Value}{Q:Fin->Shared->Prop}(hh:A.handled=none)(he:s.heap.get? e=some (erc it i old))(ho:s.heap.get? it=some (trc t i))(ht:IsTup s.heap t items)(hx:items[i]?=none)
 (q:∀ h' a u,h'.get? a=some u->u.cls=.type "StopIteration"->Heap.ExtBut it s.heap h'->E (.ref a) { s with heap:=h' }):wpAny (model prog w) A (Builtin.«enumerate.__next__» ⟨[.ref e],[]⟩) Q E s:=by
 repeat (first | assumption | (with_reducible refine wpAny_field he rfl rfl ?_) | (refine aQ1 hh ho ht hx ?_) | wp_step)
 rintro h' a k ⟨u,z1,z2⟩
 exact q h' a u z1 z2 k
theorem nxt {o:Obj}{Q:Option Value->Shared->Prop}(ho:s.heap.get? e=some o)(hc:o.cls=.type "enumerate")
 (h:wpAny (model prog w) A.in1 (Builtin.«enumerate.__next__» ⟨[.ref e],[]⟩) (fun r s'=>∃ v,r=.done (.ret v)/\Q (some v) s') (fun x s'=>∃ a u,x=.ref a/\s'.heap.get? a=some u/\u.cls=.type "StopIteration"/\Q none s') s):wpAny (model prog w) A (pyNext (.ref e)) Q E s:=by
 have ty:s.TypeIs (.ref e) "enumerate":=⟨o,ho,hc⟩;refine wpAny_bind (wpAny_attempt (wpAny_mono (Q:=fun r s'=>∃ v,r=some v/\Q (some v) s') (wpAny_callSpecial?_slot ty F.slot_enumerate_next (wpAny_call_entry F.slot_enumerate_next ty F.entry_enumerate_next (wpAny_mono h ?_ fun _ _ e=>e) (F.args_enumerate_next_1 _))) ?_ ?_))
 · rintro _ s' ⟨v,rfl,q⟩
   exact⟨v,rfl,v,rfl,q⟩
 · rintro _ s' ⟨v,rfl,q⟩
   exact wpAny_pure q
 · rintro _ s' ⟨a,u,rfl,e1,e2,q⟩
   exact wpAny_bind (wpAny_isInstance (T:="StopIteration") (b:=true) ⟨u,e1,e2⟩ isSubtype_stop (wpAny_pure q))
end
end En
namespace En
open PySem Zp PyProof.Rows
theorem aCp (t:Addr)(items:Array Value)(n:Nat)(dc:Option Addr)(sl:Array (Option Value)) :
 Meets (Builtin.«enumerate.__new__» ⟨[.type "enumerate",.ref t],[]⟩) (fun _ R s=>s.heap.get? t=some { cls:=.type "tuple",dict:=dc,data:=.seq items n,slots:=sl } /\
  R (.ok (.ret (.ref (s.heap.push (trc t 0)).objs.size))) { s with heap:=(s.heap.push (trc t 0)).push (erc s.heap.objs.size 0 .none) }) :=
 .of_wp fun prog w A R s h=>by
  obtain⟨hp,gs,dr,tk,os⟩:=s;obtain⟨hl,h⟩:=h;have hT:IsTup (Shared.heap ⟨hp,gs,dr,tk,os⟩) t items:=⟨_,hl,rfl,n,rfl⟩;have hsub:=sub_enumerate;wp_walk using AutoSeq1.wpAny_loadPart' hl
  refine wpAny_stack_any fun stk=>wpAny_pure ?_
  split
  · rename_i c _ _ _ _ _
    rcases (c==Value.type "enumerate") with _ | _
    all_goals wp_walk using AutoSeq1.wpAny_loadPart' hl,iter_tuple hT
    all_goals exact⟨_,rfl,h⟩
  · wp_walk using AutoSeq1.wpAny_loadPart' hl,iter_tuple hT
    exact⟨_,rfl,h⟩
section
variable {prog:Program}{w:World}{A:Around}{E:Value->Shared->Prop}{s:Shared}{t:Addr}{items:Array Value}
theorem aQ6 {Q:Value->Shared->Prop}(ht:IsTup s.heap t items)
 (h:∀ h',h'.get? (s.heap.objs.size+1)=some (erc s.heap.objs.size 0 .none)->h'.get? s.heap.objs.size=some (trc t 0)->(∀ b o,s.heap.get? b=some o->h'.get? b=some o)->Q (.ref (s.heap.objs.size+1)) { s with heap:=h' }) :
 wpAny (model prog w) A (call (.type "enumerate") [.ref t]) Q E s:=by
 obtain⟨⟨c,dc,dt,sl⟩,hl,hc,n,hd⟩:=ht;cases (show c=.type "tuple" from hc)
 cases (show dt=.seq items n from hd)
 have z:(s.heap.push (trc t 0)).objs.size=s.heap.objs.size+1:=Cd ..;have e1:((s.heap.push (trc t 0)).push (erc s.heap.objs.size 0 .none)).get? (s.heap.objs.size+1)=some (erc s.heap.objs.size 0 .none):=z▸Aq _ rfl;refine callType_new F.called_enumerate (by decide) (F.typeCall_enumerate_1 _) (F.newCall_enumerate_1 _) (fun obj=>F.args_object_init_2 obj _) F.entry_enumerate_new (aCp t items n dc sl) ⟨hl,?_⟩
 rw[z];exact⟨⟨_,e1,rfl⟩,h _ e1 (Ad _ (Aq _ rfl)) fun b o q=>Ad _ (Ad _ q)⟩
end
end En
namespace Dk
open PySem Zp
def Ent (h:Heap)(d:Addr)(es:Array DictEntry)(ep:Nat):Prop:=∃ o,h.get? d=some o/\o.ExactDict/\o.data=.dict es ep
theorem Ent.ty {s:Shared}{d:Addr}{es:Array DictEntry}{ep:Nat}(x:Ent s.heap d es ep):s.TypeIs (.ref d) "dict":=by
 obtain⟨o,h1,h2,h3⟩:=x;exact⟨o,h1,h2.1⟩
section
variable {prog:Program}{w:World}{A:Around}{E:Value->Shared->Prop}{s:Shared}
abbrev krc (d:Addr)(i n ep:Nat):Obj:={ cls:=.type "dict_keyiterator",data:=.fields #[.ref d,.int i 0,.int n 0,.int ep 0] }
theorem aFz {d:Addr}{es:Array DictEntry}{ep:Nat}{Q:Value->Shared->Prop}(ne:(d==sysModules)=false)(x:Ent s.heap d es ep)
 (q:Q (.ref s.heap.objs.size) { s with heap:=s.heap.push (krc d 0 es.size ep) }):wpAny (model prog w) A (pyIter (.ref d)) Q E s:=by
 have ty:=x.ty;obtain⟨o,h1,h2,h3⟩:=x;refine wpAny_pyIter_slot ty F.slot_dict_iter (wpAny_call_entry F.slot_dict_iter ty F.entry_dict_iter ?_ (F.args_dict_iter_1 _))
 have ne':¬ (d==sysModules)=true:=by rw[ne];exact Bb
 have kc:¬ (o.cls != Value.type "dict")=true:=by rw[h2.1];decide
 repeat (first | assumption | (with_reducible refine wpAny_notOrdered_dict ty ?_) | (rw[if_neg kc]) | (rw[if_neg ne']) | (with_reducible refine wpAny_dictEntries h1 h3 ?_) | (with_reducible refine wpAny_dictEpoch h1 h3 ?_) | wp_step)
 exact⟨.ref s.heap.objs.size,rfl,"dict_keyiterator",_,⟨krc d 0 es.size ep,Aq _ rfl,rfl⟩,F.slot_dict_keyiterator_next.lookup,q⟩
theorem Ent.but {h h':Heap}{it d:Addr}{es:Array DictEntry}{ep:Nat}(x:Ent h d es ep)(u:Heap.ExtBut it h h')(n:d≠it):Ent h' d es ep:=by
 obtain⟨o,h1,h2⟩:=x;exact⟨o,u d o n h1,h2⟩
variable {it d:Addr}{es:Array DictEntry}{i ep:Nat}
theorem aHi {k:DictEntry}{Q:Fin->Shared->Prop}(ho:s.heap.get? it=some (krc d i es.size ep))(x:Ent s.heap d es ep)(ek:es[i]?=some k)
 (q:∀ h',h'.get? it=some (krc d (i+1) es.size ep)->Heap.SameBut it s.heap h'->Q (.done (.ret k.key)) { s with heap:=h' }) :
 wpAny (model prog w) A (Builtin.«dict_keyiterator.__next__» ⟨[.ref it],[]⟩) Q E s:=by
 obtain⟨o,h1,h2,h3⟩:=x;have ty:s.TypeIs (.ref it) "dict_keyiterator":=⟨_,ho,rfl⟩;have ek':(if (i:Int)<0 then none else es[(i:Int).toNat]?)=some k:=by rw[if_neg (by omega),Dc];exact ek
 repeat (first | assumption | (rw[ek']) | (with_reducible refine wpAny_isOneOf_keyiter ⟨_,e1,rfl⟩ ?_) | (with_reducible refine wpAny_typeNameOfWhole_keyiter ty ?_) | (with_reducible refine wpAny_isOneOf_keyiter ty ?_) | (with_reducible refine wpAny_dictEntries h1 h3 ?_) | (with_reducible refine wpAny_dictEpoch h1 h3 ?_) | (with_reducible refine wpAny_fieldsOf ho rfl ?_) | (with_reducible refine wpAny_setField_rec ho (by simp;decide) fun h' e1 e2=>?_) | wp_step)
 exact q h' (e1.trans rfl) e2
theorem dry {Q:Fin->Shared->Prop}(hh:A.handled=none)(ho:s.heap.get? it=some (krc d i es.size ep))(x:Ent s.heap d es ep)(ek:es.size<=i)
 (q:∀ h' e o,h'.get? e=some o->o.cls=.type "StopIteration"->Heap.ExtBut it s.heap h'->E (.ref e) { s with heap:=h' }) :
 wpAny (model prog w) A (Builtin.«dict_keyiterator.__next__» ⟨[.ref it],[]⟩) Q E s:=by
 obtain⟨o,h1,h2,h3⟩:=x;have ty:s.TypeIs (.ref it) "dict_keyiterator":=⟨_,ho,rfl⟩;have ek':(if (i:Int)<0 then none else es[(i:Int).toNat]?)=none:=by rw[if_neg (by omega),Dc];exact Array.getElem?_eq_none ek
 repeat (first | assumption | (rw[ek']) | (rw[hh]) | (with_reducible refine wpAny_typeNameOfWhole_keyiter ty ?_) | (with_reducible refine wpAny_isOneOf_keyiter ty ?_) | (with_reducible refine wpAny_dictEntries h1 h3 ?_) | (with_reducible refine wpAny_dictEpoch h1 h3 ?_) | (with_reducible refine wpAny_fieldsOf ho rfl ?_) | (with_reducible refine wpAny_setField_rec ho (by simp;decide) fun h' e1 e2=>?_) | wp_step)
 unfold raiseNew;refine wpAny_bind (wpAny_handled ?_);rw[hh]
 refine wpAny_bind (wpAny_pure (wpAny_throw (q _ _ _ (Aq _ rfl) rfl ((e2.extBut.push _).push _))))
theorem nxt {o:Obj}{Q:Option Value->Shared->Prop}(ho:s.heap.get? it=some o)(hc:o.cls=.type "dict_keyiterator")
 (h:wpAny (model prog w) A.in1 (Builtin.«dict_keyiterator.__next__» ⟨[.ref it],[]⟩) (fun r s'=>∃ v,r=.done (.ret v)/\Q (some v) s') (fun e s'=>∃ a u,e=.ref a/\s'.heap.get? a=some u/\u.cls=.type "StopIteration"/\Q none s') s):wpAny (model prog w) A (pyNext (.ref it)) Q E s:=by
 have ty:s.TypeIs (.ref it) "dict_keyiterator":=⟨o,ho,hc⟩;refine wpAny_bind (wpAny_attempt (wpAny_mono (Q:=fun r s'=>∃ v,r=some v/\Q (some v) s') (wpAny_callSpecial?_slot ty F.slot_dict_keyiterator_next (wpAny_call_entry F.slot_dict_keyiterator_next ty F.entry_dict_keyiterator_next (wpAny_mono h ?_ fun _ _ e=>e) (F.args_dict_keyiterator_next_1 _))) ?_ ?_))
 · rintro _ s' ⟨v,rfl,q⟩
   exact⟨v,rfl,v,rfl,q⟩
 · rintro _ s' ⟨v,rfl,q⟩
   exact wpAny_pure q
 · rintro _ s' ⟨a,u,rfl,e1,e2,q⟩
   exact wpAny_bind (wpAny_isInstance (T:="StopIteration") (b:=true) ⟨u,e1,e2⟩ isSubtype_stop (wpAny_pure q))
theorem aP9 {S:Addr}{h0:Heap}(hh:A.handled=none)(n1:d≠it)(n2:S≠it)(n3:S≠d) :
 Feed prog w A it S (fun n vs h=>∃ i,i+n=es.size/\vs=(es.toList.take i).map (·.key)/\h.get? it=some (krc d i es.size ep)/\Ent h d es ep/\Out [it,S] h0 h) (fun vs h=>vs=es.toList.map (·.key)/\Out [it,S] h0 h) where
 more:=fun n vs s Q E ⟨i,hi,hv,ho,x,k⟩ q=>by
  have lt:i<es.size:=by omega
  refine nxt ho rfl (aHi ho x (Array.getElem?_eq_getElem lt) fun h' e u=>⟨_,rfl,q _ h' ⟨i+1,by omega,?_,e,x.but u.extBut n1,k.then (Out.of u.extBut (by simp))⟩ fun o e=>u.extBut S o n2 e⟩)
  rw[hv,List.take_add_one];simp[lt]
 over:=fun vs s Q E ⟨i,hi,hv,ho,x,k⟩ q=>by
  refine nxt ho rfl (dry (show A.in1.handled=none from hh) ho x (by omega) fun h' e o e1 e2 u=>⟨e,o,rfl,e1,e2,q h' ⟨?_,k.then (Out.of u (by simp))⟩ fun o e=>u S o n2 e⟩)
  rw[hv,List.take_of_length_le (by simp;omega)]
 blind:=fun n vs h h' ⟨i,hi,hv,ho,x,k⟩ u=>⟨i,hi,hv,u.extBut it _ n2.symm ho,x.but u.extBut n3.symm,k.then (Out.of u.extBut (by simp))⟩
end
end Dk
namespace Dk
open PySem Zp PySem.W
section
variable {prog:Program}{w:World}{A:Around}{E:Value->Shared->Prop}{s:Shared}{d S:Addr}{es:Array DictEntry}{ep:Nat}
theorem aCm {c:Nat}{r:Value}{R:Result->Shared->Prop}(hh:A.handled=none)(ne:(d==sysModules)=false)(x:Ent s.heap d es ep)(e:s.heap.get? S=some (mk [] c))(few:es.size<=sizeLine)(nS:S≠d)
 (q:∀ h' c',h'.get? S=some (mk (es.toList.map (·.key)) c')->(∀ b o,b≠S->s.heap.get? b=some o->h'.get? b=some o)->R (.ok (.ret r)) { s with heap:=h' }) :
 wpAny (model prog w) A.in1 (Builtin.List.listExtendWith (.ref S) (.ref d) r) (fun fin s'=>match fin with | .done f=>R (.ok f) s' | .again c'=>c'.quiet=true/\codeAny (model prog w) A c' R s') (fun e s'=>R (.error e) s') s:=by
 have same:Builtin.List.listSameRef (.ref S) (.ref d)=false:=by simp[Builtin.List.listSameRef,nS]
 have t1:(Value.type "dict" == Value.type "list")=false:=by decide
 have t2:(Value.type "dict" == Value.type "tuple")=false:=by decide
 have cond:(Builtin.List.listSameRef (.ref S) (.ref d)||Value.type "dict" == Value.type "list" || Value.type "dict" == Value.type "tuple")=false:=by rw[same,t1,t2];rfl
 refine wpAny_bind (wpAny_typeOf x.ty ?_)
 simp only[cond,Bk,if_false];have I:s.heap.objs.size≠S:=Ef (Ae e);have ld:d<s.heap.objs.size:=let ⟨_,h1,_⟩:=x;Ae h1
 have x1:Ent (s.heap.push (krc d 0 es.size ep)) d es ep:=let ⟨o,h1,h2⟩:=x;⟨o,Ad _ h1,h2⟩
 have e1:(s.heap.push (krc d 0 es.size ep)).get? S=some (mk [] c):=Ad _ e;refine wpAny_bind (aFz ne x (wpAny_bind (wpAny_holding (kdl_hint_dict x1.ty ?_))))
 refine wpAny_bind (wpAny_rule (wpAny_bind (wpAny_bind (upd e1 (by decide) (by decide) fun h2 c2 e2 u2=>?_))))
 refine upd e2 (by decide) (by decide) fun h3 c3 e3 u3=>wpAny_pure ⟨plainId_quiet PySem.F.plain_extend_loop _,?_⟩
 have u:Heap.SameBut S (s.heap.push (krc d 0 es.size ep)) h3:=⟨u3.1.trans u2.1,fun b m=>(u3.2 b m).trans (u2.2 b m)⟩;have it3:h3.get? s.heap.objs.size=some (krc d 0 es.size ep):=u.extBut _ _ I (Aq _ rfl);refine aO1 (aP9 (d:=d) (es:=es) (ep:=ep) (h0:=h3) (show A.in1.handled=none from hh) (Ax ld) I.symm nS) r es.size [] c3 _ ⟨0,by omega,rfl,it3,x1.but u.extBut nS.symm,fun _ _ _ z=>z⟩ e3 (by simpa using few) fun h' us c' l e4=>?_
 obtain⟨l1,l2⟩:=l;subst l1;refine q h' c' e4 fun b o nb hb=>l2 b o ?_ (u.extBut b o nb (Ad _ hb))
 simp only[Ai,Bc,or_false,not_or];exact⟨Ax (Ae hb),nb⟩
theorem aDp {Q:List Value->Shared->Prop}(hh:A.handled=none)(ne:(d==sysModules)=false)(x:Ent s.heap d es ep)(few:es.size<=sizeLine)
 (q:∀ h',(∀ b o,s.heap.get? b=some o->h'.get? b=some o)->Q (es.toList.map (·.key)) { s with heap:=h' }):wpAny (model prog w) A (collect (.ref d)) Q E s:=by
 have ld:d<s.heap.objs.size:=let ⟨_,h1,_⟩:=x;Ae h1
 have e0:(s.heap.push (mk [] 0)).get? s.heap.objs.size=some (mk [] 0):=Aq _ rfl;have x0:Ent (s.heap.push (mk [] 0)) d es ep:=let ⟨o,h1,h2⟩:=x;⟨o,Ad _ h1,h2⟩
 refine wpAny_bind (wpAny_runValue (codeAny_builtin F.entry_proto_collect (by
  rw[Around.under_plainId F.plain_proto_collect]
  refine wpAny_bind (m:=newList []) (wpAny_newObj_type (wpAny_pure ⟨plainId_quiet F.plain_list_iadd _,codeAny_builtin F.entry_list_iadd (by
   rw[Around.under_plainId F.plain_list_iadd];refine wpAny_mono (aCm (R:=fun r s'=>r=.ok (.ret (.ref s.heap.objs.size))/\∃ h' c',s'={ s with heap:=h' }/\h'.get? s.heap.objs.size=some (mk (es.toList.map (·.key)) c')/\∀ b o,b≠s.heap.objs.size->(s.heap.push (mk [] 0)).get? b=some o->h'.get? b=some o) (s:={ s with heap:=s.heap.push (mk [] 0) }) (c:=0) hh ne x0 e0 few (Ef ld) fun h' c' e1 k1=>⟨rfl,h',c',rfl,e1,k1⟩) ?_ fun _ _ z=>nomatch z.1
   have fin:∀ h' c',h'.get? s.heap.objs.size=some (mk (es.toList.map (·.key)) c')->(∀ b o,b≠s.heap.objs.size->(s.heap.push (mk [] 0)).get? b=some o->h'.get? b=some o)->wpAny (model prog w) A (load s.heap.objs.size >>= fun ob=>match ob.data with | .seq xs _=>pure xs.toList | _=>unsupported "internal:collect") Q E { s with heap:=h' }:=fun h' c' e1 k1=>by
    refine wpAny_bind (wpAny_load e1 (wpAny_pure ?_))
    have z:(es.toList.map (·.key)).toArray.toList=es.toList.map (·.key):=by simp
    rw[z];exact q h' fun b o hb=>k1 b o (Ax (Ae hb)) (Ad _ hb)
   intro f s1 z;cases f with
   | done f =>
    obtain⟨z,h',c',rfl,e1,k1⟩:=z;cases z;exact fin h' c' e1 k1
   | again c1=>exact⟨z.1,codeAny_mono z.2 fun r s2 y=>by obtain⟨rfl,h',c',rfl,e1,k1⟩:=y;exact fin h' c' e1 k1⟩)⟩)))))
end
end Dk
namespace Srt
open PySem PySem.W PyProof.Rows
def pw (lt:Nat->Nat->Bool)(n:Nat):KasT α->(α->Prop)->Prop
 | .ret a,Q=>Q a
 | .ask i j k,Q=>i<n/\j<n/\pw lt n (k (lt i j)) Q
section
variable {lt:Nat->Nat->Bool}{n:Nat}
theorem kS {α β:Type}{f:α->KasT β}{Q:β->Prop}:∀ {t:KasT α},pw lt n t (fun a=>pw lt n (f a) Q)->pw lt n (t.bind f) Q
 | .ret _,h=>h
 | .ask _ _ _,⟨h1,h2,h3⟩=>⟨h1,h2,kS h3⟩
theorem eL {α:Type}{Q Q':α->Prop}(hq:∀ a,Q a->Q' a):∀ {t:KasT α},pw lt n t Q->pw lt n t Q'
 | .ret _,h=>hq _ h
 | .ask _ _ _,⟨h1,h2,h3⟩=>⟨h1,h2,eL hq h3⟩
theorem aJ6 {α:Type}{cmp:Nat->Nat->(Bool->Shared->Prop)->Shared->Prop}{I:Shared->Prop}(hc:∀ i j C s,i<n->j<n->I s->(∀ s',I s'->C (lt i j) s')->cmp i j C s){R:α->Prop}{Q:α->Shared->Prop}(hq:∀ a s,R a->I s->Q a s) :
 ∀ {t:KasT α} {s:Shared},pw lt n t R->I s->t.kasWp cmp Q s
 | .ret _,_,h,i=>hq _ _ h i
 | .ask _ _ _,_,⟨h1,h2,h3⟩,i=>hc _ _ _ _ h1 h2 i fun s' i'=>aJ6 hc hq h3 i'
def at' (p:Array Nat)(k:Nat):Nat:=p.getD k 0
def Le (lt:Nat->Nat->Bool)(a b:Nat):Prop:=lt b a=false
structure Ord (lt:Nat->Nat->Bool):Prop where
 tr:∀ {a b c},Le lt a b->Le lt b c->Le lt a c
 tot:∀ {a b},lt a b=true->Le lt a b
theorem Ord.refl (o:Ord lt)(a:Nat):Le lt a a:=by
 cases h:lt a a with
 | false=>exact h
 | true=>exact o.tot h
def Inv (n:Nat)(p:Array Nat):Prop:=p.Perm (Bd n).toArray
theorem Inv.size {p:Array Nat}(h:Inv n p):p.size=n:=by simpa using h.size_eq
theorem Inv.bd {p:Array Nat}(h:Inv n p){k:Nat}(hk:k<n):at' p k<n:=by
 have hk':k<p.size:=by rw[h.size];exact hk
 have:p[k]∈(Bd n).toArray:=h.mem_iff.mp (Array.getElem_mem hk')
 unfold at';simpa[Array.getD,hk'] using this
theorem kC {p:Array Nat}{i j:Nat}(hj:j<=p.size)(k:Nat):at' (kas_rev p i j) k=if i<=k/\k<j then at' p (i+j-1-k) else at' p k:=by
 have e:=getElem?_mirror_all (xs:=p) (i:=i) hj k;have g:∀ (q:Array Nat) (j:Nat),at' q j=(q[j]?).getD 0:=fun q j=>Array.getD_eq_getD_getElem? ..;rw[g,g,g,kas_rev,e];split<;>rfl
theorem aEj {p:Array Nat}{s d:Nat}(hs:s<p.size)(hd:d<=s)(k:Nat):at' (bubble p s d) k=if k=s-d then at' p s else if s-d<k/\k<=s then at' p (k-1) else at' p k:=by
 have e:=(getElem?_bubble hs d hd k);have g:∀ (q:Array Nat) (j:Nat),at' q j=(q[j]?).getD 0:=fun q j=>Array.getD_eq_getD_getElem? ..;rw[g,g,g,g,e];split
 · rfl
 · split<;>rfl
theorem Inv.rev {p:Array Nat}(h:Inv n p)(i j:Nat):Inv n (kas_rev p i j):=(mirror_perm _ _ _ _).trans h
theorem Inv.bub {p:Array Nat}(h:Inv n p)(i j:Nat):Inv n (bubble p i j):=(bubble_perm _ _ _).trans h
def Up (lt:Nat->Nat->Bool)(p:Array Nat)(m:Nat):Prop:=∀ i j,i<=j->j<m->Le lt (at' p i) (at' p j)
def Dn (lt:Nat->Nat->Bool)(p:Array Nat)(m:Nat):Prop:=∀ i j,i<=j->j<m->Le lt (at' p j) (at' p i)
theorem Up.step (o:Ord lt){p:Array Nat}{m:Nat}(h:Up lt p m)(hm:1<=m)(e:Le lt (at' p (m-1)) (at' p m)):Up lt p (m+1):=fun i j hij hj=>by
 by_cases h1:j<m
 · exact h i j hij h1
 · have:j=m:=by omega
   subst this;by_cases h2:i=j
   · subst h2;exact o.refl _
   · exact o.tr (h i (j-1) (by omega) (by omega)) e
theorem Dn.step (o:Ord lt){p:Array Nat}{m:Nat}(h:Dn lt p m)(hm:1<=m)(e:Le lt (at' p m) (at' p (m-1))):Dn lt p (m+1):=fun i j hij hj=>by
 by_cases h1:j<m
 · exact h i j hij h1
 · have:j=m:=by omega
   subst this;by_cases h2:i=j
   · subst h2;exact o.refl _
   · exact o.tr e (h i (j-1) (by omega) (by omega))
theorem aAn (o:Ord lt){p:Array Nat}(ip:Inv n p):∀ (f a:Nat),1<=a->a+f<=n->Up lt p a->pw lt n (kas_asc p f a) fun m=>a<=m/\m<=a+f/\Up lt p m/\(m=a+f\/lt (at' p m) (at' p (m-1))=true)
 | 0,a,h1,h2,u=>⟨Af _,Af _,u,.inl rfl⟩
 | f+1,a,h1,h2,u=>by
  refine⟨ip.bd (by omega),ip.bd (by omega),?_⟩
  cases c:lt (p.getD a 0) (p.getD (a-1) 0) with
  | true=>exact⟨Af _,by omega,u,.inr c⟩
  | false =>
   refine eL ?_ (aAn o ip f (a+1) (by omega) (by omega) (u.step o h1 c))
   rintro m ⟨q1,q2,q3,q4⟩
   exact⟨by omega,by omega,q3,q4.imp (fun z=>by omega) id⟩
def Eqs (lt:Nat->Nat->Bool)(p:Array Nat)(m q:Nat):Prop:=∀ i j,m-(q+1)<=i->i<m->m-(q+1)<=j->j<m->Le lt (at' p i) (at' p j)
theorem Dn.rev (o:Ord lt){p:Array Nat}{m q:Nat}(h:Dn lt p m)(e:Eqs lt p m q)(hm:m<=p.size):Dn lt (kas_rev p (m-(q+1)) m) m:=fun i j hij hj=>by
 rw[kC hm,kC hm];split
 · split
   · exact e _ _ (by omega) (by omega) (by omega) (by omega)
   · exact h _ _ (by omega) (by omega)
 · split
   · omega
   · exact h _ _ hij hj
theorem oX (o:Ord lt):∀ (f:Nat) (p:Array Nat) (m q:Nat),Inv n p->1<=m->q+1<=m->m+f<=n->Dn lt p m->Eqs lt p m q->pw lt n (kas_desc f p m q) fun r=>Inv n r.1/\m<=r.2.1/\r.2.1<=m+f/\Dn lt r.1 r.2.1/\r.2.2+1<=r.2.1/\Eqs lt r.1 r.2.1 r.2.2
 | 0,p,m,q,ip,h1,h2,h3,d,e=>⟨ip,Af _,Af _,d,h2,e⟩
 | f+1,p,m,q,ip,h1,h2,h3,d,e=>by
  have one:∀ p':Array Nat,Eqs lt p' (m+1) 0:=fun p' i j a1 a2 a3 a4=>by
   have:i=j:=by omega
   subst this;exact o.refl _
  refine⟨ip.bd (by omega),ip.bd (by omega),?_⟩
  cases c:lt (p.getD m 0) (p.getD (m-1) 0) with
  | true =>
   simp only[if_true];have cc:Le lt (at' p m) (at' p (m-1)):=o.tot c;by_cases hq:q>0
   · rw[if_pos hq]
     refine eL ?_ (oX o f (kas_rev p (m-(q+1)) m) (m+1) 0 (ip.rev _ _) (by omega) (by omega) (by omega) ?_ (one _))
     · rintro r ⟨q1,q2,q3,q4⟩
       exact⟨q1,by omega,by omega,q4⟩
     · refine(d.rev o e (by rw[ip.size];omega)).step o h1 ?_
       rw[kC (by rw[ip.size];omega),kC (by rw[ip.size];omega),if_neg (by omega),if_pos (by omega)]
       exact o.tr cc (e _ _ (by omega) (by omega) (by omega) (by omega))
   · rw[if_neg hq]
     refine eL ?_ (oX o f p (m+1) 0 ip (by omega) (by omega) (by omega) (d.step o h1 cc) (one _))
     rintro r ⟨q1,q2,q3,q4⟩
     exact⟨q1,by omega,by omega,q4⟩
  | false =>
   have c1:Le lt (at' p (m-1)) (at' p m):=c;simp only[if_false,Bk];refine⟨ip.bd (by omega),ip.bd (by omega),?_⟩
   cases c':lt (p.getD (m-1) 0) (p.getD m 0) with
   | true=>exact⟨ip,Af _,Cm _ _,d,h2,e⟩
   | false =>
    have c2:Le lt (at' p m) (at' p (m-1)):=c';simp only[if_false,Bk];refine eL ?_ (oX o f p (m+1) (q+1) ip (by omega) (by omega) (by omega) (d.step o h1 c2) ?_)
    · rintro r ⟨q1,q2,q3,q4⟩
      exact⟨q1,by omega,by omega,q4⟩
    · intro i j a1 a2 a3 a4
      by_cases hi:i=m
      · by_cases hj:j=m
        · rw[hi,hj];exact o.refl _
        · rw[hi];exact o.tr c2 (e _ _ (by omega) (by omega) (by omega) (by omega))
      · by_cases hj:j=m
        · rw[hj];exact o.tr (e _ (m-1) (by omega) (by omega) (by omega) (by omega)) c1
        · exact e _ _ (by omega) (by omega) (by omega) (by omega)
def Cnt (lt:Nat->Nat->Bool)(n:Nat)(r:Nat×Array Nat):Prop:=Inv n r.2/\1<=r.1/\r.1<=n/\Up lt r.2 r.1
theorem aA8 (o:Ord lt){p:Array Nat}{m:Nat}(ip:Inv n p)(h1:1<=m)(h2:m<=n)(d:Dn lt p m):pw lt n (kas_tail3 m n p) (Cnt lt n):=by
 refine kS (eL ?_ (aAn o (ip.rev 0 m) (n-m) m h1 (by omega) fun i j hij hj=>?_))
 · rintro a ⟨q1,q2,q3,_⟩
   exact⟨ip.rev 0 m,by omega,by omega,q3⟩
 · rw[kC (by rw[ip.size];omega),kC (by rw[ip.size];omega),if_pos (by omega),if_pos (by omega)]
   exact d _ _ (by omega) (by omega)
theorem oF (o:Ord lt){p:Array Nat}{m:Nat}(ip:Inv n p)(h1:1<=m)(h2:m+1<=n)(d:Dn lt p (m+1)):pw lt n (kas_descPart m n p) (Cnt lt n):=by
 refine kS (eL ?_ (oX o (n-(m+1)) p (m+1) 0 ip (by omega) (by omega) (by omega) d fun i j a1 a2 a3 a4=>?_))
 · rintro⟨p',m',q'⟩ ⟨q1,q2,q3,q4,q5,q6⟩
   dsimp only at q1 q2 q3 q4 q5 q6 ⊢
   split
   · exact aA8 o (q1.rev _ _) (by omega) (by omega) (q4.rev o q6 (by rw[q1.size];omega))
   · exact aA8 o q1 (by omega) (by omega) q4
 · have:i=j:=by omega
   subst this;exact o.refl _
theorem aGg (o:Ord lt){p:Array Nat}(ip:Inv n p)(hn:1<=n):pw lt n (kas_count n p) (Cnt lt n):=by
 refine kS (eL ?_ (aAn o ip (n-1) 1 (Af _) (by omega) fun i j hij hj=>?_))
 · rintro m ⟨q1,q2,q3,q4⟩
   by_cases hm:m=n
   · rw[if_pos (by simpa using hm)]
     exact⟨ip,q1,by omega,q3⟩
   · rw[if_neg (by simpa using hm)]
     have c:Le lt (at' p m) (at' p (m-1)):=by
      rcases q4 with z | z
      · omega
      · exact o.tot z
     by_cases h1:m>1
     · rw[if_pos h1]
       refine⟨ip.bd (by omega),ip.bd (by omega),?_⟩
       cases e:lt (p.getD 0 0) (p.getD (m-1) 0) with
       | true=>exact⟨ip,q1,by omega,q3⟩
       | false =>
        simp only[if_false,Bk];have e':Le lt (at' p (m-1)) (at' p 0):=e;have all:∀ i j,i<m->j<m->Le lt (at' p i) (at' p j):=fun i j hi hj=>o.tr (q3 i (m-1) (by omega) (by omega)) (o.tr e' (q3 0 j (Bz _) hj))
        refine oF o (ip.rev 0 m) q1 (by omega) fun i j hij hj=>?_
        have hs:m<=p.size:=by rw[ip.size];omega
        rw[kC hs,kC hs];by_cases hj':j<m
        · rw[if_pos (by omega),if_pos (by omega)]
          exact all _ _ (by omega) (by omega)
        · rw[if_neg (by omega)]
          by_cases hi':i<m
          · rw[if_pos (by omega)]
            have:j=m:=by omega
            subst this;exact o.tr c (all _ _ (by omega) (by omega))
          · rw[if_neg (by omega)]
            have:i=j:=by omega
            subst this;exact o.refl _
     · rw[if_neg h1]
       have:m=1:=by omega
       subst this;refine oF o ip q1 (by omega) fun i j hij hj=>?_
       by_cases h:i=j
       · subst h;exact o.refl _
       · have:i=0/\j=1:=by omega
         rw[this.1,this.2];exact c
 · have:i=j:=by omega
   subst this;exact o.refl _
theorem qU (o:Ord lt){p:Array Nat}{k:Nat}(ip:Inv n p)(hk:k<n)(u:Up lt p k):∀ (f l r:Nat),r<=l+f->r<=k->l<=k->(∀ i,i<l->Le lt (at' p i) (at' p k))->(∀ i,r<=i->i<k->Le lt (at' p k) (at' p i)) ->
 pw lt n (kas_place p k f l r) fun m=>m<=k/\(∀ i,i<m->Le lt (at' p i) (at' p k))/\∀ i,m<=i->i<k->Le lt (at' p k) (at' p i)
 | 0,l,r,h1,h2,h3,h4,h5=>⟨h3,h4,fun i a b=>h5 i (by omega) b⟩
 | f+1,l,r,h1,h2,h3,h4,h5=>by
  unfold kas_place;split
  · exact⟨h3,h4,fun i a b=>h5 i (by omega) b⟩
  · rename_i hlr
    refine⟨ip.bd hk,ip.bd (by omega),?_⟩
    cases c:lt (p.getD k 0) (p.getD ((l+r)/2) 0) with
    | true =>
     simp only[if_true];have cc:Le lt (at' p k) (at' p ((l+r)/2)):=o.tot c;exact qU o ip hk u f l ((l+r)/2) (by omega) (by omega) h3 h4 fun i a b=>o.tr cc (u _ _ a b)
    | false =>
     simp only[if_false,Bk];have cc:Le lt (at' p ((l+r)/2)) (at' p k):=c;exact qU o ip hk u f ((l+r)/2+1) r (by omega) h2 (by omega) (fun i a=>o.tr (u i ((l+r)/2) (by omega) (by omega)) cc) h5
theorem aEb (o:Ord lt):∀ (f:Nat) (p:Array Nat) (k:Nat),Inv n p->k+f<=n->Up lt p k->pw lt n (kas_bin f p k) fun p'=>Inv n p'/\Up lt p' (k+f)
 | 0,p,k,ip,h,u=>⟨ip,u⟩
 | f+1,p,k,ip,h,u=>by
  refine kS (eL ?_ (qU o ip (by omega) u k 0 k (by omega) (Af _) (Bz _) (fun i z=>absurd z (Nat.not_lt_zero _)) fun i a b=>by omega))
  rintro m ⟨q1,q2,q3⟩
  refine eL ?_ (aEb o f (bubble p k (k-m)) (k+1) (ip.bub _ _) (by omega) fun i j hij hj=>?_)
  · rintro p' ⟨w1,w2⟩
    exact⟨w1,by rw[show k+(f+1)=k+1+f by omega];exact w2⟩
  · have hs:k<p.size:=by rw[ip.size];omega
    rw[aEj hs (by omega),aEj hs (by omega)]
    by_cases i1:i=k-(k-m)
    · rw[if_pos i1]
      by_cases j1:j=k-(k-m)
      · rw[if_pos j1];exact o.refl _
      · rw[if_neg j1,if_pos (by omega)]
        exact q3 _ (by omega) (by omega)
    · rw[if_neg i1]
      by_cases j1:j=k-(k-m)
      · rw[if_pos j1,if_neg (by omega)]
        exact q2 _ (by omega)
      · rw[if_neg j1]
        by_cases i2:k-(k-m)<i/\i<=k
        · rw[if_pos i2,if_pos (by omega)]
          exact u _ _ (by omega) (by omega)
        · rw[if_neg i2]
          by_cases j2:k-(k-m)<j/\j<=k
          · rw[if_pos j2];exact u _ _ (by omega) (by omega)
          · rw[if_neg j2];exact u _ _ (by omega) (by omega)
theorem aId (o:Ord lt)(hn:1<=n):pw lt n (kas_sort n) fun p=>Inv n p/\Up lt p n:=by
 refine kS (eL ?_ (aGg o (show Inv n (Bd n).toArray from Array.Perm.refl _) hn))
 rintro⟨m,p⟩ ⟨q1,q2,q3,q4⟩
 dsimp only at q1 q2 q3 q4 ⊢
 split
 · refine eL ?_ (aEb o (n-max m 1) p (max m 1) q1 (by omega) ?_)
   · rintro p' ⟨w1,w2⟩
     exact⟨w1,by rw[show n=max m 1+(n-max m 1) by omega];exact w2⟩
   · rw[show max m 1=m by omega];exact q4
 · exact⟨q1,by rw[show n=m by omega];exact q4⟩
end
end Srt
namespace Srt
open PySem PySem.W PyProof.Rows
def kA (t s:Shared):Prop:=∃ tk,s={ t with toks:=tk }
theorem kA.refl (t:Shared):kA t t:=⟨t.toks,rfl⟩
section
variable {prog:Program}{w:World}{A:Around}{E:Value->Shared->Prop}{s:Shared}{lt:Nat->Nat->Bool}
def kO (prog:Program)(w:World)(A:Around)(lt:Nat->Nat->Bool)(vs:List Value)(κ:SortKind)(t:Shared):Prop :=
 ∀ i j C s1,i<vs.length->j<vs.length->kA t s1->(∀ s2,kA t s2->C (lt i j) s2)->kas_ask prog w A κ vs i j C s1
theorem aCc (o:Ord lt){a:Addr}{vs:List Value}{n:Nat}{P:PySem.Fin->Shared->Prop}(at0:s.heap.get? a=some (seqObj "list" vs.toArray n))(few:vs.length<64)
 (ask:2<=vs.length->∀ t:Shared,(∀ b x,b≠a->s.heap.get? b=some x->t.heap.get? b=some x)->wpAny (model prog w) A (keyKind' vs.toArray) (fun κ t'=>kA t t'/\kO prog w A lt vs κ t) (fun _ _=>False) t)
 (fin:∀ (p:Array Nat) (h':Heap) (tk c:Nat),Inv vs.length p->Up lt p vs.length->(∀ b x,b≠a->s.heap.get? b=some x->h'.get? b=some x)->h'.get? a=some (seqObj "list" (Ey (p.toList.map fun i=>vs.getD i Value.none)) c)->P (.done (.ret .none)) { s with heap:=h',toks:=tk }) :
 wpAny (model prog w) A (Builtin.«list.sort» (⟨[.ref a],[]⟩)) P E s:=by
 have lts:a<s.heap.objs.size:=Ae at0;have line:vs.length<=sizeLine:=by rw[sizeLine_eq];omega
 rw[list_sort_plain];refine wpAny_bind (listItems_at at0 rfl ?_)
 refine wpAny_bind (listUpdate_at at0 rfl ?_ (by rw[Ag];exact line) (Bz _))
 generalize hU:s.heap.update a (Obj.mapSeq fun _=>(#[]:Array Value))=U
 have sb:Heap.SameBut a s.heap U:=hU▸Heap.SameBut.update s.heap a _;obtain⟨ep,atU⟩:∃ ep,U.get? a=some (seqObj "list" #[] ep):=⟨_,hU▸get?_update_seq at0 fun _=>#[]⟩;refine wpAny_bind (seqEpoch_at atU rfl ?_)
 refine wpAny_bind (wpAny_newTuple ?_ line)
 refine wpAny_bind (wpAny_newList (wpAny_holding ?_) (Bz _))
 generalize hV:(U.push (seqObj "tuple" vs.toArray 0)).push (seqObj "list" #[] 0)=Vh
 have up:∀ b x,U.get? b=some x->Vh.get? b=some x:=fun b x q=>hV▸Ad _ (Ad _ q);have kp:∀ b x,b≠a->s.heap.get? b=some x->Vh.get? b=some x:=fun b x nb q=>up b x ((sb.2 b nb).trans q);show wpAny (model prog w) A _ P E { s with heap:=Vh }
 dsimp only
 have size:∀ (p:Array Nat) (out:Array Value),out=Ey (p.toList.map fun i=>vs.getD i Value.none)->Inv vs.length p->out.size<=sizeLine+1:=fun p out ho ip=>by
  rw[ho,Ag,Ab,Array.length_toList,ip.size];exact Nat.le_succ_of_le line
 have last:∀ (p:Array Nat) (tk:Nat) (out:Array Value),out=Ey (p.toList.map fun i=>vs.getD i Value.none)->Inv vs.length p->Up lt p vs.length->P (.done (.ret .none)) { s with heap:=Vh.update a (Obj.mapSeq fun _=>out),toks:=tk }:=fun p tk out ho ip u=>by
  have sv:=Heap.SameBut.update Vh a (Obj.mapSeq fun _=>out);obtain⟨c,atc⟩:∃ c,(Vh.update a (Obj.mapSeq fun _=>out)).get? a=some (seqObj "list" out c):=⟨_,get?_update_seq (up _ _ atU) fun _=>out⟩;exact fin p _ tk c ip u (fun b x nb q=>(sv.2 b nb).trans (kp b x nb q)) (by rw[←ho];exact atc)
 by_cases two:vs.toArray.size<2
 · rw[if_pos two,if_pos two]
   have tw:vs.length<2:=by simpa using two
   refine wpAny_bind (wpAny_pure ?_)
   rw[StateT.run_pure];refine wpAny_bind (wpAny_pure ?_)
   have ident:(arrOf (SortSt.mk' general' (vs.toArray.zip vs.toArray) #[] 7 none)).map (·.2)=Ey ((Bd vs.length).toArray.toList.map fun i=>vs.getD i Value.none):=by
    show (vs.toArray.zip vs.toArray).map (·.2)=_
    match vs,tw with
    | [],_=>simp
    | [v],_=>simp
   have alone:Up lt (Bd vs.length).toArray vs.length:=fun i j hij hj=>by
    have:i=j:=by omega
    subst this;exact o.refl _
   dsimp only
   refine wpAny_bind (seqEpoch_at (up _ _ atU) rfl (wpAny_bind (listUpdate_at (up _ _ atU) rfl ?_ (Bz _) (size (Bd vs.length).toArray _ ident (show Inv vs.length (Bd vs.length).toArray from Array.Perm.refl _)))))
   simp only[if_false,Bk,bne_self_eq_false];exact wpAny_pure (last (Bd vs.length).toArray s.toks _ ident (show Inv vs.length (Bd vs.length).toArray from Array.Perm.refl _) alone)
 · rw[if_neg two,if_neg two]
   have tw:2<=vs.length:=by simpa using two
   refine wpAny_bind (wpAny_mono (ask tw { s with heap:=Vh } kp) (fun κ t' ⟨lk,an⟩=>?_) fun _ _ z=>z.elim)
   obtain⟨tk0,e0⟩:=lk;subst e0
   refine wpAny_bind (wpAny_mono (kat_run (ks:=vs) (vs:=vs) (κ:=κ) (Q:=fun st' s'=>∃ p:Array Nat,arrOf st'=p.map (kas_item (vs.toArray.zip vs.toArray))/\failedOf st'=none/\(Inv vs.length p/\Up lt p vs.length)/\kA { s with heap:=Vh } s')
    (G:=fun p s'=>(Inv vs.length p/\Up lt p vs.length)/\kA { s with heap:=Vh } s') rfl tw few (fun p st' s' _ a2 a3 a4=>⟨p,a2,a3,a4.1,a4.2⟩) (aJ6 (I:=kA { s with heap:=Vh }) (fun i j C s1 hi hj l q=>an i j C s1 hi hj l q) (fun p s1 r l=>⟨r,l⟩) (aId o (by omega)) ⟨tk0,rfl⟩)) ?_ fun _ _ z=>z)
   rintro⟨⟨⟩,st'⟩ s' ⟨p,ar,fl,⟨ip,u⟩,tk1,e1⟩
   subst e1;dsimp only
   refine wpAny_bind (seqEpoch_at (up _ _ atU) rfl (wpAny_bind (listUpdate_at (up _ _ atU) rfl ?_ (Bz _) (size p _ (kat_snds rfl ar) ip))))
   rw[fl];simp only[if_false,Bk,bne_self_eq_false];exact wpAny_pure (last p tk1 _ (kat_snds rfl ar) ip u)
end
end Srt
namespace Srt
open PySem PySem.W PyProof.Rows
abbrev lx:=HT.cT
theorem aD2:∀ a:List Int,lx a a=false
 | []=>rfl
 | x :: a=>by show (if x=x then lx a a else _)=false;rw[if_pos rfl];exact aD2 a
theorem aAc:∀ {a b:List Int},lx a b=true->lx b a=false
 | [],[],_=>rfl
 | [],_ :: _,_=>rfl
 | _ :: _,[],h=>by cases h
 | x :: a,y :: b,h=>by
  have h':(if x=y then lx a b else decide (x<y))=true:=h
  show (if y=x then lx b a else decide (y<x))=false
  by_cases e:x=y
  · rw[if_pos e]at h';rw[if_pos e.symm];exact aAc h'
  · rw[if_neg e]at h';rw[if_neg (Ne.symm e)]
    have:=of_decide_eq_true h'
    exact decide_eq_false (by omega)
theorem aAh:∀ {a b:List Int},lx a b=false->lx b a=false->a=b
 | [],[],_,_=>rfl
 | [],(_ :: _),h,_=>(by cases h)
 | (_ :: _),[],_,h=>(by cases h)
 | x :: a,y :: b,h,g=>by
  have h':(if x=y then lx a b else decide (x<y))=false:=h
  have g':(if y=x then lx b a else decide (y<x))=false:=g
  by_cases e:x=y
  · rw[if_pos e]at h';rw[if_pos e.symm]at g';rw[e,aAh h' g']
  · rw[if_neg e]at h';rw[if_neg (Ne.symm e)]at g'
    have u:=of_decide_eq_false h';have v:=of_decide_eq_false g';omega
theorem zU:∀ {a b c:List Int},lx a b=true->lx b c=true->lx a c=true
 | [],[],_,h,_=>by cases h
 | [],_ :: _,[],_,g=>by cases g
 | [],(_ :: _),(_ :: _),_,_=>rfl
 | (_ :: _),[],_,h,_=>(by cases h)
 | _ :: _,_ :: _,[],_,g=>by cases g
 | x :: a,y :: b,z :: c,h,g=>by
  have h':(if x=y then lx a b else decide (x<y))=true:=h
  have g':(if y=z then lx b c else decide (y<z))=true:=g
  show (if x=z then lx a c else decide (x<z))=true
  by_cases e:x=y
  · rw[if_pos e]at h'
    by_cases f:y=z
    · rw[if_pos f]at g';rw[if_pos (e.trans f)];exact zU h' g'
    · rw[if_neg f]at g';rw[if_neg (by omega)];have:=of_decide_eq_true g';exact decide_eq_true (by omega)
  · rw[if_neg e]at h'
    have u:=of_decide_eq_true h';by_cases f:y=z
    · rw[if_neg (by omega)];exact decide_eq_true (by omega)
    · rw[if_neg f]at g';have v:=of_decide_eq_true g';rw[if_neg (by omega)];exact decide_eq_true (by omega)
theorem aMc {α:Type}{r:α->α->Bool}(key:Nat->α)(asy:∀ {a b},r a b=true->r b a=false)(tri:∀ {a b},r a b=false->r b a=false->a=b)(trs:∀ {a b c},r a b=true->r b c=true->r a c=true):Ord fun i j=>r (key i) (key j):=by
 refine⟨fun {a b c} h g=>?_,fun h=>asy h⟩
 have h':r (key b) (key a)=false:=h;have g':r (key c) (key b)=false:=g;show r (key c) (key a)=false
 cases q:r (key c) (key a) with
 | false=>rfl
 | true =>
  cases ab:r (key a) (key b) with
  | true=>have:=trs q ab;rw[g']at this;cases this
  | false=>rw[tri ab h']at q;rw[g']at q;cases q
def px (a b:List Int×Int):Bool:=if a.1=b.1 then decide (a.2<b.2) else lx a.1 b.1
theorem aLs {a b:List Int×Int}(h:px a b=true):px b a=false:=by
 unfold px at h ⊢;by_cases e:a.1=b.1
 · rw[if_pos e]at h;rw[if_pos e.symm];have:=of_decide_eq_true h;exact decide_eq_false (by omega)
 · rw[if_neg e]at h;rw[if_neg (Ne.symm e)];exact aAc h
theorem aKr {a b:List Int×Int}(h:px a b=false)(g:px b a=false):a=b:=by
 unfold px at h g;by_cases e:a.1=b.1
 · rw[if_pos e]at h;rw[if_pos e.symm]at g
   have u:=of_decide_eq_false h;have v:=of_decide_eq_false g;exact Prod.ext e (by omega)
 · rw[if_neg e]at h;rw[if_neg (Ne.symm e)]at g;exact absurd (aAh h g) e
theorem aNk {a b c:List Int×Int}(h:px a b=true)(g:px b c=true):px a c=true:=by
 unfold px at h g ⊢;by_cases e:a.1=b.1
 · rw[if_pos e]at h
   by_cases f:b.1=c.1
   · rw[if_pos f]at g;rw[if_pos (e.trans f)]
     have u:=of_decide_eq_true h;have v:=of_decide_eq_true g;exact(decide_eq_true (by omega))
   · rw[if_neg f]at g;rw[if_neg (by rw[e];exact f),e];exact g
 · rw[if_neg e]at h
   by_cases f:b.1=c.1
   · rw[if_neg (by rw[←f];exact e),←f];exact h
   · rw[if_neg f]at g
     have t:=zU h g;rw[if_neg (fun z=>by rw[z,aD2]at t;cases t)];exact t
section
variable {prog:Program}{w:World}{A:Around}{E:Value->Shared->Prop}{s:Shared}
theorem xL {b:Bool}{Q:Bool->Shared->Prop}:∀ (xs ys:List Value) (ms ns:List Int) (i:Nat),IntsAre xs ms->IntsAre ys ns->Q (lx ms ns) s->KatLex prog w A b (decide (xs.length<ys.length)) Q (xs.zip ys) i s
 | [],[],_,_,_,.nil,.nil,q=>q
 | [],_ :: _,_,_,_,.nil,.cons _ _ _,q=>q
 | _ :: _,[],_,_,_,.cons _ _ _,.nil,q=>q
 | _ :: xs,_ :: ys,_,_,i,.cons m t hm,.cons n u hn,q=>by
  have e:decide ((Value.int m t :: xs).length<(Value.int n u :: ys).length)=decide (xs.length<ys.length):=by simp
  rw[e];refine kat_cons (wpAny_eqBool_int ?_)
  rename_i ms' ns'
  have q':Q (if m=n then lx ms' ns' else decide (m<n)) s:=q
  by_cases z:m=n
  · rw[if_pos z]at q'
    rw[show (m==n)=true by simpa using z]
    exact kat_yes (xL xs ys _ _ (i+1) hm hn q')
  · rw[if_neg z]at q'
    rw[show (m==n)=false by simpa using z]
    refine kat_no ?_
    cases hb:(b&&i==0) with
    | true=>exact oneLt_int q'
    | false=>exact kat_one _ _ (Eu q')
def mL (h:Heap)(vs:List Value)(ks:List (List Int)):Prop:=vs.length=ks.length/\∀ (i:Nat) (k:List Int),ks[i]?=some k->∃ a its,vs[i]?=some (.ref a)/\IsTup h a its/\IntsAre its.toList k
theorem mL.at_ {h:Heap}{vs:List Value}{ks:List (List Int)}(t:mL h vs ks){i:Nat}(hi:i<vs.length):∃ a its,vs.getD i Value.none=.ref a/\IsTup h a its/\IntsAre its.toList (ks.getD i []):=by
 have hk:i<ks.length:=by rw[←t.1];exact hi
 obtain⟨a,its,h1,h2,h3⟩:=t.2 i ks[i] (Ao hk);refine⟨a,its,by rw[Au,h1];rfl,h2,?_⟩
 rw[Au,Ao hk];exact h3
theorem uC {h:Heap}:∀ {vs:List Value} {ks:List (List Int)},mL h vs ks->(∀ k∈ks,k≠[])->∃ fs,KatTups h vs fs/\fs.length=vs.length/\∀ v∈fs,∃ i t,v=Value.int i t
 | [],ks,t,_=>⟨[],.nil,rfl,fun _ z=>nomatch z⟩
 | v :: vs,[],t,_=>by have:=t.1;simp at this
 | v :: vs,k :: ks,t,ne=>by
  obtain⟨a,its,h1,⟨o,h2,h3,n,h4⟩,h5⟩:=t.2 0 k rfl;have e:v=.ref a:=by simpa using h1
  subst e
  obtain⟨fs,f1,f2,f3⟩:=uC (vs:=vs) (ks:=ks) ⟨by simpa using t.1,fun i q hq=>by
   obtain⟨a',its',u1,u2⟩:=t.2 (i+1) q (by simpa using hq)
   exact⟨a',its',by simpa using u1,u2⟩⟩ fun q hq=>ne q (Ac _ hq)
  obtain⟨f,tf,hf⟩:∃ f tf,its[0]?=some (Value.int f tf):=by
   have nk:=ne k Aa;cases k with
   | nil=>exact absurd rfl nk
   | cons x r =>
    generalize hl:its.toList=l at h5
    cases h5 with
    | @cons _ t' vs' _ hr=>exact⟨x,t',by rw[←Array.getElem?_toList,hl];rfl⟩
  exact⟨.int f tf :: fs,.cons h2 h3 h4 hf f1,by simp[f2],fun u hu=>by
   rcases Ai.mp hu with z | z
   · exact⟨f,tf,z⟩
   · exact f3 u z⟩
theorem sZ {t s1:Shared}(l:kA t s1):s1.heap=t.heap:=by obtain⟨tk,rfl⟩:=l;rfl
theorem aFx {vs:List Value}{ks:List (List Int)}{t:Shared}(T:mL t.heap vs ks)(ne:∀ k∈ks,k≠[])(two:2<=vs.length) :
 wpAny (model prog w) A (keyKind' vs.toArray) (fun κ t'=>kA t t'/\kO prog w A (fun i j=>lx (ks.getD i []) (ks.getD j [])) vs κ t) (fun _ _=>False) t:=by
 obtain⟨fs,f1,f2,f3⟩:=uC T ne;refine kat_kind (T:=.type "int") f1 (by omega) (fun v hv=>?_) (by decide) ⟨kA.refl t,fun i j C s1 hi hj l q=>?_⟩
 · obtain⟨i,tk,rfl⟩:=f3 v hv
   exact Looks.of_pure rfl
 · obtain⟨a,its,e1,⟨o1,g1,c1,n1,d1⟩,i1⟩:=T.at_ hi
   obtain⟨b,jts,e2,⟨o2,g2,c2,n2,d2⟩,i2⟩:=T.at_ hj;unfold kas_ask;rw[e1,e2];have hp:=sZ l;refine kat_lt (by rw[hp];exact g1) d1 (by rw[hp];exact g2) d2 ?_
   have:=xL (prog:=prog) (w:=w) (A:=A) (s:=s1) (b:=(Value.type "int" != Value.type "tuple")) (Q:=C) its.toList jts.toList _ _ 0 i1 i2 (q s1 l)
   simpa using this
end
end Srt
namespace Srt
open PySem PySem.W PyProof.Rows
section
variable {prog:Program}{w:World}{A:Around}{E:Value->Shared->Prop}{s:Shared}{lt:Nat->Nat->Bool}
theorem aBi {h:Heap}{a:Addr}{its:Array Value}{k:List Int}(t:IsTup h a its)(i:IntsAre its.toList k):IsTupleKey (PySem.intKind prog w) h k a:=by
 obtain⟨o,h1,h2,n,h3⟩:=t;refine⟨o,its,n,h1,h2,h3,?_⟩
 have go:∀ {vs:List Value} {ns:List Int},IntsAre vs ns->ItemsAre (PySem.intKind prog w) ns vs:=by
  intro vs ns r;induction r with
  | nil=>exact .nil
  | cons n t _ ih=>exact .cons (intKind_is _ _ _ _) ih
 exact go i
def jW (h:Heap)(vs:List Value)(ks:List (List Int×Int)):Prop:=vs.length=ks.length/\∀ (i:Nat) (k:List Int×Int),ks[i]?=some k->∃ p a its tz,vs[i]?=some (.ref p)/\IsTup h p #[.ref a,.int k.2 tz]/\IsTup h a its/\IntsAre its.toList k.1
theorem jW.at_ {h:Heap}{vs:List Value}{ks:List (List Int×Int)}(t:jW h vs ks){i:Nat}(hi:i<vs.length):∃ p a its tz,vs.getD i Value.none=.ref p/\IsTup h p #[.ref a,.int (ks.getD i ([],0)).2 tz]/\IsTup h a its/\IntsAre its.toList (ks.getD i ([],0)).1:=by
 have hk:i<ks.length:=by rw[←t.1];exact hi
 obtain⟨p,a,its,tz,h1,h2,h3,h4⟩:=t.2 i ks[i] (Ao hk);refine⟨p,a,its,tz,by rw[Au,h1];rfl,?_⟩
 rw[Au,Ao hk];exact⟨h2,h3,h4⟩
theorem oB {h:Heap}:∀ {vs:List Value} {ks:List (List Int×Int)},jW h vs ks->∃ fs,KatTups h vs fs/\fs.length=vs.length/\∀ v∈fs,∃ a its,v=Value.ref a/\IsTup h a its
 | [],ks,t=>⟨[],.nil,rfl,fun _ z=>nomatch z⟩
 | v :: vs,[],t=>by have:=t.1;simp at this
 | v :: vs,k :: ks,t=>by
  obtain⟨p,a,its,tz,h1,⟨o,h2,h3,n,h4⟩,h5,h6⟩:=t.2 0 k rfl;have e:v=.ref p:=by simpa using h1
  subst e
  obtain⟨fs,f1,f2,f3⟩:=oB (vs:=vs) (ks:=ks) ⟨by simpa using t.1,fun i q hq=>by
   obtain⟨p',a',its',tz',u1,u2⟩:=t.2 (i+1) q (by simpa using hq)
   exact⟨p',a',its',tz',by simpa using u1,u2⟩⟩
  exact⟨.ref a :: fs,.cons h2 h3 h4 rfl f1,by simp[f2],fun u hu=>by
   rcases Ai.mp hu with z | z
   · exact⟨a,its,z,h5⟩
   · exact f3 u z⟩
theorem aCn {vs:List Value}{ks:List (List Int×Int)}{t:Shared}(T:jW t.heap vs ks)(hu:A.units<cLine)(two:2<=vs.length) :
 wpAny (model prog w) A (keyKind' vs.toArray) (fun κ t'=>kA t t'/\kO prog w A (fun i j=>px (ks.getD i ([],0)) (ks.getD j ([],0))) vs κ t) (fun _ _=>False) t:=by
 obtain⟨fs,f1,f2,f3⟩:=oB T;refine kat_kind (T:=.type "tuple") f1 (by omega) (fun v hv=>?_) (by decide) ⟨kA.refl t,fun i j C s1 hi hj l q=>?_⟩
 · obtain⟨a,its,rfl,o,h1,h2,_⟩:=f3 v hv
   have lk:Looks (model prog w) t.heap (typeOf (.ref a)) o.cls:=(Looks.ld h1).andThen .now;rw[h2]at lk;exact lk
 · obtain⟨p1,a1,its1,tz1,e1,⟨o1,g1,c1,n1,d1⟩,T1,i1⟩:=T.at_ hi
   obtain⟨p2,a2,its2,tz2,e2,⟨o2,g2,c2,n2,d2⟩,T2,i2⟩:=T.at_ hj;unfold kas_ask;rw[e1,e2];have hp:=sZ l;refine kat_lt (by rw[hp];exact g1) d1 (by rw[hp];exact g2) d2 ?_
   have qq:C (px (ks.getD i ([],0)) (ks.getD j ([],0))) s1:=q s1 l;generalize ks.getD i ([],0)=x at *
   generalize ks.getD j ([],0)=y at *
   have T1':IsTup s1.heap a1 its1:=by rw[hp];exact T1
   have T2':IsTup s1.heap a2 its2:=by rw[hp];exact T2
   show KatLex prog w A _ _ C [(.ref a1,.ref a2),(.int x.2 tz1,.int y.2 tz2)] 0 s1
   refine kat_cons (wpAny_eqBool_tuple hu (aBi T1' i1) (aBi T2' i2) ?_)
   unfold px at qq;by_cases z:x.1=y.1
   · rw[if_pos z]at qq
     rw[decide_eq_true z];refine kat_yes (kat_cons (wpAny_eqBool_int ?_))
     by_cases u:x.2=y.2
     · rw[show (x.2==y.2)=true by simpa using u]
       rw[decide_eq_false (by omega)]at qq
       exact kat_yes (kat_nil (by simpa using qq))
     · rw[show (x.2==y.2)=false by simpa using u]
       exact kat_no (kat_one _ _ (Eu qq))
   · rw[if_neg z]at qq
     rw[decide_eq_false z];exact kat_no (kat_one _ _ (HT.zC T1' T2' i1 i2 hu qq))
theorem aC5 (o:Ord lt){x:Value}{vs:List Value}{Q:Value->Shared->Prop}(few:vs.length<64)
 (col:wpAny (model prog w) A.in1 (collect x) (fun us s1=>us=vs/\∃ h1 tk,s1={ s with heap:=h1,toks:=tk }/\∀ b y,s.heap.get? b=some y->h1.get? b=some y) E s)
 (ask:2<=vs.length->∀ t:Shared,(∀ b y,s.heap.get? b=some y->t.heap.get? b=some y)->wpAny (model prog w) A.in1.in1 (keyKind' vs.toArray) (fun κ t'=>kA t t'/\kO prog w A.in1.in1 lt vs κ t) (fun _ _=>False) t)
 (fin:∀ (p:Array Nat) (h':Heap) (tk c:Nat) (D:Addr),Inv vs.length p->Up lt p vs.length->(∀ b y,s.heap.get? b=some y->h'.get? b=some y)->s.heap.get? D=none->h'.get? D=some (seqObj "list" (Ey (p.toList.map fun i=>vs.getD i Value.none)) c)->Q (.ref D) { s with heap:=h',toks:=tk }) :
 wpAny (model prog w) A (call (.builtin "sorted") [x]) Q E s:=by
 refine Calls.call_function_entry kind_sorted plain_sorted entry_sorted (args_sorted1 _) (show wpAny (model prog w) A.in1 (Builtin.«sorted» ⟨[x],[]⟩) _ _ s from ?_)
 unfold Builtin.«sorted»;refine wpAny_bind (m:=checkCount "sorted" 1 1 _) (wpAny_pure (wpAny_bind (wpAny_mono col (fun us s1 ⟨e,h1,tk1,e1,k1⟩=>?_) fun _ _ z=>z)))
 subst e e1;refine wpAny_bind (wpAny_newList ?_ (by rw[sizeLine_eq]<;>omega))
 have at1:(h1.push (seqObj "list" us.toArray 0)).get? h1.objs.size=some (seqObj "list" us.toArray 0):=Aq _ rfl;have k2:∀ b y,s.heap.get? b=some y->(h1.push (seqObj "list" us.toArray 0)).get? b=some y:=fun b y q=>Ad _ (k1 b y q);have nD:∀ b y,s.heap.get? b=some y->b≠h1.objs.size:=fun b y q z=>absurd (Ae (k1 b y q)) (by rw[z];exact Cu _)
 have gone:s.heap.get? h1.objs.size=none:=by
  cases q:s.heap.get? h1.objs.size with
  | none=>rfl
  | some y=>exact absurd rfl (nD _ y q)
 refine wpAny_bind (wpAny_holding (wpAny_call_entry slot_list_sort ⟨_,at1,rfl⟩ entry_list_sort (aCc (s:={ s with heap:=h1.push (seqObj "list" us.toArray 0),toks:=tk1 }) o at1 few (fun tw t kt=>ask tw t fun b y q=>kt b y (nD b y q) (k2 b y q)) fun p h' tk c ip u kh hD=>⟨_,rfl,?_⟩) (args_list_sort _)))
 exact wpAny_pure ⟨_,rfl,fin p h' tk c h1.objs.size ip u (fun b y q=>kh b y (nD b y q) (k2 b y q)) gone hD⟩
end
end Srt
namespace Mir
open PySem L2
variable {X:Cx}{P:XP}{a b c e:Expr}{es:List Expr}{f g:FE}{fs:FEs}{pos p:Pos}
def asT:D->R (List D)
 | .tup ds=>.ok ds
 | _=>.stk
theorem qD {d:D}{i:List D}(h:asT d=.ok i):d=.tup i:=by cases d<;>simp[asT]at h;rw[h]
theorem vJ {d:D}{x:Xc}(h:asT d=.exc x):False:=by cases d<;>simp[asT]at h
def lF (a:FE)(lo hi:FO):FE:=fun ρ=>do
 let x ← a ρ
 let l ← lo ρ
 let h ← hi ρ
 let ds ← asT x.d
 if HT.sIx ds.length 0 l=0/\HT.sIx ds.length ds.length h=ds.length then .stk else .ok ⟨.shr,x.fr,.tup (nI ds l h)⟩
theorem aM.str {H0 H H':Hp}{K:PySem.W.Frag}{B:Addr->Prop}{v:V}{r:Res}{i:Str}(g:aM K H0 H H' B v r)(e:r.d=.str i):v=.str i:=by
 have:=g.shr_of (by rw[e];rfl)
 rw[e]at this;exact this
theorem aLb {lo hi:Option Expr}{fl fh:FO}{p2:Pos}(ha:PE X a (tE X.K P f))(hl:PO X lo (tO X.K P fl))(hh:PO X hi (tO X.K P fh)):PE X (.Subscript a (.Slice lo hi none p2) pos) (tE X.K P (lF f fl fh)):=by
 refine PE.imp (wW aNp ha hl hh) ?_
 rintro σ H Q ⟨H0,B,ρ,d,h⟩
 unfold lF at h;show tE X.K P f σ H fun x H1=>tO X.K P fl σ H1 fun l H2=>tO X.K P fh σ H2 fun u H3=>aOp X.K x l u H3 Q
 cases e:f ρ with
 | stk=>simp[e]at h
 | exc x=>simp[e]at h;exact cR d e h
 | ok r =>
  simp only[e,R.ok_bind]at h;refine eB d e fun v H1 s1 d1 g1=>⟨H0,B,ρ,d1,?_⟩
  cases e1:fl ρ with
  | stk=>simp[e1]at h
  | exc x=>simp[e1]at h;exact P.mono h s1
  | ok l =>
   simp only[e1,R.ok_bind]at h;intro H2 s2;refine⟨H0,B,ρ,d1.mono s2,?_⟩
   cases e2:fh ρ with
   | stk=>simp[e2]at h
   | exc x=>simp[e2]at h;exact P.mono h (s1.trans s2)
   | ok u =>
    simp only[e2,R.ok_bind]at h;intro H3 s3;cases e3:asT r.d with
    | stk=>simp[e3]at h
    | exc x=>exact(vJ e3).elim
    | ok ds =>
     simp only[e3,R.ok_bind]at h;obtain⟨a1,xs,h1,h2,h3⟩:=(g1.mono (s2.trans s3)).tuple (qD e3);have s:=(s1.trans s2).trans s3;have lx:=h3.length;by_cases hw:HT.sIx ds.length 0 l=0/\HT.sIx ds.length ds.length u=ds.length
     · rw[if_pos hw]at h;exact h.elim
     · rw[if_neg hw]at h
       refine⟨a1,xs,h1,.inl (.inl h2),by rw[←lx];exact hw,fun p hp=>h _ _ (s.trans (aI.upd_new hp)) ?_⟩
       have q:aJ X.K (aZ r.fr H0 H3 B) (nI ds l u) (rQ xs l u):=by
        unfold nI rQ;rw[←lx];exact(h3.drop _).take _
       exact oQ (d.mono s) hp q
end Mir
namespace Mir
open PySem L2
variable {X:Cx}{P:XP}{a b c e:Expr}{es:List Expr}{f g:FE}{fs:FEs}{pos p:Pos}
theorem aLm {x:Str}{i:Int}(hg:Gl X x)(hm:∃ t,X.mg x=some (.int i t))(hd:(x==("__debug__":Str))=false:=by decide):PE X (.Name x pos) (tE X.K P (cE (.int i))) :=
 let ⟨t,hm⟩:=hm
 m_c (dE (v:=.int i) hg hm ⟨t,rfl⟩ hd) fun _=>rfl
def yQ (a:FE):FT:=fun ρ=>do
 let x ← a ρ
 let ds ← asS x.d
 .ok (!ds.isEmpty)
theorem aJ.empty {K:PySem.W.Frag}{G:Hp}{ds:List D}{vs:List V}(r:aJ K G ds vs):vs.isEmpty=ds.isEmpty:=by
 have:=r.length
 cases ds<;>cases vs<;>simp at this ⊢
theorem aL3 {e:Expr}(h:PE X e (tE X.K P f))(he:∀ whole,isTrue e X.env whole=(do let v ← whole;standAt e.pos;holding [v] (truthy v)):=by intro _;rfl):PT X e (tT X.K P (yQ f)):=by
 refine PT.imp (aDr h he) ?_
 rintro σ H Q ⟨H0,B,ρ,d,h⟩
 unfold yQ at h;cases e1:f ρ with
 | stk=>simp[e1]at h
 | exc x=>simp[e1]at h;exact cR d e1 h
 | ok r =>
  cases e2:asS r.d with
  | stk=>simp[e1,e2]at h
  | exc x=>exact(jD e2).elim
  | ok ds =>
   simp only[e1,e2,R.ok_bind]at h;refine eB d e1 fun v H' s d' g'=>?_
   obtain⟨a,xs,h1,h2,h3⟩:=g'.seq e2;refine⟨!ds.isEmpty,?_,h H' s⟩
   rw[h1];rcases h2 with h2 | h2
   · exact .inl ⟨xs,.inl h2,by rw[h3.empty]⟩
   · exact .inr (.inl ⟨xs,SqT.of h2,by rw[h3.empty]⟩)
def inE (neg:Bool)(a b:FE):FE:=fun ρ=>do
 let x ← a ρ
 let y ← b ρ
 let i ← asI x.d
 let ds ← asS y.d
 let l ← cH ds
 .ok (sc (.bl (if neg then !l.any (·==i) else l.any (·==i))))
theorem aFw (i:Int)(l:List Int):inV (.int i) (l.map V.int)=l.any (·==i):=by
 unfold inV;rw[List.any_map];rfl
theorem aP7 {neg:Bool}(σ:St)(H:Hp)(Q:VK)(h:tE X.K P (inE neg f g) σ H Q):tOp (rIn X.K neg) (tE X.K P f) (tE X.K P g) σ H Q:=by
 refine t2 (q:=fun x y H2=>rIn X.K neg x y H2 Q) h ?_
 intro H0 B ρ v w H' r r' d g1 g2 s h;cases e1:asI r.d with
 | stk=>simp[e1]at h
 | exc x=>exact(cZ e1).elim
 | ok i =>
  cases e2:asS r'.d with
  | stk=>simp[e1,e2]at h
  | exc x=>exact(jD e2).elim
  | ok ds =>
   cases e3:cH ds with
   | stk=>simp[e1,e2,e3]at h
   | exc x=>exact(dA e3).elim
   | ok l =>
    simp only[e1,e2,e3,R.ok_bind]at h;obtain⟨a,xs,h1,h2,h3⟩:=g2.seq e2;have hx:=aJ.ints e3 h3;refine⟨a,xs,h1,h2.imp .inl SqT.of,by rw[g1.int (dJ e1)];rfl,by rw[hx];simp[mM],?_⟩
    rw[g1.int (dJ e1),hx,aFw];exact h _ H' (aI.refl _) (aM.sc (show Rep _ _ (.bl _) _ from rfl))
theorem aGl (ha:PE X a (tE X.K P f))(hb:PE X b (tE X.K P g))(hm:behindInMarks .NotIn b=false:=by rfl):PT X (.Compare a [.NotIn] [b] pos) (tT X.K P (bT (inE true f g))):=jZ vP ha hb hm aP7
def sC (i:Nat)(G:Int->Int->Int)(f:FE):FS:=fun ρ=>(vE i ρ).at ρ fun x=>(asI x.d).at ρ fun m=>(f ρ).at ρ fun r=>(asI r.d).at ρ fun n=>.nx (ρ.set i (some ⟨.shr,true,.int (G m n)⟩))
theorem aKy {i:Nat}{ρ:Env}{r:Res}(h:vE i ρ=.ok r):∃ e,ρ[i]?=some (some e)/\r=⟨e.k.rd,e.fr||e.d.imm,e.d⟩:=by
 unfold vE at h;split at h
 · rename_i e q;cases h;exact⟨e,q,rfl⟩
 · cases h
theorem aMi {i:Nat}{x:Str}{op:Operator}{G:Int->Int->Int}{pos':Pos}(ho:PIp X op (ipI G))(hN:X.N.Nodup)(hi:X.N[i]?=some x)(hx:Loc X.env.scope x)(he:PE X e (tE X.K P f))(hf:X.fn x=true\/X.env.scope.names.lookup x=some .local:=by first | exact .inl rfl | exact .inr rfl | assumption) :
 PS X (.AugAssign (.Name x pos') op e pos) (tS X.K P (sC i G f)):=by
 refine PS.imp (aNe hN hi hx he ho hf) ?_
 rintro D σ H ⟨H0,T,ρ,d,h⟩
 unfold sC at h;cases e1:vE i ρ with
 | stk=>simp only[e1,R.at]at h;exact h.elim
 | exc z=>unfold vE at e1;split at e1<;>cases e1
 | ok xr =>
  simp only[e1,R.at]at h;obtain⟨en,q1,q2⟩:=aKy e1;subst q2;obtain⟨v,q3,q4⟩:=d.e.ent i en q1;cases e2:asI en.d with
  | stk=>simp only[e2]at h;exact h.elim
  | exc z=>exact(cZ e2).elim
  | ok m =>
   simp only[e2]at h;refine⟨v,q3,?_⟩
   have hv:v=.int m:=(q4.res d.e.sam).int (dJ e2);cases e3:f ρ with
   | stk=>simp only[e3]at h;exact h.elim
   | exc z=>simp only[e3]at h;exact cR d.e e3 (h σ H d Ext.refl)
   | ok r =>
    simp only[e3]at h;refine eB d.e e3 fun w H' s d' g'=>?_
    cases e4:asI r.d with
    | stk=>simp only[e4]at h;exact h.elim
    | exc z=>exact(cZ e4).elim
    | ok n =>
     simp only[e4]at h;have dd:=(d.mono s).set_shr (i:=i) (v:=.int (G m n)) (fr:=true) (dd:=.int (G m n)) rfl;exact⟨m,n,hv,g'.int (dJ e4),h _ H' dd.1 ⟨fun b o q _=>s b o q,fun b z=>.inl (dd.2 b z)⟩⟩
theorem aK1 {i:Nat}{x:Str}{pos':Pos}(hN:X.N.Nodup)(hi:X.N[i]?=some x)(hx:Loc X.env.scope x)(he:PE X e (tE X.K P f))(hf:X.fn x=true\/X.env.scope.names.lookup x=some .local:=by first | exact .inl rfl | exact .inr rfl | assumption) :
 PS X (.AugAssign (.Name x pos') .Add e pos) (tS X.K P (sC i (fun m n=>m+n) f)):=aMi aM5 hN hi hx he hf
def wQ (i:Nat)(f:FE):FS:=fun ρ=>(rT i ρ).at ρ fun y=>(f ρ).at ρ fun r=>match r with
 | ⟨.tmp,fr,.lst es⟩=>if y.2.length+es.length<=sizeLine then .nx (ρ.set i (some ⟨.own,y.1&&fr,.lst (y.2++es)⟩)) else .stk
 | _=>.stk
theorem aO4 {i:Nat}{x:Str}{p ap cp:Pos}(hN:X.N[i]?=some x)(hv:Vis X.env.scope x)(he:PE X e (tE X.K P f))(hd:(x==("__debug__":Str))=false:=by decide)(hcd:(x==("__classdict__":Str))=false:=by decide)
 (h1:starEach [e] X.env=[(false,eval e X.env)]:=by rfl) (hbase:attributeBase (.Name x p) "extend" X.env (eval (.Name x p) X.env)=eval (.Name x p) X.env:=by rfl)
 (hfew:((backTo cp (starEach [e] X.env)).all (fun x=>!x.1)&&(backToKw cp (keywordEach [] X.env)).all (fun x=>x.1.isSome)&&decide ([e].length+([]:List Keyword).length+(if ([]:List Keyword).isEmpty then 0 else 1)<30))=true:=by rfl)
 (hline:(ap.endLine==cp.line)=true:=by rfl)
 (hs:swapsWith (.Call (.Attribute (.Name x p) "extend" ap) [e] [] cp) none pos.line X.env=pure false:=by rfl) :
 PS X (.Expr (.Call (.Attribute (.Name x p) "extend" ap) [e] [] cp) pos) (tS X.K P (wQ i f)):=by
 refine PS.imp (uQ (aJ8 PySem.F.plainAttrs_list PySem.F.slot_list_extend PySem.F.type_list_extend aB7 (nM hN hv hd hcd) (fY he lR h1) hbase hfew hline (hs:=h1)) hs) ?_
 rintro D σ H ⟨H0,T,ρ,d,h⟩
 unfold wQ at h;cases e3:rT i ρ with
 | stk=>simp only[e3,R.at]at h;exact h.elim
 | exc z=>unfold rT at e3;split at e3<;>cases e3
 | ok y =>
  simp only[e3,R.at]at h;have ho:=aBb e3;obtain⟨a,vs,q1,q2,q3,q4⟩:=d.own ho;refine⟨_,q1,.inl ⟨rfl,vs,SqL.of q3⟩,?_⟩
  cases e1:f ρ with
  | stk=>simp only[e1]at h;exact h.elim
  | exc z=>simp only[e1]at h;exact cR d.e e1 (h σ H d Ext.refl)
  | ok r =>
   simp only[e1]at h;refine eB d.e e1 fun v H' s d' g'=>?_
   obtain⟨rk,rfr,rd⟩:=r;cases rk with
   | tmp =>
    cases rd with
    | lst es =>
     simp only at h;by_cases hz:y.2.length+es.length<=sizeLine
     · rw[if_pos hz]at h
       obtain⟨b,o,w1,w2,w3,ws,w4,w5⟩:=g';subst w1;subst w4;have dS:=d.mono s;have q4':aJ X.K (aZ y.1 H0 H' (Bs T σ ρ)) y.2 vs:=aJ.same (aV (fun b o q _=>s b o q) fun b z=>.inl z) q4;have w5':aJ X.K (aZ rfr H0 H' (Bs T σ ρ)) es ws:=aJ.same (aV (fun b o q _=>q) fun b z=>.inl (.inl z)) w5;refine⟨a,b,vs,ws,rfl,rfl,s _ _ q3,w3,by rw[←q4.length,←w5.length];exact hz,?_⟩
       obtain⟨v1,v2⟩:=dS.write (fr:=y.1&&rfr) (ds:=y.2++es) (vs:=vs++ws) q1 ho rfl q2 (q4'.andL.append w5'.andR);exact h σ _ v1 ((Ext.same s).trans v2)
     · rw[if_neg hz]at h;exact h.elim
    | _=>exact h.elim
   | _=>exact h.elim
end Mir
namespace Mir
open PySem L2
variable {X:Cx}{P:XP}{a b c e:Expr}{es:List Expr}{f g:FE}{fs:FEs}{pos p:Pos}
variable {st:Stmt}{rest:List Stmt}{F G:FS}
mutual
theorem Rep.stb {K:PySem.W.Frag}{G G':Hp}(s:∀ b o,G b=some o->stab o=true->G' b=some o):∀ {d:D} {v:V},d.imm=true->Rep K G d v->Rep K G' d v
 | .non,_,_,h=>h
 | .bl _,_,_,h=>h
 | .int _,_,_,h=>h
 | .str _,_,_,h=>h
 | .lst _,_,i,_=>by cases i
 | .tup ds,_,i,⟨a,xs,h1,h2,h3⟩=>⟨a,xs,h1,s _ _ h2 rfl,aJ.stb s (by simpa[D.imm] using i) h3⟩
 | .obj _ _,_,_,h=>h
 | .any,_,i,_=>by cases i
 | .dct _ _,_,i,_=>by cases i
 | .exc _ _,_,_,⟨h,a,h1,h2⟩=>⟨h,a,h1,s _ _ h2 rfl⟩
theorem aJ.stb {K:PySem.W.Frag}{G G':Hp}(s:∀ b o,G b=some o->stab o=true->G' b=some o):∀ {ds:List D} {vs:List V},D.imms ds=true->aJ K G ds vs->aJ K G' ds vs
 | [],_,_,h=>h
 | d :: r,_,i,⟨x,xr,h1,h2,h3⟩=>by
  have i':d.imm=true/\D.imms r=true:=by simpa[D.imms] using i
  exact⟨x,xr,h1,Rep.stb s i'.1 h2,aJ.stb s i'.2 h3⟩
end
end Mir
namespace Mir
open PySem L2
variable {X:Cx}{P:XP}{a b c e:Expr}{es:List Expr}{f g:FE}{fs:FEs}{pos p:Pos}
def aF6 (H0 H H1:Hp):Prop:=∀ b,H1 b=H b\/∃ o xs,H b=some (.frz o (.lst xs))/\H1 b=some (.lst xs)/\H0 b=none
theorem aF6.ne {H0 H H1:Hp}(t:aF6 H0 H H1){b:Addr}{u:HO}(h:H b=some u)(n:∀ o xs,u≠.frz o (.lst xs)):H1 b=some u:=by
 rcases t b with e | ⟨o,ys,e1,e2,_⟩
 · exact e.trans h
 · rw[e1]at h;cases h;exact absurd rfl (n _ _)
theorem aF6.cut {H0 H H1:Hp}(t:aF6 H0 H H1)(B:Addr->Prop):aF6 H0 (Mir.cut H B) (Mir.cut H1 B):=fun b=>by
 unfold Mir.cut;by_cases hb:B b
 · left;simp[hb]
 · simpa[hb] using t b
end Mir
namespace L2
open PySem PySem.Spec PyProof.Rows
section
variable {κ:Type}[DecidableEq κ]
def oM (kvs:List (κ×V))(k:κ):Option V:=(kvs.find? fun kv=>decide (kv.1=k)).map (·.2)
def mK (kvs:List (κ×V))(k:κ)(v:V):List (κ×V) :=
 if (kvs.any fun kv=>decide (kv.1=k))=true then kvs.map (fun kv=>if kv.1=k then (kv.1,v) else kv) else kvs++[(k,v)]
theorem mI {p:κ×V}{r:List (κ×V)}{k:κ}(e:p.1=k):oM (p :: r) k=some p.2:=by simp[oM,Ds,e]
theorem nA {p:κ×V}{r:List (κ×V)}{k:κ}(e:¬ p.1=k):oM (p :: r) k=oM r k:=by simp[oM,Ds,e]
theorem xZ (k:κ):∀ kvs:List (κ×V),(kvs.any fun kv=>decide (kv.1=k))=(oM kvs k).isSome
 | []=>rfl
 | p :: r=>by
  rw[Eo];by_cases e:p.1=k
  · simp only[mI e,decide_eq_true e,Bool.true_or,Option.isSome_some]
  · rw[nA e,decide_eq_false e,Bool.false_or];exact xZ k r
theorem nW (kvs:List (κ×V))(k:κ)(v:V):(mK kvs k v).length<=kvs.length+1:=by
 unfold mK;split
 · rw[Ab];omega
 · rw[An,Av,Bp];omega
theorem nP.isSome_eq {o:Option V}{u:Option Value}(r:nP o u):o.isSome=u.isSome:=by
 cases o with
 | none=>cases u with
  | none=>rfl
  | some _=>exact(show False from r).elim
 | some _=>cases u with
  | none=>exact(show False from r).elim
  | some _=>rfl
theorem nP.getD {o:Option V}{u:Option Value}{d:V}{d':Value}(r:nP o u)(rd:bI d d'):bI (o.getD d) (u.getD d'):=by
 cases o with
 | none=>cases u with
  | none=>exact rd
  | some _=>exact(show False from r).elim
 | some _=>cases u with
  | none=>exact(show False from r).elim
  | some _=>exact r
theorem KV.val {kvs:List (κ×V)}{vs:List (κ×Value)}(r:KV kvs vs)(k:κ):nP (oM kvs k) (valueAt vs k):=by
 unfold KV at r;induction r with
 | nil=>exact True.intro
 | @cons p q ps qs h t ih =>
  obtain⟨h1,h2⟩:=h;by_cases e:p.1=k
  · have e':q.1=k:=h1.symm.trans e
    have b:valueAt (q :: qs) k=some q.2:=by simp[valueAt,Ds,e']
    rw[mI e,b];exact h2
  · have e':¬ q.1=k:=fun z=>e (h1.trans z)
    have b:valueAt (q :: qs) k=valueAt qs k:=by simp[valueAt,Ds,e']
    rw[nA e,b];exact ih
theorem KV.any {kvs:List (κ×V)}{vs:List (κ×Value)}(r:KV kvs vs)(k:κ):(kvs.any fun kv=>decide (kv.1=k))=vs.any fun kv=>decide (kv.1=k):=by
 unfold KV at r;induction r with
 | nil=>rfl
 | cons h t ih=>rw[Eo,Eo,ih,h.1]
theorem KV.repl {kvs:List (κ×V)}{vs:List (κ×Value)}(r:KV kvs vs)(k:κ){y:V}{u:Value}(ry:bI y u) :
 KV (kvs.map fun kv=>if kv.1=k then (kv.1,y) else kv) (vs.map fun kv=>if kv.1=k then (kv.1,u) else kv):=by
 unfold KV at r ⊢;induction r with
 | nil=>exact .nil
 | @cons p q ps qs h t ih =>
  rw[Ap,Ap];refine .cons ?_ ih
  obtain⟨h1,h2⟩:=h;by_cases e:p.1=k
  · rw[if_pos e,if_pos (h1.symm.trans e)];exact⟨h1,ry⟩
  · rw[if_neg e,if_neg (fun z=>e (h1.trans z))];exact⟨h1,h2⟩
theorem KV.put {kvs:List (κ×V)}{vs:List (κ×Value)}(r:KV kvs vs)(k:κ){y:V}{u:Value}(ry:bI y u):KV (mK kvs k y) (stored vs k u):=by
 unfold mK stored;rw[r.any k];by_cases e:(vs.any fun kv=>decide (kv.1=k))=true
 · rw[if_pos e,if_pos e];exact r.repl k ry
 · rw[if_neg e,if_neg e];exact Paired.snoc r ⟨rfl,ry⟩
theorem KV.length {kvs:List (κ×V)}{vs:List (κ×Value)}(r:KV kvs vs):kvs.length=vs.length:=Paired.length r
end
theorem aA6 {P:Program}{w:World}{k:Key}{u:Value}(r:bI (kV k) u):(cU P w).is k u=true:=by
 cases k with
 | inl i=>obtain⟨t,e⟩:=(show ∃ t,u=Value.int i t from r);subst e;exact xR P w i t
 | inr x=>obtain⟨t,e⟩:=(show ∃ t,u=Value.str x t from r);subst e;exact yZ P w x t
theorem tK {P:Program}{w:World}:∀ {ks:List Key} {us:List Value},bH (ks.map kV) us->ItemsAre (cU P w) ks us
 | [],_,r=>by rw[List.map_nil]at r;cases r;exact .nil
 | k :: ks,_,r=>by
  rw[Ap]at r;cases r with
  | cons h t=>exact .cons (aA6 h) (tK t)
abbrev KT (H:Hp):List (List Key×V)->List (List Key×Addr×Value)->Prop:=Paired fun p q=>p.1=q.1/\H q.2.1=some (.tup (p.1.map kV))/\bI p.2 q.2.2
theorem KT.val {H:Hp}{kvs:List (List Key×V)}{xs:List (List Key×Addr×Value)}(r:KT H kvs xs)(k:List Key):nP (oM kvs k) ((atKey xs k).map (·.2)):=by
 induction r with
 | nil=>exact True.intro
 | @cons p q ps qs h t ih =>
  obtain⟨h1,_,h2⟩:=h;by_cases e:p.1=k
  · have e':q.1=k:=h1.symm.trans e
    have b:atKey (q :: qs) k=some q.2:=by simp[atKey,Ds,e']
    rw[mI e,b];exact h2
  · have e':¬ q.1=k:=fun z=>e (h1.trans z)
    have b:atKey (q :: qs) k=atKey qs k:=by simp[atKey,Ds,e']
    rw[nA e,b];exact ih
theorem KT.repl {H:Hp}{kvs:List (List Key×V)}{xs:List (List Key×Addr×Value)}(r:KT H kvs xs)(k:List Key){y:V}{u:Value}(ry:bI y u) :
 KT H (kvs.map fun kv=>if kv.1=k then (kv.1,y) else kv) (xs.map (putAt k u)):=by
 induction r with
 | nil=>exact .nil
 | @cons p q ps qs h t ih =>
  rw[Ap,Ap];refine .cons ?_ ih
  obtain⟨h1,h2,h3⟩:=h;unfold putAt;by_cases e:p.1=k
  · rw[if_pos e,if_pos (h1.symm.trans e)];exact⟨h1,h2,ry⟩
  · rw[if_neg e,if_neg (fun z=>e (h1.trans z))];exact⟨h1,h2,h3⟩
theorem KT.put {H:Hp}{kvs:List (List Key×V)}{xs:List (List Key×Addr×Value)}(r:KT H kvs xs)(k:List Key){b:Addr}{y:V}{u:Value}(hb:H b=some (.tup (k.map kV)))(ry:bI y u) :
 KT H (mK kvs k y) (storedH xs k b u):=by
 have e:(kvs.any fun kv=>decide (kv.1=k))=(atKey xs k).isSome:=by
  rw[xZ,(r.val k).isSome_eq,Option.isSome_map]
 unfold mK storedH;rw[e];by_cases q:(atKey xs k).isSome=true
 · rw[if_pos q,if_pos q];exact r.repl k ry
 · rw[if_neg q,if_neg q];exact Paired.snoc r ⟨rfl,hb,ry⟩
theorem KT.keeps {H H':Hp}{kvs:List (List Key×V)}{xs:List (List Key×Addr×Value)}(r:KT H kvs xs)(ht:∀ b ys,H b=some (.tup ys)->H' b=some (.tup ys)):KT H' kvs xs :=
 Paired.mapP r fun _ _ z=>⟨z.1,ht _ _ z.2.1,z.2.2⟩
section
variable {P:Program}{w:World}{H:Hp}{h:Heap}{a:Addr}
theorem aA0 {u:HO}(ok:HOk P w H h)(e:Rd H a u):bN P w H h a u:=e.ok ok
theorem xH {kvs:List (Key×V)}(ok:HOk P w H h)(e:Rd H a (.dK kvs)):kvs.length<=sizeLine/\(a==sysModules)=false/\∃ vs,KV kvs vs/\h.DictOf (cU P w) a vs :=
 show bN P w H h a (.dK kvs) from aA0 ok e
theorem aN7 {kvs:List (Key×V)}(ok:HOk P w H h)(e:H a=some (.dK kvs)):kvs.length<=sizeLine/\(a==sysModules)=false/\∃ vs,KV kvs vs/\h.DictOf (cU P w) a vs:=xH ok (.inl e)
theorem wK {ks:List Key}(ok:HOk P w H h)(e:H a=some (.tup (ks.map kV))):(tupleKind (cU P w)).is h ks a:=by
 obtain⟨_,its,r,o,h1,h2,n,h3⟩:=(show bN P w H h a (.tup (ks.map kV)) from ok a _ e)
 exact⟨o,its.toArray,n,h1,h2,h3,by simpa using tK r⟩
theorem yY {kvs:List (List Key×V)}(ok:HOk P w H h)(e:Rd H a (.dT kvs)):kvs.length<=sizeLine/\(a==sysModules)=false /\
 ∃ xs,KT H kvs xs/\h.DictOfH (tupleKind (cU P w)) a xs:=by
 obtain⟨z,y,xs,r,o,es,ep,h1,h2,h3,h4,h5⟩:=(show bN P w H h a (.dT kvs) from aA0 ok e)
 refine⟨z,y,xs,r,o,es,ep,h1,h2,h3,h4,fun x hx=>?_,h5⟩
 have all:∀ {l:List (List Key×V)} {m:List (List Key×Addr×Value)},KT H l m->∀ x∈m,(tupleKind (cU P w)).is h x.1 x.2.1:=by
  intro l m q;induction q with
  | nil=>intro x hx;exact nomatch hx
  | @cons p q ps qs hq t ih =>
   intro x hx;rcases Ai.mp hx with e | hx
   · subst e
     exact wK ok (by rw[←hq.1];exact hq.2.1)
   · exact ih x hx
 exact all r x hx
theorem aP1 {kvs:List (List Key×V)}(ok:HOk P w H h)(e:H a=some (.dT kvs)):kvs.length<=sizeLine/\(a==sysModules)=false /\
 ∃ xs,KT H kvs xs/\h.DictOfH (tupleKind (cU P w)) a xs:=yY ok (.inl e)
end
def aCh (H:Hp)(a:Addr)(y:V)(r:Option V):Prop :=
 (∃ kvs k,Rd H a (.dK kvs)/\y=kV k/\r=oM kvs k)\/∃ kvs k b,Rd H a (.dT kvs)/\y=.ref b/\H b=some (.tup (k.map kV))/\r=oM kvs k
def aOm (H:Hp)(a:Addr)(y v:V)(H':Hp):Prop :=
 (∃ kvs k,H a=some (.dK kvs)/\y=kV k/\kvs.length<sizeLine/\H'=upd H a (.dK (mK kvs k v))) \/
 ∃ kvs k b,H a=some (.dT kvs)/\y=.ref b/\H b=some (.tup (k.map kV))/\kvs.length<sizeLine/\H'=upd H a (.dT (mK kvs k v))
section
variable {X:Cx}{pins:List (Addr×Obj)}{σ:St}{H:Hp}{s:Shared}{a:Addr}{y v:V}{u r:Value}{o:Option V}{A:Around}{E:Value->Shared->Prop}
theorem Inv.big (I:Inv X pins σ H s):sysModules<s.heap.objs.size:=by
 have h:mainGlobals<s.heap.objs.size:=(I.mod.glob.keeps I.bk).lt;exact Nat.lt_trans (by decide) h
theorem aC2 {Q:Value->Shared->Prop}(hu:A.units+1<cLine)(I:Inv X pins σ H s)(g:aCh H a y (some v))(ry:bI y u)(h:∀ w' s',Inv X pins σ H s'->bI v w'->Q w' s') :
 wpAny (model X.prog X.w) A (getItem (.ref a) u) Q E s:=by
 rcases g with ⟨kvs,k,e,ey,l⟩ | ⟨kvs,k,b,e,ey,eb,l⟩
 · subst ey
   obtain⟨z,hd,vs,rel,dd⟩:=xH I.hok e;obtain⟨w',hw,rw'⟩:=nP.some_of (v:=v) (o:=valueAt vs k) (by rw[l];exact rel.val k)
   exact wpAny_getItem_of (aA6 ry) dd.mapOf hw (h w' _ (I.tok _) rw')
 · subst ey
   cases (show u=Value.ref b from ry)
   obtain⟨z,hd,xs,rel,dd⟩:=yY I.hok e;obtain⟨w',hw,rw'⟩:=nP.some_of (v:=v) (o:=(atKey xs k).map (·.2)) (by rw[l];exact rel.val k)
   obtain⟨p,hp,hp2⟩:=Ej.mp hw;refine wpAny_getItem_heap (tupleKind_room_in1 hu) (wK I.hok eb) dd hp ?_
   rw[hp2];exact h w' _ (I.tok _) rw'
theorem aBq {h':Heap}{t':Nat}{ob:HO}(I:Inv X pins σ H s)(mu:Mut (H a))(hs:Heap.SameBut a s.heap h')(he:∃ q,h'.get? a=some q)(new:bN X.prog X.w (upd H a ob) h' a ob) :
 Inv X pins σ (upd H a ob) { s with heap:=h',toks:=t' } :=
 I.write (x:=a) (e:=a) mu (.inl rfl) (fun b q hb z=>(hs.2 b hb).trans z) he new
theorem aMe {P:Program}{w:World}{H':Hp}{h':Heap}{kvs:List (Key×V)}{vs:List (Key×Value)}(z:kvs.length<=sizeLine)(hd:(a==sysModules)=false)(rel:KV kvs vs)(dd:h'.DictOf (cU P w) a vs) :
 bN P w H' h' a (.dK kvs):=⟨z,hd,vs,rel,dd⟩
theorem aC7 {H':Hp}{Q:Unit->Shared->Prop}(hu:A.units+1<cLine)(I:Inv X pins σ H s)(g:aOm H a y v H')(ry:bI y u)(rv:bI v r)(h:∀ s',Inv X pins σ H' s'->Q () s') :
 wpAny (model X.prog X.w) A (setItem (.ref a) u r) Q E s:=by
 rcases g with ⟨kvs,k,e,ey,l,eH⟩ | ⟨kvs,k,b,e,ey,eb,l,eH⟩
 · subst ey eH
   obtain⟨z,hd,vs,rel,dd⟩:=aN7 I.hok e;have hz:vs.length<=sizeLine:=by rw[←rel.length];exact z
   have hl:(mK kvs k v).length<=sizeLine:=by have:=nW kvs k v;omega
   refine wpAny_setItem_pairs (hsz:=hz) (aA6 ry) dd fun h' dd' hs=>h _ ?_
   have he:∃ q,h'.get? a=some q:=let ⟨q,_,_,hq,_⟩:=dd';⟨q,hq⟩
   exact aBq I (by rw[e];exact True.intro) hs he (aMe hl hd (rel.put k rv) dd')
 · subst ey eH
   cases (show u=Value.ref b from ry)
   obtain⟨z,hd,xs,rel,dd⟩:=aP1 I.hok e;have hz:xs.length<=sizeLine:=by rw[←Paired.length rel];exact z
   have hl:(mK kvs k v).length<=sizeLine:=by have:=nW kvs k v;omega
   refine wpAny_setItem_heap (hsz:=hz) (tupleKind_room_in1 hu) (wK I.hok eb) dd fun h' dd' hs=>h _ ?_
   obtain⟨q,es,ep,hq,h2,h3,h4,_,h5⟩:=dd';refine aBq I (by rw[e];exact True.intro) hs ⟨q,hq⟩ ⟨hl,hd,_,(rel.put k eb rv).keeps fun c ys ec=>?_,q,es,ep,hq,h2,h3,h4,h5⟩
   rw[aK (aPs ec e (fun z=>nomatch z))];exact ec
end
def aM1 (i:Expr):Prop:=∀ ov iv,subscripted i false ov iv=operate [ov,iv] (getItem ov iv)
theorem aIw {prog:Program}{w:World}{A:Around}{E:Value->Shared->Prop}{s:Shared}{env:Env}{value slice:Expr}{pos:Pos}{T id:String}{Q:Value->Shared->Prop}
 (hl:typeLookup (.type T) "__getitem__" = pure (some (.builtin id))) (hs:aM1 slice)
 (h:wpAny (model prog w) A (eval value env) (fun o s₁=>wpAny (model prog w) A (eval slice env) (fun i s₂=>s₂.TypeIs o T/\wpAny (model prog w) A (getItem o i) Q E s₂) E s₁) E s) :
 wpAny (model prog w) A (eval (.Subscript value slice pos) env) Q E s:=by
 refine Subscript_ (wpAny_mono h (fun o s₁ h₁=>wpAny_mono h₁ (fun i s₂ h₂=>?_) fun _ _ x=>x) fun _ _ x=>x)
 obtain⟨hT,h₂⟩:=h₂;unfold subscriptTail;refine wpAny_bind ?_
 rw[getitemInPython_of_ne hT.not_modules];refine wpAny_bind (wpAny_specialOf hT hl ?_)
 have fin:wpAny (model prog w) A (subscripted slice false o i) (fun r s₃=>wpAny (model prog w) A (letTemporaryGo value o r >>= fun _=>pure r) Q E s₃) E s₂:=by
  rw[hs o i];exact wpAny_operating (wpAny_mono h₂ (fun r s₃ h₃=>wpAny_bind (wpAny_letTemporaryGo (wpAny_pure h₃))) fun _ _ x=>x)
 first
  | exact wpAny_pure (wpAny_bind fin)
  | exact wpAny_bind (wpAny_pure (wpAny_bind fin))
  | exact wpAny_bind fin
theorem xM {X:Cx}{pins:List (Addr×Obj)}{σ:St}{H:Hp}{s:Shared}{a:Addr}{y:V}{o:Option V}(I:Inv X pins σ H s)(g:aCh H a y o):s.TypeIs (.ref a) "dict":=by
 rcases g with ⟨kvs,k,e,_,_⟩ | ⟨kvs,k,b,e,_,_,_⟩
 · obtain⟨_,_,vs,_,dd⟩:=xH I.hok e
   exact dd.typeIs
 · obtain⟨_,_,xs,_,dd⟩:=yY I.hok e
   exact dd.typeIs
def aPb (td ty:TE):TE:=fun σ H Q=>td σ H fun x H1=>ty σ H1 fun y H2=>∃ a v,x=.ref a/\aCh H2 a y (some v)/\Q v H2
def aOf (td ty tv:TE):TS:=fun D σ H=>tv σ H fun v H1=>td σ H1 fun x H2=>ty σ H2 fun y H3=>∃ a H4,x=.ref a/\aOm H3 a y v H4/\D.nx σ H4
section
variable {X:Cx}{o i e value:Expr}{pos pos' tpos:Pos}{td ty tv:TE}
theorem aI4 (hu:X.A.units+1<cLine)(ho:PE X o td)(hi:PE X i ty)(hs:aM1 i):PE X (.Subscript o i pos) (aPb td ty):=by
 intro pins s σ H Q I h;refine aIw PySem.F.slot_dict_getitem.lookup hs (thn (ho pins s σ H _ I h) fun u s1 ⟨x,H1,I1,rx,q1⟩=>thn (hi pins s1 σ H1 _ I1 q1) fun iv s2 ⟨y,H2,I2,ry,a,v,ex,g,q2⟩=>?_)
 subst ex;obtain rfl:u=Value.ref a:=rx;exact⟨xM I2 g,aC2 hu I2 g ry fun w' s3 I3 rw'=>⟨v,H2,I3,rw',q2⟩⟩
theorem aHk (hu:X.A.units+1<cLine)(ho:PE X o td)(hi:PE X i ty)(hv:PE X value tv)(hs:swapsWith value (some (.Subscript o i pos')) pos.line X.env=pure false) :
 PS X (.Assign [.Subscript o i pos'] value pos) (aOf td ty tv):=by
 intro pins s σ H D I h;refine wpAny_Assign_Subscript (thn (hv pins s σ H _ I h) fun r s1 ⟨v,H1,I1,rv,q1⟩=>thn (ho pins s1 σ H1 _ I1 q1) fun u s2 ⟨x,H2,I2,rx,q2⟩=>thn (hi pins s2 σ H2 _ I2 q2) fun iv s3 ⟨y,H3,I3,ry,a,H4,ex,g,q3⟩=>?_) hs
 subst ex;obtain rfl:u=Value.ref a:=rx;exact aC7 hu I3 g ry rv fun s4 I4=>⟨σ,H4,I4,q3⟩
end
theorem aGi {P:Program}{w:World}{H:Hp}(h:Heap)(hb:sysModules<h.objs.size):bN P w H (h.push { cls:=.type "dict",data:=.dict #[] }) h.objs.size (.dT []) :=
 ⟨Bz _,beq_eq_false_iff_ne.mpr (Ne.symm (Ax hb)),[],.nil,_,#[],0,Aq _ rfl,⟨rfl,rfl,rfl⟩,rfl,rfl,Cy⟩
def aMo:TE:=fun _ H Q=>∀ p,H p=none->Q (.ref p) (upd H p (.dT []))
section
variable {X:Cx}{pos:Pos}
theorem aFt:PE X (.Dict [] [] pos) aMo:=fun pins s σ H Q I h =>
 wpAny_Dict_empty ⟨.ref s.heap.objs.size,_,I.laid (a:=s.heap.objs.size) (o:=.dT []) (t':=s.toks) (fun _ _ q=>Ad _ q) (Af _) (aGi s.heap I.big),rfl,h _ (I.hok.fresh (Af _))⟩
end
structure M2 (X:Cx)(o:Expr)(m:Str)(apos:Pos)(e f:Expr)(cpos:Pos):Prop where
 base:attributeBase o m X.env (eval o X.env)=eval o X.env
 few:((backTo cpos (starEach [e,f] X.env)).all (fun x=>!x.1)&&(backToKw cpos (keywordEach [] X.env)).all (fun x=>x.1.isSome)
  && decide (([e,f]:List Expr).length+([]:List Keyword).length+(if ([]:List Keyword).isEmpty then 0 else 1)<30))=true
 line:(apos.endLine==cpos.line)=true
 trees:backTo cpos (starEach [e,f] X.env)=[(false,eval e X.env),(false,eval f X.env)]
def IsD (H:Hp)(a:Addr):Prop:=(∃ kvs,Rd H a (.dK kvs))\/∃ kvs,Rd H a (.dT kvs)
theorem aKt {X:Cx}{pins:List (Addr×Obj)}{σ:St}{H:Hp}{s:Shared}{a:Addr}(I:Inv X pins σ H s)(d:IsD H a) :
 s.TypeIs (.ref a) "dict"/\(∀ b,Value.ref a=.ref b->∃ ob,s.heap.get? b=some ob/\ob.dict=none)/\(a==sysModules)=false:=by
 rcases d with ⟨kvs,e⟩ | ⟨kvs,e⟩
 · obtain⟨_,hd,vs,_,dd⟩:=xH I.hok e
   refine⟨dd.typeIs,fun b q=>?_,hd⟩
   cases q;obtain⟨ob,_,_,h1,h2,_⟩:=dd;exact⟨ob,h1,h2.2.1⟩
 · obtain⟨_,hd,xs,_,dd⟩:=yY I.hok e
   refine⟨dd.typeIs,fun b q=>?_,hd⟩
   cases q;obtain⟨ob,_,_,h1,h2,_⟩:=dd;exact⟨ob,h1,h2.2.1⟩
section
variable {X:Cx}{pins:List (Addr×Obj)}{σ:St}{H:Hp}{s:Shared}{a:Addr}{y d:V}{u r:Value}{o:Option V}{A:Around}{E:Value->Shared->Prop}
theorem aMk {Q:Value->Shared->Prop}(hu:A.units+1<cLine)(I:Inv X pins σ H s)(g:aCh H a y o)(ry:bI y u)(rd:bI d r)(h:∀ w' s',Inv X pins σ H s'->bI (o.getD d) w'->Q w' s') :
 wpAny (model X.prog X.w) A (call (.builtin "dict.get") [.ref a,u,r]) Q E s:=by
 rcases g with ⟨kvs,k,e,ey,l⟩ | ⟨kvs,k,b,e,ey,eb,l⟩
 · subst ey
   obtain⟨z,hd,vs,rel,dd⟩:=xH I.hok e;refine call_meetsIn PySem.F.slot_dict_get dd.typeIs PySem.F.entry_dict_get (PySem.F.args_dict_get_3 _ _ _) (meets_dict_get_default (cU X.prog X.w) a (aA6 ry) hd r) ⟨_,dd.mapOf,h _ _ (I.tok _) ?_⟩
   rw[l];exact(rel.val k).getD rd
 · subst ey
   cases (show u=Value.ref b from ry)
   obtain⟨z,hd,xs,rel,dd⟩:=yY I.hok e;refine call_meetsIn PySem.F.slot_dict_get dd.typeIs PySem.F.entry_dict_get (PySem.F.args_dict_get_3 _ _ _) (meetsH_dict_get_default (tupleKind (cU X.prog X.w)) a b hd r) ⟨tupleKind_room_in1 hu,k,xs,wK I.hok eb,dd,h _ _ (I.tok _) ?_⟩
   rw[l];exact(rel.val k).getD rd
end
def aM7 (td ty tx:TE):TE:=fun σ H Q=>td σ H fun x H1=>∃ a,x=.ref a/\IsD H1 a/\ty σ H1 fun y H2=>tx σ H2 fun z H3=>∃ o,aCh H3 a y o/\Q (o.getD z) H3
section
variable {X:Cx}{o e f:Expr}{apos cpos:Pos}{td ty tx:TE}
theorem aEh (hu:X.A.units+1<cLine)(ho:PE X o td)(he:PE X e ty)(hf:PE X f tx)(m:M2 X o "get" apos e f cpos):PE X (.Call (.Attribute o "get" apos) [e,f] [] cpos) (aM7 td ty tx):=by
 intro pins s σ H Q I h;refine wpAny_Call_method m.base m.few m.line PySem.F.plainAttrs_dict PySem.F.slot_dict_get PySem.F.type_dict_get (thn (ho pins s σ H _ I h) fun u s1 ⟨x,H1,I1,rx,a,ex,d,q1⟩=>?_)
 subst ex;obtain rfl:u=Value.ref a:=rx;obtain⟨t1,t2,_⟩:=aKt I1 d;refine⟨t1,t2,?_⟩
 rw[m.trees]
 refine Calls.callWith_builtin rfl (Calls.evalArgs_plain (Calls.spliced_cons (thn (he pins s1 σ H1 _ I1 q1) fun iv s2 ⟨y,H2,I2,ry,q2⟩ =>
  Calls.spliced_cons (thn (hf pins s2 σ H2 _ I2 q2) fun fv s3 ⟨z,H3,I3,rz,ov,g,q3⟩=>Calls.spliced_nil ?_))))
 exact aMk hu I3 g ry rz fun w' s4 I4 rw'=>⟨_,H3,I4,rw',q3⟩
end
end L2
namespace Mir
open PySem L2
variable {X:Cx}{P:XP}{a b c e:Expr}{es:List Expr}{f g h':FE}{fs:FEs}{pos p:Pos}
def asK:D->R (List Int)
 | .tup ds=>cH ds
 | _=>.stk
theorem uR {d:D}{x:Xc}(h:asK d=.exc x):False:=by
 cases d<;>simp[asK]at h
 exact dA h
def hZ:List (List Int)->List D->List Int->Option D
 | k :: ks,d :: ds,j=>if k=j then some d else hZ ks ds j
 | _,_,_=>none
def sJ (ks:List (List Int))(ds:List D)(j:List Int)(v:D):List (List Int)×List D :=
 if j∈ks then (ks,(ks.zip ds).map fun p=>if p.1=j then v else p.2) else (ks++[j],ds++[v])
theorem uY {a b:List Int}(h:a.map (Sum.inl:Int->Key)=b.map Sum.inl):a=b:=by
 induction a generalizing b with
 | nil=>cases b with
  | nil=>rfl
  | cons _ _=>simp at h
 | cons x r ih=>cases b with
  | nil=>simp at h
  | cons y s =>
   simp only[Ap,Ga.injEq,Sum.inl.injEq]at h;rw[h.1,ih h.2]
theorem aNb (k:List Int):(k.map Sum.inl:List Key).map kV=k.map V.int:=by
 rw[Bm];rfl
section
variable {K:PySem.W.Frag}{G:Hp}
theorem uE {k:List Int}{ks:List (List Int)}{kvs:List (List Key×V)}(h:cJ (k :: ks) kvs):∃ v r,kvs=(k.map Sum.inl,v) :: r/\cJ ks r:=by
 unfold cJ at h;cases kvs with
 | nil=>simp at h
 | cons p r =>
  simp only[Ga.injEq,Ap]at h;exact⟨p.2,r,by rw[←h.1],h.2⟩
theorem oY:∀ {ks:List (List Int)} {ds:List D} {kvs:List (List Key×V)} {j:List Int},cJ ks kvs->aJ K G ds (kvs.map (·.2))->(∀ d,hZ ks ds j=some d->∃ v,oM kvs (j.map Sum.inl)=some v/\Rep K G d v)/\(hZ ks ds j=none->oM kvs (j.map Sum.inl)=none)
 | [],ds,kvs,j,hk,r=>by
  have e:kvs=[]:=by unfold cJ at hk;simpa using hk
  subst e;exact⟨fun d z=>by simp[hZ]at z,fun _=>rfl⟩
 | k :: ks,ds,kvs,j,hk,r=>by
  obtain⟨v,t,rfl,hk'⟩:=uE hk;cases ds with
  | nil=>have:=r.length;simp at this
  | cons d ds =>
   obtain⟨x,xr,e1,e2,e3⟩:=r;simp only[Ap,Ga.injEq]at e1;obtain⟨e1,e1'⟩:=e1;subst e1 e1';by_cases z:k=j
   · subst z
     refine⟨fun d' q=>?_,fun q=>by simp[hZ]at q⟩
     simp only[hZ,if_true,Cg.injEq]at q;subst q;exact⟨v,mI rfl,e2⟩
   · have nz:¬ (k.map Sum.inl:List Key)=j.map Sum.inl:=fun w=>z (uY w)
     have ih:=oY (j:=j) hk' e3;rw[nA (p:=(k.map Sum.inl,v)) nz];simp only[hZ,if_neg z];exact ih
theorem aBl:∀ {ks:List (List Int)} {ds:List D} {kvs:List (List Key×V)} {j:List Int} {d:D} {v:V},cJ ks kvs->aJ K G ds (kvs.map (·.2))->Rep K G d v->aJ K G ((ks.zip ds).map fun p=>if p.1=j then d else p.2) ((kvs.map fun kv=>if kv.1=j.map Sum.inl then (kv.1,v) else kv).map (·.2))
 | [],ds,kvs,j,d,v,hk,r,rv=>by
  have e:kvs=[]:=by unfold cJ at hk;simpa using hk
  subst e;rfl
 | k :: ks,ds,kvs,j,d,v,hk,r,rv=>by
  obtain⟨u,t,rfl,hk'⟩:=uE hk;cases ds with
  | nil=>have:=r.length;simp at this
  | cons d0 ds =>
   obtain⟨x,xr,e1,e2,e3⟩:=r;simp only[Ap,Ga.injEq]at e1;obtain⟨e1,e1'⟩:=e1;subst e1 e1';have ih:=aBl (j:=j) hk' e3 rv;by_cases z:k=j
   · subst z
     refine⟨v,_,?_,?_,ih⟩
     · simp
     · simp only[if_true];exact rv
   · have nz:¬ (k.map Sum.inl:List Key)=j.map Sum.inl:=fun w=>z (uY w)
     refine⟨u,_,?_,?_,ih⟩
     · simp[nz]
     · simp only[if_neg z];exact e2
theorem aGz {ks:List (List Int)}{kvs:List (List Key×V)}(hk:cJ ks kvs)(j:List Int):(kvs.any fun kv=>decide (kv.1=j.map Sum.inl))=decide (j∈ks):=by
 have e:(kvs.any fun kv=>decide (kv.1=j.map Sum.inl))=(kvs.map (·.1)).any fun q=>decide (q=j.map Sum.inl):=by rw[List.any_map];rfl
 rw[e,hk,List.any_map];rw[Bool.eq_iff_iff,decide_eq_true_eq,El];constructor
 · rintro⟨q,hq,w⟩
   rw[←uY (of_decide_eq_true w)];exact hq
 · intro hq
   exact⟨j,hq,decide_eq_true rfl⟩
theorem aHn {ks:List (List Int)}{ds:List D}{kvs:List (List Key×V)}{j:List Int}{d:D}{v:V}(hk:cJ ks kvs)(r:aJ K G ds (kvs.map (·.2)))(rv:Rep K G d v):cJ (sJ ks ds j d).1 (mK kvs (j.map Sum.inl) v)/\aJ K G (sJ ks ds j d).2 ((mK kvs (j.map Sum.inl) v).map (·.2)):=by
 unfold sJ mK;rw[aGz hk j];by_cases z:j∈ks
 · rw[if_pos z,decide_eq_true z,if_pos rfl]
   refine⟨?_,aBl hk r rv⟩
   unfold cJ at hk ⊢;rw[Bm,←hk];apply Dg
   intro p _;show (if p.1=_ then (p.1,v) else p).1=p.1
   split<;>rfl
 · rw[if_neg z,decide_eq_false z,if_neg (by simp)]
   refine⟨?_,?_⟩
   · unfold cJ at hk ⊢
     rw[Bo,Bo,hk];rfl
   · rw[Bo];exact r.append (aJ.one rv)
end
def pS:FE:=fun _=>.ok ⟨.tmp,true,.dct [] []⟩
theorem aFo:PE X (.Dict [] [] pos) (tE X.K P pS):=by
 refine PE.imp aFt ?_
 rintro σ H Q ⟨H0,B,ρ,d,h⟩ p hp
 refine h _ _ (aI.upd_new hp) ⟨p,_,rfl,hp,bC,⟨[],rfl,rfl,rfl⟩⟩
theorem aM.key {H0 H H':Hp}{B:Addr->Prop}{v:V}{r:Res}{k:List Int}{K:PySem.W.Frag}(g:aM K H0 H H' B v r)(e:asK r.d=.ok k):∃ b,v=.ref b/\H' b=some (.tup ((k.map Sum.inl:List Key).map kV)):=by
 cases hd:r.d with
 | tup ds =>
  rw[hd]at e;obtain⟨b,xs,h1,h2,h3⟩:=g.tuple hd;have:=aJ.ints e h3
  exact⟨b,h1,by rw[aNb,←this];exact h2⟩
 | _=>rw[hd]at e;simp[asK]at e
def eV (a k:FE):FE:=fun ρ=>do
 let x ← a ρ
 let y ← k ρ
 match x.d with
 | .dct ks ds=>do
  let j ← asK y.d
  match hZ ks ds j with
  | some d=>.ok ⟨.shr,x.fr||d.imm,d⟩
  | none=>.stk
 | _=>.stk
theorem wG (hu:X.A.units+64<cLine)(ha:PE X a (tE X.K P f))(hb:PE X b (tE X.K P g))(hs:aM1 b:=by exact fun _ _=>rfl):PE X (.Subscript a b pos) (tE X.K P (eV f g)):=by
 refine PE.imp (aI4 (by omega) ha hb hs) ?_
 intro σ H Q h;refine t2 (q:=fun x y H2=>∃ a v,x=.ref a/\aCh H2 a y (some v)/\Q v H2) h ?_
 intro H0 B ρ v w H' r r' d g1 g2 s h;cases hd:r.d with
 | dct ks ds =>
  simp only[hd]at h;cases e1:asK r'.d with
  | stk=>simp[e1]at h
  | exc x=>exact(uR e1).elim
  | ok j =>
   simp only[e1,R.ok_bind]at h;obtain⟨a,kvs,h1,h2,h3,h4⟩:=g1.dict hd;obtain⟨b,k1,k2⟩:=g2.key e1;cases e2:hZ ks ds j with
   | none=>simp[e2]at h
   | some dd =>
    simp only[e2]at h;obtain⟨u,q1,q2⟩:=(oY h3 h4).1 dd e2;exact⟨a,u,h1,.inr ⟨kvs,_,b,h2,k1,k2,q1.symm⟩,h u H' (aI.refl _) (Rep.fr d.sam q2)⟩
 | _=>simp[hd]at h
end Mir
namespace Mir
open PySem L2
variable {X:Cx}{P:XP}{a b c e:Expr}{es:List Expr}{f g k:FE}{fs:FEs}{pos p:Pos}
def oK (a k x:FE):FE:=fun ρ=>do
 let m ← a ρ
 match m.d with
 | .dct ks ds=>do
  let y ← k ρ
  let z ← x ρ
  let j ← asK y.d
  match hZ ks ds j with
  | some d=>.ok ⟨.shr,m.fr||d.imm,d⟩
  | none=>do
   let i ← asI z.d
   .ok (sc (.int i))
 | _=>.stk
theorem aJ5 {ap cp:Pos}(hu:X.A.units+64<cLine)(ha:PE X a (tE X.K P f))(hb:PE X b (tE X.K P k))(hc:PE X c (tE X.K P g))
 (hbase:attributeBase a "get" X.env (eval a X.env)=eval a X.env:=by rfl)
 (hfew:((backTo cp (starEach [b,c] X.env)).all (fun x=>!x.1)&&(backToKw cp (keywordEach [] X.env)).all (fun x=>x.1.isSome)&&decide (([b,c]:List Expr).length+([]:List Keyword).length+(if ([]:List Keyword).isEmpty then 0 else 1)<30))=true:=by rfl)
 (hline:(ap.endLine==cp.line)=true:=by rfl) (htr:backTo cp (starEach [b,c] X.env)=[(false,eval b X.env),(false,eval c X.env)]:=by rfl) :
 PE X (.Call (.Attribute a "get" ap) [b,c] [] cp) (tE X.K P (oK f k g)):=by
 refine PE.imp (aEh (by omega) ha hb hc ⟨hbase,hfew,hline,htr⟩) ?_
 rintro σ H Q ⟨H0,B,ρ,d,h⟩
 unfold oK at h;cases e1:f ρ with
 | stk=>simp[e1]at h
 | exc x=>simp[e1]at h;exact cR d e1 h
 | ok r =>
  simp only[e1,R.ok_bind]at h;cases hd:r.d with
  | dct ks ds =>
   simp only[hd]at h;refine eB d e1 fun v H1 s1 d1 g1=>?_
   obtain⟨a,kvs,h1,h2,h3,h4⟩:=g1.dict hd;refine⟨a,h1,.inr ⟨kvs,h2⟩,?_⟩
   cases e2:k ρ with
   | stk=>simp[e2]at h
   | exc x=>simp[e2]at h;exact cR d1 e2 (P.mono h s1)
   | ok r2 =>
    simp only[e2,R.ok_bind]at h;refine eB d1 e2 fun v2 H2 s2 d2 g2=>?_
    cases e3:g ρ with
    | stk=>simp[e3]at h
    | exc x=>simp[e3]at h;exact cR d2 e3 (P.mono h (s1.trans s2))
    | ok r3 =>
     simp only[e3,R.ok_bind]at h;refine eB d2 e3 fun v3 H3 s3 d3 g3=>?_
     cases e4:asK r2.d with
     | stk=>simp[e4]at h
     | exc x=>exact(uR e4).elim
     | ok j =>
      simp only[e4,R.ok_bind]at h;obtain⟨bb,k1,k2⟩:=g2.key e4;have s23:=s2.trans s3;have h2':Rd H3 a (.dT kvs):=aI.rd s23 h2;have h4':aJ X.K (aZ r.fr H0 H3 B) ds (kvs.map (·.2)):=aJ.same (aV (fun b o q _=>s23 b o q) fun b z=>.inl z) h4;cases e5:hZ ks ds j with
      | some dd =>
       simp only[e5]at h;obtain⟨u,q1,q2⟩:=(oY h3 h4').1 dd e5;exact⟨some u,.inr ⟨kvs,_,bb,h2',k1,s3 _ _ k2,q1.symm⟩,h u H3 ((s1.trans s2).trans s3) (Rep.fr d3.sam q2)⟩
      | none =>
       simp only[e5]at h;have q1:=(oY (j:=j) h3 h4').2 e5;cases e6:asI r3.d with
       | stk=>simp[e6]at h
       | exc x=>exact(cZ e6).elim
       | ok i =>
        simp only[e6,R.ok_bind]at h;refine⟨none,.inr ⟨kvs,_,bb,h2',k1,s3 _ _ k2,q1.symm⟩,?_⟩
        show Q v3 H3
        rw[g3.int (dJ e6)];exact h _ H3 ((s1.trans s2).trans s3) (aM.sc (show Rep _ _ (.int i) _ from rfl))
  | _=>simp[hd]at h
def ownD (i:Nat)(ρ:Env):R (Bool×List (List Int)×List D):=match ρ[i]? with
 | some (some ⟨.own,fr,.dct ks ds⟩)=>.ok (fr,ks,ds)
 | _=>.stk
theorem aH3 {i:Nat}{ρ:Env}{y:Bool×List (List Int)×List D}(h:ownD i ρ=.ok y):ρ[i]?=some (some ⟨.own,y.1,.dct y.2.1 y.2.2⟩):=by
 unfold ownD at h;split at h
 · rename_i e;cases h;exact e
 · cases h
def mB (i:Nat)(k f:FE):FS:=fun ρ=>(ownD i ρ).at ρ fun y=>(f ρ).at ρ fun r=>(r.give).at ρ fun x=>(k ρ).at ρ fun kr=>(asK kr.d).at ρ fun j =>
 if y.2.1.length<sizeLine then .nx (ρ.set i (some ⟨.own,y.1&&x.fr,.dct (sJ y.2.1 y.2.2 j x.d).1 (sJ y.2.1 y.2.2 j x.d).2⟩)) else .stk
theorem cJ.len {ks:List (List Int)}{kvs:List (List Key×V)}(h:cJ ks kvs):kvs.length=ks.length:=by
 simpa using congrArg Ep h
theorem aFm {i:Nat}{x:Str}{p tp:Pos}(hu:X.A.units+64<cLine)(hN:X.N[i]?=some x)(hv:Vis X.env.scope x)(hk:PE X b (tE X.K P k))(he:PE X e (tE X.K P f))(hd:(x==("__debug__":Str))=false:=by decide)(hcd:(x==("__classdict__":Str))=false:=by decide)
 (hs:swapsWith e (some (.Subscript (.Name x p) b tp)) pos.line X.env=pure false:=by rfl) :
 PS X (.Assign [.Subscript (.Name x p) b tp] e pos) (tS X.K P (mB i k f)):=by
 refine PS.imp (aHk (by omega) (nM hN hv hd hcd) hk he hs) ?_
 rintro D σ H ⟨H0,T,ρ,d,h⟩
 unfold mB at h;cases e0:ownD i ρ with
 | stk=>simp only[e0,R.at]at h;exact h.elim
 | exc z=>unfold ownD at e0;split at e0<;>cases e0
 | ok y =>
  simp only[e0,R.at]at h;have ho:=aH3 e0;cases e1:f ρ with
  | stk=>simp only[e1]at h;exact h.elim
  | exc z=>simp only[e1]at h;exact cR d.e e1 (h σ H d Ext.refl)
  | ok r =>
   simp only[e1]at h;refine eB d.e e1 fun v H1 s1 d1 g1=>?_
   cases e2:r.give with
   | stk=>simp only[e2]at h;exact h.elim
   | exc z=>unfold Res.give at e2;split at e2<;>cases e2
   | ok r' =>
    simp only[e2]at h;obtain⟨w1,w2⟩:=g1.give d.e e2;subst w1;obtain⟨a,kvs,q1,q2,q3,q4,q5⟩:=d.ownD ho;refine⟨_,q1,?_⟩
    cases e3:k ρ with
    | stk=>simp only[e3]at h;exact h.elim
    | exc z=>simp only[e3]at h;exact cR d1 e3 (h σ H1 (d.mono s1) (Ext.same s1))
    | ok kr =>
     simp only[e3]at h;refine eB d1 e3 fun v2 H2 s2 d2 g2=>?_
     cases e4:asK kr.d with
     | stk=>simp only[e4]at h;exact h.elim
     | exc z=>exact(uR e4).elim
     | ok j =>
      simp only[e4]at h;by_cases hz:y.2.1.length<sizeLine
      · rw[if_pos hz]at h
        obtain⟨bb,k1,k2⟩:=g2.key e4;have s12:=s1.trans s2;have dS:=d.mono s12;have m1:∀ fr,aI (aZ fr H0 H1 (Bs T σ ρ)) (aZ fr H0 H2 (Bs T σ ρ)):=fun fr=>aV (fun b o q _=>s2 b o q) fun b z=>.inl z;have m2:∀ fr,aI (aZ fr H0 H (Bs T σ ρ)) (aZ fr H0 H2 (Bs T σ ρ)):=fun fr=>aV (fun b o q _=>s12 b o q) fun b z=>.inl z
        have rv:Rep X.K (aZ (y.1&&r.fr) H0 H2 (Bs T σ ρ)) r.d v:=by
         obtain⟨_,_,z1,z2,_⟩:=(aJ.one (Rep.same (m1 _) w2)).andR (fr:=y.1);cases z1;exact z2
        have pk:=aHn (j:=j) q4 (aJ.same (m2 _) q5).andL rv;refine⟨a,_,rfl,.inr ⟨kvs,j.map Sum.inl,bb,s12 _ _ q3,k1,k2,by rw[q4.len];exact hz,rfl⟩,?_⟩
        obtain⟨v1,v2⟩:=dS.writeO (fr:=y.1&&r.fr) (dd:=.dct (sJ y.2.1 y.2.2 j r.d).1 (sJ y.2.1 y.2.2 j r.d).2) (o':=.dT (mK kvs (j.map Sum.inl) v)) q1 ho rfl q2 ⟨_,rfl,pk.1,pk.2⟩;exact h σ _ v1 ((Ext.same s12).trans v2)
      · rw[if_neg hz]at h;exact h.elim
end Mir
namespace Srt
open PySem PySem.W PyProof.Rows
def ins {α:Type}(r:α->α->Bool)(x:α):List α->List α
 | []=>[x]
 | y :: l=>if r y x then y :: ins r x l else x :: y :: l
def srt {α:Type}(r:α->α->Bool):List α->List α
 | []=>[]
 | x :: l=>ins r x (srt r l)
section
variable {α:Type}{r:α->α->Bool}
theorem pP (x:α):∀ l:List α,(ins r x l).Perm (x :: l)
 | []=>Cc _
 | y :: l=>by
  unfold ins;split
  · exact((pP x l).cons y).trans (List.Perm.swap x y l)
  · exact Cc _
theorem dB:∀ l:List α,(srt r l).Perm l
 | []=>Cc _
 | x :: l=>(pP x (srt r l)).trans ((dB l).cons x)
structure Tot (r:α->α->Bool):Prop where
 asy:∀ {a b},r a b=true->r b a=false
 tri:∀ {a b},r a b=false->r b a=false->a=b
 trs:∀ {a b c},r a b=true->r b c=true->r a c=true
theorem Tot.le (t:Tot r){a b c:α}(h:r b a=false)(g:r c b=false):r c a=false:=by
 cases q:r c a with
 | false=>rfl
 | true =>
  cases ab:r a b with
  | true=>have:=t.trs q ab;rw[g]at this;cases this
  | false=>rw[t.tri ab h]at q;rw[g]at q;cases q
theorem aEy (t:Tot r)(x:α):∀ {l:List α},l.Pairwise (fun a b=>r b a=false)->(ins r x l).Pairwise fun a b=>r b a=false
 | [],_=>by simp[ins]
 | y :: l,h=>by
  have hc:=Ee.mp h;obtain⟨h1,h2⟩:=hc;unfold ins;split
  · rename_i z
    refine Ee.mpr ⟨fun b hb=>?_,aEy t x h2⟩
    rcases Ai.mp ((pP x l).mem_iff.mp hb) with e | e
    · rw[e];exact t.asy z
    · exact h1 b e
  · rename_i z
    have z':r y x=false:=by simpa using z
    refine Ee.mpr ⟨fun b hb=>?_,h⟩
    rcases Ai.mp hb with e | e
    · rw[e];exact z'
    · exact t.le z' (h1 b e)
theorem gR (t:Tot r):∀ l:List α,(srt r l).Pairwise fun a b=>r b a=false
 | []=>Cp
 | x :: l=>aEy t x (gR t l)
theorem eW (t:Tot r){l k:List α}(p:k.Perm l)(u:k.Pairwise fun a b=>r b a=false):k=srt r l :=
 List.Perm.eq_of_pairwise (le:=fun a b=>r b a=false) (fun a b _ _ h g=>t.tri g h) u (gR t l) (p.trans (dB l).symm)
theorem wL (l:List α):(srt r l).length=l.length:=(dB l).length_eq
theorem sO (ks:List α)(d0:α):(Bd ks.length).map (fun i=>ks.getD i d0)=ks:=by
 refine List.ext_getElem (by simp) fun i h1 h2=>?_
 simp[h2]
theorem qM {n:Nat}{p:Array Nat}(ip:Inv n p):p.toList.Perm (Bd n):=by simpa using Array.perm_iff_toList_perm.mp ip
theorem aNj (t:Tot r){p:Array Nat}{ks:List α}(d0:α)(ip:Inv ks.length p)(u:Up (fun i j=>r (ks.getD i d0) (ks.getD j d0)) p ks.length):p.toList.map (fun i=>ks.getD i d0)=srt r ks:=by
 refine eW t ?_ ?_
 · have:=(qM ip).map fun i=>ks.getD i d0
   rw[sO]at this;exact this
 · rw[Bn,Cj]
   intro i j hi hj hij;have sz:=ip.size;have:=u i j (Ex hij) (by rw[←sz];simpa using hj)
   unfold at' at this;have ei:p.getD i 0=p.toList[i]:=by simp[Array.getD,show i<p.size by simpa using hi]
   have ej:p.getD j 0=p.toList[j]:=by simp[Array.getD,show j<p.size by simpa using hj]
   rw[ei,ej]at this;exact this
end
def ix (a b:Int):Bool:=decide (a<b)
theorem eD:Tot ix:=⟨fun h=>decide_eq_false (by have:=of_decide_eq_true h;omega),fun h g=>by have:=of_decide_eq_false h;have:=of_decide_eq_false g;omega,fun h g=>decide_eq_true (by have:=of_decide_eq_true h;have:=of_decide_eq_true g;omega)⟩
theorem nU:Tot lx:=⟨aAc,aAh,zU⟩
theorem jG:Tot px:=⟨aLs,aKr,aNk⟩
theorem Tot.ord {α:Type}{r:α->α->Bool}(t:Tot r)(key:Nat->α):Ord fun i j=>r (key i) (key j):=aMc key t.asy t.tri t.trs
section
variable {prog:Program}{w:World}{A:Around}{E:Value->Shared->Prop}{s:Shared}
theorem wP:∀ {vs:List Value} {ns:List Int} {i:Nat},IntsAre vs ns->i<vs.length->∃ t,vs.getD i Value.none=.int (ns.getD i 0) t
 | _,_,_,.nil,h=>by simp at h
 | _,_,0,.cons n t hr,_=>⟨t,rfl⟩
 | _,_,i+1,.cons n t hr,h=>by
  obtain⟨u,e⟩:=wP (i:=i) hr (by simpa using h)
  exact⟨u,by simpa using e⟩
theorem aFj {vs:List Value}{ns:List Int}{t:Shared}(T:IntsAre vs ns)(two:2<=vs.length) :
 wpAny (model prog w) A (keyKind' vs.toArray) (fun κ t'=>kA t t'/\kO prog w A (fun i j=>ix (ns.getD i 0) (ns.getD j 0)) vs κ t) (fun _ _=>False) t:=by
 match vs,T,two with
 | v1 :: v2 :: vs,T,_ =>
  rw[keyKind_ints T];refine wpAny_pure ⟨kA.refl t,fun i j C s1 hi hj l q=>?_⟩
  obtain⟨t1,e1⟩:=wP T hi;obtain⟨t2,e2⟩:=wP T hj;unfold kas_ask;rw[e1,e2];exact kat_lt_int (q s1 l)
end
end Srt
namespace L2
open PySem PySem.Spec PyProof.Rows
section
variable {X:Cx}{pins:List (Addr×Obj)}{σ:St}{H:Hp}{s:Shared}{h':Heap}{D:Addr}{o:HO}
theorem bN.there {P:Program}{w:World}{h:Heap}{a:Addr}(x:bN P w H h a o):∃ u,h.get? a=some u:=by
 cases o with
 | lst xs=>obtain⟨_,_,_,_,e⟩:=x;exact⟨_,e⟩
 | tup xs=>obtain⟨_,_,_,u,e,_⟩:=x;exact⟨_,e⟩
 | dK kvs=>obtain⟨_,_,_,_,u,_,_,e,_⟩:=x;exact⟨_,e⟩
 | dT kvs=>obtain⟨_,_,_,_,u,_,_,e,_⟩:=x;exact⟨_,e⟩
 | set S n=>obtain⟨u,_,_,_,e,_⟩:=x;exact⟨_,e⟩
 | ins C dx fs=>obtain⟨_,_,_,e,_⟩:=x;exact⟨_,e⟩
 | own y=>exact x
 | xd fs=>obtain⟨_,⟨u,_,_,e,_⟩,_⟩:=x;exact⟨_,e⟩
 | rng lo hi=>obtain⟨_,_,_,e⟩:=x;exact⟨_,e⟩
 | frz ob u=>obtain⟨e,_⟩:=x;exact⟨_,e⟩
 | tbl ps=>exact⟨_,x⟩
 | met f y=>exact⟨_,x⟩
 | ext φ=>obtain⟨_,e,_⟩:=x;exact e
theorem Inv.laidN {t':Nat}(I:Inv X pins σ H s)(k:∀ b u,s.heap.get? b=some u->h'.get? b=some u)(hD:s.heap.get? D=none)(new:bN X.prog X.w (upd H D o) h' D o) :
 H D=none/\Inv X pins σ (upd H D o) { s with heap:=h',toks:=t' }:=by
 have hn:H D=none:=by
  cases q:H D with
  | none=>rfl
  | some u=>obtain⟨v,e⟩:=(I.hok D u q).there;rw[hD]at e;cases e
 have nb:∀ b u,s.heap.get? b=some u->b≠D:=fun b u e z=>by rw[z,hD]at e;cases e
 refine⟨hn,I.un ⟨fun b u q _ _ _=>k b u q,fun b u q _ _ _=>⟨u.slots,k b u q⟩,fun b u q n _=>?_,fun b u q _=>⟨u,k b u q⟩,fun b xs q=>?_,fun b u xs q=>?_,fun b ps q=>⟨#[],?_⟩⟩ fun b u e=>?_⟩
 · rw[aK (nb b u q)];exact n
 · rw[aK (bF q hn)];exact q
 · rw[aK (bF q hn)];exact q
 · rw[aK (bF q hn),q];simp
 · by_cases hb:b=D
   · subst hb;rw[bC]at e;cases e;exact new
   · rw[aK hb]at e
     exact(I.hok b u e).stay (fun c v _ q=>k c v q) (fun c q=>by rw[aK (bF q hn)];exact q) fun c xs q=>by rw[aK (bF q hn)];exact q
theorem bH.picks {ys:List V}{its:List Value}(r:bH ys its):∀ {l:List Nat},(∀ i∈l,i<ys.length)->bH (l.map fun i=>ys.getD i .non) (l.map fun i=>its.getD i Value.none)
 | [],_=>.nil
 | i :: l,h=>by
  refine .cons ?_ (bH.picks r fun j hj=>h j (Ac _ hj))
  have hi:=h i Aa;obtain⟨u,e,q⟩:=r.get (Ao hi);show bI (ys.getD i .non) (its.getD i Value.none)
  rw[Au,Ao hi,Au,e];exact q
theorem nQ {lt:Nat->Nat->Bool}{ys:List V}{its:List Value}{x:Value}{Q:VK}(od:Srt.Ord lt)(I:Inv X pins σ H s)(r:bH ys its)(few:ys.length<64)
 (col:∀ R:List Value->Shared->Prop,(∀ h',(∀ b u,s.heap.get? b=some u->h'.get? b=some u)->R its { s with heap:=h' })->wpAny (model X.prog X.w) X.A.in1 (collect x) R X.xe s)
 (ask:2<=its.length->∀ t:Shared,(∀ b y,s.heap.get? b=some y->t.heap.get? b=some y)->wpAny (model X.prog X.w) X.A.in1.in1 (keyKind' its.toArray) (fun κ t'=>Srt.kA t t'/\Srt.kO X.prog X.w X.A.in1.in1 lt its κ t) (fun _ _=>False) t)
 (q:∀ p,Srt.Inv ys.length p->Srt.Up lt p ys.length->∀ l,H l=none->Q (.ref l) (upd H l (.lst (p.toList.map fun i=>ys.getD i .non)))) :
 wpAny (model X.prog X.w) X.A (call (.builtin "sorted") [x]) (EP X pins σ Q) X.xe s:=by
 have hl:=r.length;refine Srt.aC5 od (vs:=its) (by rw[←hl];exact few) (col _ fun h' k=>⟨rfl,h',s.toks,rfl,k⟩) ask fun p h' tk c D ip u k hD e=>?_
 rw[←hl]at ip u;have bd:∀ i∈p.toList,i<ys.length:=fun i hi=>by simpa using (Srt.qM ip).mem_iff.mp hi
 have ln:(p.toList.map fun i=>ys.getD i V.non).length<=sizeLine:=by
  rw[Ab,Array.length_toList,ip.size,sizeLine_eq];omega
 obtain⟨h1,h2⟩:=I.laidN (t':=tk) (o:=.lst (p.toList.map fun i=>ys.getD i .non)) k hD ⟨ln,_,c,r.picks bd,e⟩;exact⟨.ref D,_,h2,rfl,q p ip u D h1⟩
end
end L2
namespace L2
open PySem PySem.Spec PyProof.Rows
abbrev pick (p:Array Nat)(ys:List V):List V:=p.toList.map fun i=>ys.getD i .non
section
variable {X:Cx}{pins:List (Addr×Obj)}{σ:St}{H:Hp}{s:Shared}
theorem aAw {a:Addr}{its:List Value}(hq:PlainL s.heap a its.toArray\/IsTup s.heap a its.toArray)(hz:its.length<=sizeLine)(R:List Value->Shared->Prop)
 (k:∀ h',(∀ b u,s.heap.get? b=some u->h'.get? b=some u)->R its { s with heap:=h' }):wpAny (model X.prog X.w) X.A.in1 (collect (.ref a)) R X.xe s:=by
 rcases hq with hq | hq
 · obtain⟨o,ho,hc,n,hd⟩:=hq.isList
   exact wpAny_collect_seq a (.inl rfl) ho hc hd (fun h' kp=>k h' kp) (by simpa using hz)
 · obtain⟨o,ho,hc,n,hd⟩:=hq
   exact wpAny_collect_seq a (.inr rfl) ho hc hd (fun h' kp=>k h' kp) (by simpa using hz)
theorem aCo:iO X (.builtin "sorted") (fun xs H Q=>∃ (a:Addr) (ns:List Int),xs=[.ref a]/\(SqL X.K H a (ns.map V.int)\/SqT X.K H a (ns.map V.int))/\ns.length<64 /\
 ∀ p,Srt.Inv ns.length p->Srt.Up (fun i j=>Srt.ix (ns.getD i 0) (ns.getD j 0)) p ns.length->∀ l,H l=none->Q (.ref l) (upd H l (.lst (pick p (ns.map V.int))))):=by
 intro pins s σ H xs us Q I r h;obtain⟨a,ns,rfl,hq,few,q⟩:=h;obtain⟨u,rfl,rx⟩:=lC r;cases rx
 obtain⟨its,rv,pl,hz⟩:∃ its:List Value,bH (ns.map V.int) its/\(PlainL s.heap a its.toArray\/IsTup s.heap a its.toArray)/\its.length<=sizeLine:=by
  rcases hq with hq | hq
  · obtain⟨its,r,pl,z⟩:=I.list hq;exact⟨its,r,.inl pl,by rw[←r.length];exact z⟩
  · obtain⟨its,r,pl,z⟩:=I.tuple hq;exact⟨its,r,.inr pl,by rw[←r.length];exact z⟩
 have hi:=fE rv;refine nQ (Srt.eD.ord fun i=>ns.getD i 0) I rv (by simpa using few) (fun R k=>aAw pl hz R k) (fun two t k=>Srt.aFj hi two) fun p ip u l hl=>?_
 rw[Ab]at ip u;exact q p ip u l hl
def PrV (H:Hp)(ys:List V)(ks:List (List Int×Int)):Prop:=ys.length=ks.length/\∀ (i:Nat) (k:List Int×Int),ks[i]?=some k->∃ p b,ys[i]?=some (.ref p)/\H p=some (.tup [.ref b,.int k.2])/\H b=some (.tup (k.1.map V.int))
theorem gY (I:Inv X pins σ H s){b:Addr}{xs:List V}(h:H b=some (.tup xs)):∃ its:List Value,bH xs its/\IsTup s.heap b its.toArray:=by
 obtain⟨_,its,r,t⟩:=I.hok b _ h;exact⟨its,r,t⟩
theorem IsTup.on {h h':Heap}{a:Addr}{its:Array Value}(t:IsTup h a its)(k:∀ b u,h.get? b=some u->h'.get? b=some u):IsTup h' a its:=by
 obtain⟨o,h1,h2⟩:=t;exact⟨o,k a o h1,h2⟩
theorem aB6 (I:Inv X pins σ H s){h':Heap}{ys:List V}{its:List Value}{ks:List (List Int×Int)}(r:bH ys its)(z:PrV H ys ks)(k:∀ b u,s.heap.get? b=some u->h'.get? b=some u):Srt.jW h' its ks:=by
 refine⟨by rw[←r.length];exact z.1,fun i q hq=>?_⟩
 obtain⟨p,b,h1,h2,h3⟩:=z.2 i q hq;obtain⟨u,e,ru⟩:=r.get h1;cases (show u=Value.ref p from ru)
 obtain⟨i2,r2,t2⟩:=gY I h2;obtain⟨i3,r3,t3⟩:=gY I h3;obtain⟨v1,v2,rfl,q1,q2⟩:=aAt r2;cases (show v1=Value.ref b from q1)
 obtain⟨tz,rfl⟩:=(show ∃ t,v2=Value.int q.2 t from q2)
 exact⟨p,b,i3.toArray,tz,e,IsTup.on t2 k,IsTup.on t3 k,by simpa using fE r3⟩
theorem aCs (hu:X.A.units+64<cLine):iO X (.builtin "sorted") (fun xs H Q=>∃ (a:Addr) (ys:List V) (ks:List (List Int×Int)),xs=[.ref a]/\SqL X.K H a ys/\PrV H ys ks/\ys.length<64 /\
 ∀ p,Srt.Inv ks.length p->Srt.Up (fun i j=>Srt.px (ks.getD i ([],0)) (ks.getD j ([],0))) p ks.length->∀ l,H l=none->Q (.ref l) (upd H l (.lst (pick p ys)))):=by
 intro pins s σ H xs us Q I r h;obtain⟨a,ys,ks,rfl,hq,hp,few,q⟩:=h;obtain⟨u,rfl,rx⟩:=lC r;cases rx;obtain⟨its,rv,pl,z⟩:=I.list hq;refine nQ (Srt.jG.ord fun i=>ks.getD i ([],0)) I rv few (fun R k=>aAw (.inl pl) (by rw[←rv.length];exact z) R k) (fun two t k=>Srt.aCn (aB6 I rv hp k) (by show X.A.units+1+1<cLine;omega) two) fun p ip u l hl=>?_
 rw[hp.1]at ip u;exact q p ip u l hl
theorem KT.addrs {kvs:List (List Key×V)}{xs:List (List Key×Addr×Value)}(r:KT H kvs xs):xs.length=kvs.length/\∀ (i:Nat) (q:List Key×Addr×Value),xs[i]?=some q->∃ p,kvs[i]?=some p/\H q.2.1=some (.tup (p.1.map kV)):=by
 induction r with
 | nil=>exact⟨rfl,fun i q h=>by simp at h⟩
 | cons hq t ih =>
  refine⟨by simp[ih.1],fun i q h=>?_⟩
  cases i with
  | zero=>simp at h;subst h;exact⟨_,rfl,hq.2.1⟩
  | succ j =>
   obtain⟨p,h1,h2⟩:=ih.2 j q (by simpa using h)
   exact⟨p,by simpa using h1,h2⟩
def KyV (H:Hp)(bs:List Addr)(js:List (List Int)):Prop:=bs.length=js.length/\∀ (i:Nat) (b:Addr) (k:List Int),bs[i]?=some b->js[i]?=some k->H b=some (.tup (k.map V.int))
theorem yD:∀ (bs:List Addr),bH (bs.map V.ref) (bs.map Value.ref)
 | []=>.nil
 | b :: bs=>.cons rfl (yD bs)
theorem aFn (I:Inv X pins σ H s){h':Heap}{bs:List Addr}{js:List (List Int)}(z:KyV H bs js)(k:∀ b u,s.heap.get? b=some u->h'.get? b=some u):Srt.mL h' (bs.map Value.ref) js:=by
 refine⟨by simpa using z.1,fun i q hq=>?_⟩
 have hi:i<bs.length:=by rw[z.1];exact(Aj.mp hq).1
 have hb:=Ao hi;obtain⟨i2,r2,t2⟩:=gY I (z.2 i bs[i] q hb hq);exact⟨bs[i],i2.toArray,by simp[hb],IsTup.on t2 k,by simpa using fE r2⟩
theorem aBf (k:List Int):(k.map (Sum.inl:Int->Key)).map kV=k.map V.int:=by
 rw[Bm];rfl
theorem aHs (I:Inv X pins σ H s){a:Addr}{kvs:List (List Key×V)}{js:List (List Int)}(h:Rd H a (.dT kvs))(hk:kvs.map (·.1)=js.map (·.map Sum.inl)) :
 (a==sysModules)=false/\∃ (es:Array DictEntry) (ep:Nat) (bs:List Addr),Dk.Ent s.heap a es ep/\es.size=js.length/\js.length<=sizeLine/\es.toList.map (·.key)=bs.map Value.ref/\KyV H bs js:=by
 obtain⟨z,y,xs,r,o,es,ep,h1,h2,h3,h4,h5⟩:=(show bN X.prog X.w H s.heap a (.dT kvs) from aA0 I.hok h)
 obtain⟨k1,k2⟩:=KT.addrs (show KT H kvs xs from r)
 have ln:kvs.length=js.length:=by simpa using congrArg Ep hk
 have el:es.size=xs.length:=by rw[←Array.length_toList,h4,Ab]
 refine⟨y,es,ep,xs.map (·.2.1),⟨o,h1,h2,h3⟩,by omega,by omega,?_,by simp;omega,fun i b k hb hj=>?_⟩
 · rw[h4,Bm,Bm];rfl
 · rw[As]at hb
   cases e:xs[i]? with
   | none=>rw[e]at hb;cases hb
   | some q =>
    rw[e]at hb;cases hb;obtain⟨p,g1,g2⟩:=k2 i q e;have:(kvs.map (·.1))[i]?=(js.map (·.map Sum.inl))[i]?:=by rw[hk]
    rw[As,As,g1,hj]at this;have e2:p.1=k.map Sum.inl:=by simpa using this
    show H q.2.1=_
    rw[g2,e2,aBf]
theorem aCu (hc:X.calm=true):iO X (.builtin "sorted") (fun xs H Q=>∃ (a:Addr) (kvs:List (List Key×V)) (js:List (List Int)),xs=[.ref a]/\Rd H a (.dT kvs)/\kvs.map (·.1)=js.map (·.map Sum.inl)/\js.length<64/\(2<=js.length->∀ k∈js,k≠[]) /\
 ∀ bs,KyV H bs js->∀ p,Srt.Inv js.length p->Srt.Up (fun i j=>Srt.lx (js.getD i []) (js.getD j [])) p js.length->∀ l,H l=none->Q (.ref l) (upd H l (.lst (pick p (bs.map V.ref))))):=by
 intro pins s σ H xs us Q I r h;obtain⟨a,kvs,js,rfl,hq,hk,few,ne,q⟩:=h;obtain⟨u,rfl,rx⟩:=lC r;cases rx;obtain⟨y,es,ep,bs,x,sz,z,ek,kb⟩:=aHs I hq hk;have lb:(bs.map V.ref).length=js.length:=by simpa using kb.1
 refine nQ (Srt.nU.ord fun i=>js.getD i []) I (yD bs) (by omega) (fun R k=>Dk.aDp (I.ok.hd hc) y x (by omega) fun h' kp=>by rw[ek];exact k h' kp) (fun two t k=>?_) fun p ip u l hl=>?_
 · have two':2<=js.length:=by rw[←kb.1];simpa using two
   exact Srt.aFx (aFn I kb k) (ne two') two
 · rw[lb]at ip u
   exact q bs kb p ip u l hl
end
end L2
namespace L2
open PySem PySem.Spec PyProof.Rows
section
variable {X:Cx}{pins:List (Addr×Obj)}{σ:St}{H:Hp}{s:Shared}{a:Addr}{o:Obj}{kvs:List (List Key×V)}
theorem Inv.ice (I:Inv X pins σ H s)(h:H a=some (.dT kvs))(ho:s.heap.get? a=some o):Inv X pins σ (upd H a (.frz o (.dT kvs))) s:=by
 have hn:∀ {b:Addr} {u:HO},H b=some u->u≠.dT kvs->b≠a:=fun e d z=>by rw[z,h]at e;cases e;exact d rfl
 have hz:∀ {b:Addr},H b=none->b≠a:=fun e z=>by rw[z,h]at e;cases e
 refine I.un (t':=s.toks) ⟨fun b u q _ _ _=>q,fun b u q _ _ _=>⟨u.slots,q⟩,fun b u q n _=>by rw[aK (hz n)];exact n,fun b u q _=>⟨u,q⟩,fun b xs q=>by rw[aK (hn q (by simp))];exact q,fun b u xs q=>by rw[aK (hn q (by simp))];exact q,fun b ps q=>⟨#[],by rw[aK (hn q (by simp)),q];simp⟩⟩ fun b u e=>?_
 have st:∀ u,bN X.prog X.w H s.heap b u->bN X.prog X.w (upd H a (.frz o (.dT kvs))) s.heap b u:=fun u q=>q.stay (fun c v _ z=>z) (fun c z=>by rw[aK (hn z (by simp))];exact z) fun c xs z=>by rw[aK (hn z (by simp))];exact z
 by_cases hb:b=a
 · subst hb;rw[bC]at e;cases e
   exact⟨ho,st _ (I.hok b _ h)⟩
 · rw[aK hb]at e
   exact st u (I.hok b u e)
theorem Inv.melt (I:Inv X pins σ H s){u:HO}(h:H a=some (.frz o u))(n0:∀ o' u',X.H₀ a≠some (.frz o' u')):Inv X pins σ (upd H a u) s:=by
 have hn:∀ {b:Addr} {u':HO},H b=some u'->u'≠.frz o u->b≠a:=fun e d z=>by rw[z,h]at e;cases e;exact d rfl
 have hz:∀ {b:Addr},H b=none->b≠a:=fun e z=>by rw[z,h]at e;cases e
 have B:=I.base;refine⟨I.ok,I.os,I.bare,⟨B.keep,B.slot,fun b ob q n x=>?_,B.there,fun b xs q=>?_,fun b ob v q=>?_,fun b ps q=>?_⟩,I.loc,I.cell,?_,fun x c e=>?_,fun p hp=>?_,fun b v e=>?_,I.len⟩
 · have:=B.free b ob q n x
   rw[aK (hz this)];exact this
 · have:=B.tups b xs q
   rw[aK (hn this (by simp))];exact this
 · have:=B.frzs b ob v q
   rw[aK (fun z=>n0 ob v (by rw[←z];exact q))];exact this
 · obtain⟨m,e⟩:=B.tbls b ps q
   exact⟨m,by rw[aK (hn e (by simp))];exact e⟩
 · rw[aK (hz I.free)];exact I.free
 · have:=I.freeC x c e
   rw[aK (hz this)];exact this
 · obtain⟨e1,e2,e3⟩:=I.pin p hp
   exact⟨e1,by rw[aK (hz e2)];exact e2,e3⟩
 · have st:∀ v,bN X.prog X.w H s.heap b v->bN X.prog X.w (upd H a u) s.heap b v:=fun v q=>q.stay (fun c v _ z=>z) (fun c z=>by rw[aK (hn z (by simp))];exact z) fun c xs z=>by rw[aK (hn z (by simp))];exact z
   by_cases hb:b=a
   · subst hb;rw[bC]at e;cases e
     exact st _ (I.hok b _ h).2
   · rw[aK hb]at e
     exact st v (I.hok b v e)
theorem KT.vals {xs:List (List Key×Addr×Value)}(r:KT H kvs xs):∀ (i:Nat) (p:List Key×V),kvs[i]?=some p->∃ q,xs[i]?=some q/\H q.2.1=some (.tup (p.1.map kV))/\bI p.2 q.2.2:=by
 induction r with
 | nil=>exact fun i q h=>by simp at h
 | cons hq t ih =>
  intro i q h;cases i with
  | zero=>simp at h;subst h;exact⟨_,rfl,hq.2⟩
  | succ j =>
   obtain⟨p,h1,h2⟩:=ih j q (by simpa using h)
   exact⟨p,by simpa using h1,h2⟩
theorem aPf (I:Inv X pins σ H s)(h:H a=some (.frz o (.dT kvs))){es:Array DictEntry}{ep:Nat}(hd:o.data=.dict es ep):Dk.Ent s.heap a es ep/\es.size=kvs.length/\(a==sysModules)=false /\
 ∀ (i:Nat) (p:List Key×V),kvs[i]?=some p->∃ k b,es[i]?=some k/\k.key=.ref b/\H b=some (.tup (p.1.map kV))/\bI p.2 k.val:=by
 obtain⟨e0,z,y,xs,r,o',es',ep',h1,h2,h3,h4,h5⟩:=I.hok a _ h;rw[e0]at h1;cases h1;rw[hd]at h3;cases h3;have el:es.size=xs.length:=by rw[←Array.length_toList,h4,Ab]
 refine⟨⟨o,e0,h2,hd⟩,by rw[el];exact(KT.addrs (show KT H kvs xs from r)).1,y,fun i p hp=>?_⟩
 obtain⟨q,q1,q2,q3⟩:=KT.vals (show KT H kvs xs from r) i p hp
 refine⟨entryOfKey (tupleKind (cU X.prog X.w)) q,q.2.1,?_,rfl,q2,q3⟩
 rw[←Array.getElem?_toList,h4,As,q1];rfl
end
def KyA (H:Hp)(bs:List Addr)(kvs:List (List Key×V)):Prop:=bs.length=kvs.length/\∀ (i:Nat) (b:Addr) (p:List Key×V),bs[i]?=some b->kvs[i]?=some p->H b=some (.tup (p.1.map kV))
theorem aHw {X:Cx}{pins:List (Addr×Obj)}{σ:St}{H:Hp}{s:Shared}{a:Addr}{o:Obj}{kvs:List (List Key×V)}(I:Inv X pins σ H s)(h:Rd H a (.dT kvs))(ho:s.heap.get? a=some o) :
 ∃ es ep bs,o.ExactDict/\o.data=.dict es ep/\es.toList.map (·.key)=bs.map Value.ref/\KyA H bs kvs/\(a==sysModules)=false:=by
 obtain⟨z,y,xs,r,o',es,ep,h1,h2,h3,h4,h5⟩:=(show bN X.prog X.w H s.heap a (.dT kvs) from aA0 I.hok h)
 rw[ho]at h1;cases h1;obtain⟨k1,k2⟩:=KT.addrs (show KT H kvs xs from r)
 refine⟨es,ep,xs.map (·.2.1),h2,h3,by rw[h4,Bm,Bm];rfl,⟨by simp[k1],fun i b p hb hp=>?_⟩,y⟩
 rw[As]at hb;cases e:xs[i]? with
 | none=>rw[e]at hb;cases hb
 | some q =>
  rw[e]at hb;cases hb;obtain⟨p',g1,g2⟩:=k2 i q e;rw[hp]at g1;cases g1;exact g2
def aQy (H H2 H3:Hp):Prop:=H3=H2\/∃ a o u,H2 a=some (.frz o u)/\(∀ o' u',H a≠some (.frz o' u'))/\H3=upd H2 a u
theorem aIt {X:Cx}{e:Expr}{t:TE}(h:PE X e t):PE X e (fun σ H Q=>t σ H fun v H2=>∃ H3,aQy H H2 H3/\Q v H3):=by
 intro pins s σ H Q I q;refine thn (h pins s σ H _ I q) fun v s1 ⟨x,H2,I2,r,H3,m,q⟩=>?_
 rcases m with m | ⟨a,o,u,m1,m2,m3⟩
 · subst m
   exact⟨x,H3,I2,r,q⟩
 · subst m3
   exact⟨x,_,I2.melt m1 fun o' u' z=>m2 o' u' (I.base.frzs a o' u' z),r,q⟩
end L2
namespace Mir
open PySem L2
variable {X:Cx}{P:XP}{a b c e:Expr}{es:List Expr}{f g:FE}{fs:FEs}{pos p:Pos}
section
variable {K:PySem.W.Frag}{G:Hp}
theorem aJ.map_ints:∀ (ns:List Int),aJ K G (ns.map D.int) (ns.map V.int)
 | []=>rfl
 | n :: ns=>⟨.int n,_,rfl,rfl,aJ.map_ints ns⟩
theorem aJ.pick {α:Type}(mk:α->D){ks:List α}{ys:List V}{q:Array Nat}{d0:α}{r:α->α->Bool}(t:Srt.Tot r)(h:aJ K G (ks.map mk) ys)(ip:Srt.Inv ks.length q)(u:Srt.Up (fun i j=>r (ks.getD i d0) (ks.getD j d0)) q ks.length) :
 aJ K G ((Srt.srt r ks).map mk) (L2.pick q ys):=by
 rw[←Srt.aNj t d0 ip u,Bm];have bd:∀ i∈q.toList,i<ks.length:=fun i hi=>by simpa using (Srt.qM ip).mem_iff.mp hi
 have ln:=h.length;rw[Ab]at ln
 have go:∀ l:List Nat,(∀ i∈l,i<ks.length)->aJ K G (l.map (mk∘fun i=>ks.getD i d0)) (l.map fun i=>ys.getD i .non):=by
  intro l;induction l with
  | nil=>intro _;rfl
  | cons i l ih =>
   intro b;have hi:=b i Aa;obtain⟨v,e1,e2⟩:=h.get (i:=i) (d:=mk (ks.getD i d0)) (by simp[hi])
   exact⟨_,_,rfl,by show Rep K G (mk (ks.getD i d0)) (ys.getD i .non);rw[show ys.getD i .non=v by simp[e1]];exact e2,ih fun j hj=>b j (Ac _ hj)⟩
 exact go q.toList bd
end
def jR (a:FE):FE:=fun ρ=>do
 let x ← a ρ
 let ds ← asS x.d
 let ns ← cH ds
 if ns.length<64 then .ok ⟨.tmp,true,.lst ((Srt.srt Srt.ix ns).map D.int)⟩ else .stk
theorem pD:bootBuiltins "sorted" = some (.builtin "sorted"):=by decide +kernel
theorem aD9 (hg:Gl X "sorted")(hm:X.mg "sorted" = none)(ha:PE X a (tE X.K P f))(he:starEach [a] X.env=[(false,eval a X.env)]:=by rfl):PE X (.Call (.Name "sorted" p) [a] [] pos) (tE X.K P (jR f)):=by
 refine PE.imp (fP aCo hg hm pD (aA ha aH he) (he:=he)) ?_
 intro σ H Q h;refine oD h ?_
 intro H0 B ρ v H' r d0 d g s h;cases e:asS r.d with
 | stk=>simp[e]at h
 | exc x=>exact(jD e).elim
 | ok ds =>
  simp only[e,R.ok_bind]at h;cases e2:cH ds with
  | stk=>simp[e2]at h
  | exc x=>exact(dA e2).elim
  | ok ns =>
   simp only[e2,R.ok_bind]at h;by_cases few:ns.length<64
   · rw[if_pos few]at h
     obtain⟨a,xs,h1,h2,h3⟩:=g.seq e;have hx:=aJ.ints e2 h3;subst hx;refine⟨a,ns,by rw[h1],h2.imp .inl fun z=>.inl (.inl z),few,fun q iq u l hl=>h _ _ (aI.upd_new hl) (gM d s hl ?_)⟩
     exact aJ.pick D.int Srt.eD (aJ.map_ints ns) iq u
   · rw[if_neg few]at h;exact h.elim
def mkP (k:List Int×Int):D:=.tup [.tup (k.1.map D.int),.int k.2]
def asP:D->R (List Int×Int)
 | .tup [.tup ds,.int n]=>do
  let k ← cH ds
  .ok (k,n)
 | _=>.stk
def eX:List D->R (List (List Int×Int))
 | []=>.ok []
 | d :: r=>do
  let i ← asP d
  let l ← eX r
  .ok (i :: l)
theorem xW:∀ {ds:List D} {l:List Int},cH ds=.ok l->ds=l.map D.int
 | [],l,h=>by simp[cH]at h;subst h;rfl
 | d :: r,l,h=>by
  simp only[cH]at h;cases e:asI d with
  | stk=>simp[e]at h
  | exc y=>exact(cZ e).elim
  | ok i =>
   cases e2:cH r with
   | stk=>simp[e,e2]at h
   | exc y=>exact(dA e2).elim
   | ok l' =>
    simp only[e,e2,R.ok_bind,R.ok.injEq]at h;subst h;rw[dJ e,xW e2];rfl
theorem aNn {d:D}{k:List Int×Int}(h:asP d=.ok k):d=mkP k:=by
 unfold asP at h;split at h
 · rename_i ds n
   cases e:cH ds with
   | stk=>simp[e]at h
   | exc y=>exact(dA e).elim
   | ok l =>
    simp only[e,R.ok_bind,R.ok.injEq]at h;subst h;rw[xW e];rfl
 · cases h
theorem aAp {d:D}{x:Xc}(h:asP d=.exc x):False:=by
 unfold asP at h;split at h
 · rename_i ds n
   cases e:cH ds with
   | stk=>simp[e]at h
   | exc y=>exact(dA e).elim
   | ok l=>simp[e]at h
 · cases h
theorem lL {x:Xc}:∀ {ds:List D},eX ds=.exc x->False
 | [],h=>by simp[eX]at h
 | d :: r,h=>by
  simp only[eX]at h;cases e:asP d with
  | stk=>simp[e]at h
  | exc y=>exact aAp e
  | ok i =>
   cases e2:eX r with
   | stk=>simp[e,e2]at h
   | exc y=>exact lL e2
   | ok l=>simp[e,e2]at h
theorem tH:∀ {ds:List D} {l:List (List Int×Int)},eX ds=.ok l->ds=l.map mkP
 | [],l,h=>by simp[eX]at h;subst h;rfl
 | d :: r,l,h=>by
  simp only[eX]at h;cases e:asP d with
  | stk=>simp[e]at h
  | exc y=>exact(aAp e).elim
  | ok i =>
   cases e2:eX r with
   | stk=>simp[e,e2]at h
   | exc y=>exact(lL e2).elim
   | ok l' =>
    simp only[e,e2,R.ok_bind,R.ok.injEq]at h;subst h;rw[aNn e,tH e2];rfl
theorem nG:∀ ns:List Int,D.imms (ns.map D.int)=true
 | []=>rfl
 | n :: ns=>by simp[D.imms,D.imm,nG ns]
theorem pE:∀ ks:List (List Int×Int),D.imms (ks.map mkP)=true
 | []=>rfl
 | k :: ks=>by simp[mkP,D.imms,D.imm,nG,pE ks]
theorem aLw {K:PySem.W.Frag}{G H:Hp}(sm:aI G H){ks:List (List Int×Int)}{ys:List V}(h:aJ K G (ks.map mkP) ys):PrV H ys ks:=by
 refine⟨by rw[←h.length,Ab],fun i k hk=>?_⟩
 obtain⟨v,e1,e2⟩:=h.get (i:=i) (d:=mkP k) (by simp[hk])
 obtain⟨q,xs,rfl,e3,x1,xr,rfl,⟨b,zs,rfl,e4,e5⟩,x2,xr2,rfl,e6,e7⟩:=e2;have e8:xr2=[]:=e7;have e9:x2=.int k.2:=e6;subst e8 e9;have ez:=aJ.ints (show cH (k.1.map D.int)=.ok k.1 from ?_) e5
 · subst ez
   exact⟨q,b,e1,sm _ _ e3,sm _ _ e4⟩
 · generalize k.1=l
   induction l with
   | nil=>rfl
   | cons n l ih=>simp[cH,asI,ih]
def lB (a:FE):FE:=fun ρ=>do
 let x ← a ρ
 let ds ← asL x.d
 let ks ← eX ds
 if ks.length<64 then .ok ⟨.tmp,true,.lst ((Srt.srt Srt.px ks).map mkP)⟩ else .stk
theorem aEl (hu:X.A.units+64<cLine)(hg:Gl X "sorted")(hm:X.mg "sorted" = none)(ha:PE X a (tE X.K P f))(he:starEach [a] X.env=[(false,eval a X.env)]:=by rfl):PE X (.Call (.Name "sorted" p) [a] [] pos) (tE X.K P (lB f)):=by
 refine PE.imp (fP (aCs hu) hg hm pD (aA ha aH he) (he:=he)) ?_
 intro σ H Q h;refine oD h ?_
 intro H0 B ρ v H' r d0 d g s h;cases e:asL r.d with
 | stk=>simp[e]at h
 | exc x=>exact(iF e).elim
 | ok ds =>
  simp only[e,R.ok_bind]at h;cases e2:eX ds with
  | stk=>simp[e2]at h
  | exc x=>exact(lL e2).elim
  | ok ks =>
   simp only[e2,R.ok_bind]at h;by_cases few:ks.length<64
   · rw[if_pos few]at h
     obtain⟨a,xs,h1,h2,h3⟩:=g.list (gK e);have ed:=tH e2;subst ed;have ln:=h3.length;rw[Ab]at ln;refine⟨a,xs,ks,by rw[h1],.inl h2,aLw dY h3,by omega,fun q iq u l hl=>h _ _ (aI.upd_new hl) (gM d s hl ?_)⟩
     have r1:=aJ.pick mkP Srt.jG h3 iq u;cases hf:r.fr with
     | true=>rw[hf]at r1;exact r1
     | false=>rw[hf]at r1;exact aJ.imm d.sam (pE _) r1
   · rw[if_neg few]at h;exact h.elim
def mkT (k:List Int):D:=.tup (k.map D.int)
def xY (a:FE):FE:=fun ρ=>do
 let x ← a ρ
 match x.d with
 | .dct ks _=>if ks.length<64/\(2<=ks.length->∀ k∈ks,k≠[]) then .ok ⟨.tmp,true,.lst ((Srt.srt Srt.lx ks).map mkT)⟩ else .stk
 | _=>.stk
theorem aG3 {K:PySem.W.Frag}{H0 H':Hp}{B:Addr->Prop}{σ:St}{ρ:Env}{b:Addr}{xs:List V}(d:DenE K H0 H' B σ ρ)(e:H' b=some (.tup xs))(fr:Bool):aZ fr H0 H' B b=some (.tup xs):=by
 refine aS.mpr ⟨fun z=>?_,e⟩
 rcases z with z | ⟨_,o,z,q⟩
 · obtain⟨o,q1,q2⟩:=d.bnd b z;rw[e]at q1;cases q1;cases q2
 · rw[d.sam _ _ z]at e;cases e;cases q
theorem tM {K:PySem.W.Frag}{H0 H':Hp}{B:Addr->Prop}{σ:St}{ρ:Env}(d:DenE K H0 H' B σ ρ)(fr:Bool):∀ {bs:List Addr} {js:List (List Int)},KyV H' bs js->aJ K (aZ fr H0 H' B) (js.map mkT) (bs.map V.ref)
 | [],[],_=>rfl
 | [],_ :: _,h=>by have:=h.1;simp at this
 | _ :: _,[],h=>by have:=h.1;simp at this
 | b :: bs,k :: js,h=>⟨.ref b,_,rfl,⟨b,_,rfl,aG3 d (h.2 0 b k rfl rfl) fr,aJ.map_ints k⟩,tM d fr ⟨by simpa using h.1,fun i c q h1 h2=>h.2 (i+1) c q (by simpa using h1) (by simpa using h2)⟩⟩
theorem aL5 (hc:X.calm=true)(hg:Gl X "sorted")(hm:X.mg "sorted" = none)(ha:PE X a (tE X.K P f))(he:starEach [a] X.env=[(false,eval a X.env)]:=by rfl):PE X (.Call (.Name "sorted" p) [a] [] pos) (tE X.K P (xY f)):=by
 refine PE.imp (fP (aCu hc) hg hm pD (aA ha aH he) (he:=he)) ?_
 intro σ H Q h;refine oD h ?_
 intro H0 B ρ v H' r d0 d g s h;cases hd:r.d with
 | dct ks ds =>
  simp only[hd]at h;by_cases few:ks.length<64/\(2<=ks.length->∀ k∈ks,k≠[])
  · rw[if_pos few]at h
    obtain⟨a,kvs,h1,h2,h3,h4⟩:=g.dict hd;refine⟨a,kvs,ks,by rw[h1],h2,h3,few.1,few.2,fun bs kb q iq u l hl=>h _ _ (aI.upd_new hl) (gM d s hl ?_)⟩
    exact aJ.pick mkT Srt.nU (tM d true kb) iq u
  · rw[if_neg few]at h;exact h.elim
 | _=>simp[hd]at h
end Mir
namespace Mir
open PySem L2
variable {X:Cx}{P:XP}{a b c e:Expr}{es:List Expr}{f g:FE}{fs:FEs}{pos p:Pos}
theorem vV {K:PySem.W.Frag}{H0 H1 Hf H2 H3:Hp}{B:Addr->Prop}{p:Addr}{ds:List D}{vs:List V}(sam:aI H0 H1)(bnd:∀ b,B b->∃ o,H1 b=some o/\stab o=false)
 (up:∀ b o,H1 b=some o->stab o=false->∃ o',Hf b=some o'/\stab o'=false) (dn:∀ b o,H2 b=some o->(∀ o',Hf b=some o'->stab o'=true)->H3 b=some o)
 (r:aJ K (aZ true Hf H2 fun b=>False\/b=p) ds vs):aJ K (aZ true H0 H3 fun b=>B b\/b=p) ds vs:=by
 refine aJ.same (fun b o e=>?_) r
 obtain⟨n,e⟩:=aS.mp e
 have st:∀ o',Hf b=some o'->stab o'=true:=fun o' q=>by
  cases z:stab o' with
  | true=>rfl
  | false=>exact(n (.inr ⟨rfl,o',q,z⟩)).elim
 refine aS.mpr ⟨fun z=>?_,dn b o e st⟩
 rcases z with (z | z) | ⟨_,o',q,z⟩
 · obtain⟨o',q1,q2⟩:=bnd b z
   obtain⟨o2,q3,q4⟩:=up b o' q1 q2;rw[st o2 q3]at q4;cases q4
 · exact n (.inl (.inr z))
 · obtain⟨o2,q3,q4⟩:=up b o' (sam _ _ q) z
   rw[st o2 q3]at q4;cases q4
variable {scope:Scope}{N:List Str}{k:Nat}{tg elt:Expr}{ifs:List Expr}{t:Tg}{fb:FB}
end Mir
namespace L2
open PySem PySem.Spec PyProof.Rows
def Itu (a:Addr):It :=
 ⟨fun i H=>∃ xs x,H a=some (.tup xs)/\xs[i]?=some x,fun i H v H'=>∃ t x xs,v=.ref t/\H t=none/\H'=upd H t (.tup [.int i,x])/\H a=some (.tup xs)/\xs[i]?=some x,fun i H=>∃ xs,H a=some (.tup xs)/\xs.length<=i⟩
def UTn (e it a:Addr)(i:Nat)(h:Heap):Prop:=(∃ old,h.get? e=some (En.erc it i old))/\h.get? it=some (En.trc a i)
theorem aFk {P:Program}{w:World}{K:PySem.W.Frag}{es:List Expr}{k:Nat}{pos:Pos}{e it a:Addr}(n1:e≠it):Turn P w K (.Tuple es k pos) (Itu a) [e,it] e (UTn e it a) where
 mem:=by simp
 obj:=fun i h ⟨⟨old,he⟩,q⟩ c hc=>by
  simp only[Ai,Bc,or_false]at hc;rcases hc with z | z<;>rw[z]
  · exact⟨_,he,fun v z=>nomatch z⟩
  · exact⟨_,q,fun v z=>nomatch z⟩
 keep:=fun i h h' st kp=>⟨st.1.imp fun old he=>kp _ (by simp) _ he,kp _ (by simp) _ st.2⟩
 item:=by
  intro X hP hw hK hc i pins s σ H E I hf st hg;subst hP hw hK;obtain⟨xs,x,ha,hx⟩:=hg;obtain⟨us,ru,pu⟩:=gY I ha;obtain⟨u,eu,rxu⟩:=ru.get hx;obtain⟨⟨old,he⟩,hit⟩:=st;have ee:e<s.heap.objs.size:=Ae he;have ei:it<s.heap.objs.size:=Ae hit;refine En.nxt he rfl (En.aHi he hit pu (x:=u) (by simpa using eu) n1 fun h' b1 b2 b3 b5=>⟨_,rfl,_,rfl,?_⟩)
  refine wpAny_letOwnedTupleGo_enum b1 fun hp2 c1 cs=>?_
  have kp:∀ c o,c∉[e,it]->s.heap.get? c=some o->hp2.get? c=some o:=fun c o hc' q=>by
   simp only[Ai,Bc,or_false,not_or]at hc';exact cs.extBut c o hc'.1 (b5 c o hc'.1 hc'.2 q)
  have st':UTn e it a (i+1) hp2:=⟨⟨u,by push_cast;exact c1⟩,cs.extBut _ _ n1.symm b2⟩
  have pr:=cs.extBut _ _ (Ef ee) b3
  refine⟨.ref s.heap.objs.size,upd H s.heap.objs.size (.tup [.int i,x]),I.turnedNew (t':=s.toks+1) kp hf (fun c hc'=>?_) (Af _) ⟨by show 2<=sizeLine;decide,[.int i s.toks,u],.cons ⟨_,rfl⟩ (.cons rxu .nil),⟨_,pr,rfl,_,rfl⟩⟩,rfl,
   ⟨_,x,xs,rfl,I.fresh,rfl,ha,hx⟩,st',fun c hc'=>?_⟩
  · obtain⟨⟨_,d1⟩,d2⟩:=st'
    simp only[Ai,Bc,or_false]at hc';rcases hc' with z | z<;>rw[z]
    · exact⟨_,d1⟩
    · exact⟨_,d2⟩
  · have lt:c<s.heap.objs.size:=by
     simp only[Ai,Bc,or_false]at hc';rcases hc' with z | z<;>rw[z]<;>assumption
    rw[aK (Ax lt)];exact(hf c hc').1
 done:=by
  intro X hP hw hK hc i pins s σ H E I hf st hg;subst hP hw hK;obtain⟨xs,ha,hend⟩:=hg;obtain⟨us,ru,pu⟩:=gY I ha;have lu:=ru.length;obtain⟨⟨old,he⟩,hit⟩:=st;refine En.nxt he rfl (En.dry (show X.A.in1.handled=none from I.ok.hd hc) he hit pu (Array.getElem?_eq_none (by rw[Ag];omega)) fun h' x u e1 e2 kp=>⟨x,u,rfl,e1,e2,rfl,I.turnedL (t':=s.toks) (fun c o hc' q=>?_) hf⟩)
  simp only[Ai,Bc,or_false,not_or]at hc';exact kp c o hc'.2 q
 self:=fun _ _ _ _ _ st h=>let ⟨⟨_,he⟩,_⟩:=st;wpAny_pyIter_enum he h
def aOh (ta:TA):TI:=fun σ H R=>ta σ H fun vs H1=>∃ a,vs=[.ref a]/\(∃ xs,H1 a=some (.tup xs))/\R (Itu a) H1
theorem aJi {X:Cx}{es:List Expr}{k:Nat}{tp:Pos}{a:Expr}{t:TA}{p pos:Pos}(hg:Gl X "enumerate")(hm:X.mg "enumerate" = none)(ha:PA X [a] t)(hs:starEach [a] X.env=[(false,eval a X.env)]:=by rfl) :
 PI X (.Tuple es k tp) (.Call (.Name "enumerate" p) [a] [] pos) (aOh t):=by
 intro pins s σ H R I h;refine Call_ (lM I hg hm (show bootBuiltins "enumerate" = some (.type "enumerate") by decide +kernel) (Ch (thn (ha pos pins s σ H _ I h) fun us s1 ⟨vs,H1,I1,r1,x,e,⟨xs,hx⟩,q⟩=>?_) (by rw[hs];rfl) rfl))
 subst e;obtain⟨u,rfl,rx⟩:=lC r1;cases rx;obtain⟨us',ru,pu⟩:=gY I1 hx;refine En.aQ6 pu fun h1 he hit hk=>wpAny_pyIter_enum he ?_
 have big:∀ c∈[s1.heap.objs.size+1,s1.heap.objs.size],s1.heap.objs.size<=c:=fun c hc'=>by
  simp only[Ai,Bc,or_false]at hc';rcases hc' with z | z<;>rw[z]
  · exact Cm _ 1
  · exact Af _
 exact⟨_,[s1.heap.objs.size+1,s1.heap.objs.size],_,_,H1,rfl,I1.kept (t':=s1.toks) hk,aFk (Nat.succ_ne_self _),⟨⟨_,he⟩,hit⟩,fun c hc'=>I1.fpOk (big c hc') (I1.hok.fresh (big c hc')),q⟩
end L2
namespace Mir
open PySem L2
variable {X:Cx}{P:XP}{a b c e:Expr}{es:List Expr}{f g:FE}{fs:FEs}{pos p:Pos}
def aCk (a:FE):FI:=fun ρ=>do
 let x ← a ρ
 match x.d with
 | .tup xs=>.ok ⟨true,x.fr,rM xs⟩
 | _=>.stk
theorem aF3 {K:PySem.W.Frag}{H0 H':Hp}{B:Addr->Prop}{σ:St}{ρ:Env}{a:Addr}{xs:List V}{ds:List D}{fr:Bool}(den:DenE K H0 H' B σ ρ)(h2:H' a=some (.tup xs))(h3:aJ K (aZ fr H0 H' B) ds xs):sI K H0 H' B (Itu a) ⟨true,fr,rM ds⟩:=by
 have nB:¬ B a:=fun z=>by obtain⟨o,q1,q2⟩:=den.bnd a z;rw[h2]at q1;cases q1;cases q2
 refine⟨fun c=>c=a,fun h c z=>z▸nB,fun H2 B2 j1 j2 j3 j4 j5 i=>?_⟩
 have q1:H2 a=some (.tup xs):=j1 a _ rfl h2;have l1:=h3.length;refine⟨fun hi=>⟨xs,q1,?_⟩,fun d hd=>?_⟩
 · simp[rM]at hi;omega
 · cases e1:ds[i]? with
   | none=>simp[rM,e1]at hd
   | some d1 =>
    have ed:d=.tup [.int i,d1]:=by simp[rM,e1]at hd;exact hd.symm
    subst ed;obtain⟨v,hv,rv⟩:=h3.get e1;refine⟨⟨xs,v,q1,hv⟩,fun x H3 y=>?_⟩
    obtain⟨t,x1,ys,e3,e4,e5,y1,y2⟩:=y;rw[q1]at y1;cases y1;rw[hv]at y2;cases y2;subst e3;subst e5;refine⟨aI.upd_new e4,t,[.int i,v],rfl,aS.mpr ⟨fun z=>?_,bC⟩,.int i,[v],rfl,rfl,v,[],rfl,?_,rfl⟩
    · rcases z with z | ⟨_,o,z,_⟩
      · obtain⟨o,q⟩:=j4 t z;rw[e4]at q;cases q
      · rw[j5 _ _ z]at e4;cases e4
    · exact Rep.same (aV (fun b o q n=>aI.upd_new e4 b o (j2 b o q n)) j3) rv
theorem aJj {ts:List Expr}{k:Nat}{tp:Pos}(hg:Gl X "enumerate")(hm:X.mg "enumerate" = none)(ha:PE X a (tE X.K P f))(hs:starEach [a] X.env=[(false,eval a X.env)]:=by rfl) :
 PI X (.Tuple ts k tp) (.Call (.Name "enumerate" p) [a] [] pos) (tI X.K P (aCk f)):=by
 refine PI.imp (aJi hg hm (aA ha aH hs) hs) ?_
 intro σ H Rq h
 have e:aCk f=fun ρ=>evs [f] ρ >>= fun rs=>match rs with | [x]=>(match x.d with | .tup xs=>.ok ⟨true,x.fr,rM xs⟩ | _=>.stk) | _=>.stk:=by
  funext ρ
  unfold aCk evs;cases f ρ<;>rfl
 rw[e]at h;refine aNg (q:=fun vs H1=>∃ a,vs=[.ref a]/\(∃ xs,H1 a=some (.tup xs))/\Rq (Itu a) H1) h ?_
 intro H0 B ρ vs H' rs d0 d gs s h;match vs,rs,gs with
 | [],rs,gs=>rw[show rs=[] from gs]at h;exact h.elim
 | [v],_,⟨r,rr,e1,g1,g2⟩ =>
  subst e1;rw[show rr=[] from g2]at h
  cases hd:r.d with
  | tup ds =>
   simp only[hd]at h;obtain⟨a,xs,h1,h2,h3⟩:=g1.tuple hd;exact⟨a,by rw[h1],⟨xs,h2⟩,h _ H' (aI.refl _) (aF3 d h2 h3)⟩
  | _=>simp[hd]at h
 | v :: w :: _,_,⟨r,rr,e1,g1,r2,rr2,e2,g2⟩ =>
  subst e1;subst e2;exact h.elim
end Mir
namespace Ls
open PySem PySem.Spec PyProof.Rows
theorem aQ5:isSubtype (.type "tuple") (.type "set")=pure false:=by rw[isSubtype_type];kernel_rfl
theorem aQm:isSubtype (.type "tuple") (.type "frozenset")=pure false:=by rw[isSubtype_type];kernel_rfl
abbrev fresh (led:Bool):Obj:={ cls:=.type "set",dict:=none,data:=.set #[] 0 (.fresh 0 0 led) }
section
variable {prog:Program}{w:World}{A:Around}{E:Value->Shared->Prop}{s:Shared}{S t:Addr}{items:Array Value}{ns:List Int}
abbrev met (ns:List Int)(n:Nat):List Int:=firstMet (fun i=>ns.getD i 0) n
theorem init {led:Bool}{Q:Fin->Shared->Prop}(hh:A.handled=none)(hS:s.heap.get? S=some (fresh led))(ht:IsTup s.heap t items)(hi:IntsAre items.toList ns)(hb:items.size+1<scanBound)(nt:t≠S)
 (q:∀ h' tk,h'.SetOf (intKind prog w) S (fun k'=>(met ns items.size).any (·==k')) (met ns items.size).length->(∀ b o,b≠S->s.heap.get? b=some o->h'.get? b=some o)->Q (.done (.ret .none)) { s with heap:=h',toks:=tk }) :
 wpAny (model prog w) A (Builtin.«set.__init__» ⟨[.ref S,.ref t],[]⟩) Q E s:=by
 have ty:s.TypeIs (.ref S) "set":=⟨_,hS,rfl⟩;have ht0:=ht;obtain⟨⟨c,dc,dt,sl⟩,h1,h2,n,h3⟩:=ht;cases (show c=.type "tuple" from h2)
 cases (show dt=.seq items n from h3)
 have s1:=aQ5;have s2:=aQm;have ne:(Value.type "tuple" == Value.type "dict")=false:=by decide
 repeat (first | assumption | (with_reducible refine iter_tuple ht0 ?_) | (with_reducible refine wpAny_runValue ?_) | wp_step)
 have lt:t<s.heap.objs.size:=Ae h1;have lS:S<s.heap.objs.size:=Ae hS;have tup:(s.heap.push { cls:=.type "tuple_iterator",data:=.fields #[.ref t,.int 0 0] }).IsTuple t items:=⟨_,Ad _ h1,rfl,n,rfl⟩;have nf:S∉[s.heap.objs.size,t]:=by simp only[Ai,Bc,or_false,not_or];exact⟨Ax lS,nt.symm⟩
 have val:∀ (i:Nat) (v:Value),items[i]?=some v->∃ k,v=.int (ns.getD i 0) k:=fun i v e=>IntsAre.int_at hi i v (by rw[Array.getElem?_toList];exact e)
 have zero:(s.heap.push { cls:=.type "tuple_iterator",data:=.fields #[.ref t,.int 0 0] }).SetOf (intKind prog w) S (fun k'=>(met ns 0).any (·==k')) (met ns 0).length :=
  SetOf_congr ((setObjOf_fresh (knd:=intKind prog w) led).setOf (Ad _ hS) (by unfold scanBound;omega)) (fun _=>rfl) rfl
 refine codeAny_set_update_loopS ((Walks.tuple (A:=A.in1) hh s.heap.objs.size t (Ax lt) items).toS) S nf (fun i=>ns.getD i 0) val hb items.size 0 _ rfl (Bz _) ⟨⟨_,Aq _ rfl,rfl,rfl⟩,tup⟩ zero fun s' hm hS'=>?_
 obtain⟨h',g1,d1,tk',os1⟩:=s';cases (show g1=s.gens from hm.gens);cases (show d1=s.drawn from hm.drawn);cases (show os1=s.os from hm.os)
 refine wpAny_pure (wpAny_pure (q h' tk' hS' fun b o nb e=>hm.heap b o ?_ (Ad _ e)))
 simp only[Ai,Bc,or_false,not_or];exact⟨nb,Ax (Ae e)⟩
theorem made {Q:Value->Shared->Prop}(hh:A.handled=none)(ht:IsTup s.heap t items)(hi:IntsAre items.toList ns)(hb:items.size+1<scanBound)
 (q:∀ h' tk,h'.SetOf (intKind prog w) s.heap.objs.size (fun k'=>(met ns items.size).any (·==k')) (met ns items.size).length->(∀ b o,s.heap.get? b=some o->h'.get? b=some o)->Q (.ref s.heap.objs.size) { s with heap:=h',toks:=tk }) :
 wpAny (model prog w) A (call (.type "set") [.ref t]) Q E s:=by
 have lt:t<s.heap.objs.size:=by obtain⟨o,e,_⟩:=ht;exact Ae e
 obtain⟨c,tl,m1⟩:=F.called_set.mro;have m2:=F.called_set.made;have m3:=F.called_set.sub;have m4:=F.called_set.notType;have m5:=F.called_set.canCreate;have m6:=F.typeCall_set_1 (.ref t)
 refine wpAny_call (codeAny_of_tree (wpAny_pure ⟨Code.quiet_builtin _ (by decide +kernel),codeAny_builtin F.entry_type_call (by
  rw[Around.under_plain (weight_type_call_type "set" [.ref t] []) rfl];repeat any_goals (first | assumption | wp_step)
  refine codeAny_mono (code_set_new_1 (.ref t) (E:=E) (Q₁:=fun obj s1=>∃ led:Bool,obj=.ref s.heap.objs.size/\s1={ s with heap:=s.heap.push (fresh led) }) fun led=>⟨led,rfl,rfl⟩) fun r s1 hr=>?_
  match r,hr with
  | .error e,hr=>exact hr
  | .ok (.ret obj),⟨led,e1,e2⟩ =>
   subst e1 e2;have hS:(s.heap.push (fresh led)).get? s.heap.objs.size=some (fresh led):=Aq _ rfl;have ty:Shared.TypeIs { s with heap:=s.heap.push (fresh led) } (.ref s.heap.objs.size) "set":=⟨_,hS,rfl⟩
   have n1:=F.called_set.init.lookup;have n2:=F.called_set.init.bind (.ref s.heap.objs.size);have ht':IsTup (s.heap.push (fresh led)) t items:=by obtain⟨o,e,r⟩:=ht;exact⟨o,Ad _ e,r⟩
   repeat any_goals (first | assumption | wp_step)
   refine codeAny_mono (codeAny_call_builtin (R:=wants (fun r s2=>r=.none/\∃ h' tk,s2={ s with heap:=h',toks:=tk }/\h'.SetOf (intKind prog w) s.heap.objs.size (fun k'=>(met ns items.size).any (·==k')) (met ns items.size).length/\∀ b o,s.heap.get? b=some o->h'.get? b=some o) E) F.called_set.init.plain F.entry_set_init (check_set_init_1 ty ?_)) ?_
   · exact init (led:=led) (s:={ s with heap:=s.heap.push (fresh led) }) hh hS ht' hi hb (Ax lt) fun h' tk z1 z2=>⟨rfl,h',tk,rfl,z1,fun b o e=>z2 b o (Ax (Ae e)) (Ad _ e)⟩
   · intro r2 s2 hr2
     match r2,hr2 with
     | .error e,hr2=>exact hr2
     | .ok (.ret v),⟨e1,h',tk,e2,z1,z2⟩ =>
      subst e1 e2;repeat any_goals (first | assumption | wp_step)
      exact q h' tk z1 z2)⟩))
end
end Ls
namespace L2
open PySem PySem.Spec PyProof.Rows
section
variable {X:Cx}
def gS (ns:List Int):Nat:=(ns.foldl step_dedup []).length
theorem vA (ns:List Int):Ls.met ns ns.length=ns.foldl step_dedup []:=by
 show ((Bd ns.length).map fun i=>ns.getD i 0).foldl step_dedup []=_
 rw[Srt.sO]
theorem aDi (hc:X.calm=true):iO X (.type "set") (fun xs H Q=>∃ (a:Addr) (ns:List Int),xs=[.ref a]/\H a=some (.tup (ns.map V.int))/\ns.length<1000/\∀ l S,H l=none->Q (.ref l) (upd H l (.set S (gS ns)))):=by
 intro pins s σ H xs us Q I r h;obtain⟨a,ns,rfl,hq,few,q⟩:=h;obtain⟨u,rfl,rx⟩:=lC r;cases rx;obtain⟨its,rv,pl⟩:=gY I hq;have hi:=fE rv;have ln:its.toArray.size=ns.length:=by rw[Ag,←rv.length,Ab]
 refine Ls.made (ns:=ns) (I.ok.hd hc) pl (by simpa using hi) (by rw[ln];unfold scanBound;omega) fun h' tk z1 z2=>?_
 rw[ln,vA]at z1;exact⟨.ref s.heap.objs.size,_,I.laid (t':=tk) (o:=.set _ (gS ns)) z2 (Af _) z1,rfl,q _ _ I.fresh⟩
theorem tN:iO X (.builtin "len") (fun xs H Q=>∃ (a:Addr) (S:Int->Bool) (n:Nat),xs=[.ref a]/\H a=some (.set S n)/\n<1000/\Q (.int n) H):=by
 intro pins s σ H xs us Q I r h;obtain⟨a,S,n,rfl,hq,few,q⟩:=h;obtain⟨u,rfl,rx⟩:=lC r;cases rx;have z:=I.hok a _ hq;obtain⟨o,es,ep,t,z1,z2,z3,_,_,_,z4,z5⟩:=(show s.heap.SetOf (intKind X.prog X.w) a S n from z)
 refine call_len_set z1 z2 z3 z4 (by rw[z5];omega) ⟨.int n,H,I.tok _,⟨_,by rw[z5]⟩,q⟩
theorem vW (ns:List Int):gS ns<=ns.length:=by
 have:=firstMet_length_le (fun i=>ns.getD i 0) ns.length
 rw[show firstMet (fun i=>ns.getD i 0) ns.length=_ from vA ns]at this
 exact this
end
end L2
namespace Mir
open PySem L2
variable {X:Cx}{P:XP}{a b c e:Expr}{es:List Expr}{f g:FE}{fs:FEs}{pos p pos2 p2:Pos}
def oG (a:FE):FE:=fun ρ=>do
 let x ← a ρ
 match x.d with
 | .tup ds=>do
  let ns ← cH ds
  if ns.length<1000 then .ok (sc (.int (gS ns))) else .stk
 | _=>.stk
theorem aLr (hc:X.calm=true)(hg:Gl X "len")(hm:X.mg "len" = none)(hg2:Gl X "set")(hm2:X.mg "set" = none)(ha:PE X a (tE X.K P f))(he:starEach [a] X.env=[(false,eval a X.env)]:=by rfl)
 (he2:starEach [.Call (.Name "set" p2) [a] [] pos2] X.env=[(false,eval (.Call (.Name "set" p2) [a] [] pos2) X.env)]:=by rfl):PE X (.Call (.Name "len" p) [.Call (.Name "set" p2) [a] [] pos2] [] pos) (tE X.K P (oG f)):=by
 refine PE.imp (fP tN hg hm PySem.boot_len (fY (kU (aDi hc) hg2 hm2 (by decide +kernel) (aA ha aH he) (he:=he)) lR he2) (he:=he2)) ?_
 intro σ H Q h
 have main:tCB (fun vs H1 Q=>∃ (a:Addr) (ns:List Int),vs=[.ref a]/\H1 a=some (.tup (ns.map V.int))/\ns.length<1000/\∀ l S,H1 l=none->∃ (a:Addr) (S':Int->Bool) (n:Nat),[V.ref l]=[.ref a]/\upd H1 l (.set S (gS ns)) a=some (.set S' n)/\n<1000/\Q (.int n) (upd H1 l (.set S (gS ns)))) (tAs X.K P [f]) σ H Q:=by
  refine oD h ?_
  intro H0 B ρ v H' r d0 d g s h;cases hd:r.d with
  | tup ds =>
   simp only[hd]at h;cases e2:cH ds with
   | stk=>simp[e2]at h
   | exc x=>exact(dA e2).elim
   | ok ns =>
    simp only[e2,R.ok_bind]at h;by_cases few:ns.length<1000
    · rw[if_pos few]at h
      obtain⟨a,xs,h1,h2,h3⟩:=g.tuple hd;have hx:=aJ.ints e2 h3;subst hx;refine⟨a,ns,by rw[h1],h2,few,fun l S hl=>⟨l,S,gS ns,rfl,bC,Cf (vW ns) few,h _ _ (aI.upd_new hl) (aM.sc (show Rep _ _ (.int _) _ from rfl))⟩⟩
    · rw[if_neg few]at h;exact h.elim
  | _=>simp[hd]at h
 exact main
end Mir
namespace L2
open PySem PySem.Spec PyProof.Rows
section
variable {X:Cx}
def aKn:R2:=fun x y H Q=>∃ a b xs ys,x=.ref a/\y=.ref b/\H a=some (.tup xs)/\H b=some (.tup ys)/\xs.length+ys.length<=sizeLine /\
 (xs=[]->Q (.ref b) H)/\(xs≠[]->ys=[]->Q (.ref a) H)/\(xs≠[]->ys≠[]->∀ p,H p=none->Q (.ref p) (upd H p (.tup (xs++ys))))
theorem aI9:OpR X (binaryOp .Add) aKn:=by
 intro pins s σ H x y v u Q I rx ry h;obtain⟨a,b,xs,ys,rfl,rfl,ha,hb,hz,q0,q1,q2⟩:=h;by_cases hx:xs=[]
 · cases rx
   cases ry;obtain⟨its,r1,p1⟩:=gY I ha;obtain⟨its2,r2,p2⟩:=gY I hb;have e1:its=[]:=r1.nil_iff.mpr hx;subst e1;obtain⟨⟨c1,d1,t1,l1⟩,o1,w1,n1,z1⟩:=p1;obtain⟨⟨c2,d2,t2,l2⟩,o2,w2,n2,z2⟩:=p2;cases (show c1=.type "tuple" from w1);cases (show c2=.type "tuple" from w2)
   cases (show t1=.seq #[] n1 from z1);cases (show t2=.seq its2.toArray n2 from z2)
   exact concat_meets ⟨_,o1,rfl⟩ ⟨_,o2,rfl⟩ noFill_tuple_add seq_tuple_add PySem.F.slot_tuple_add PySem.F.entry_tuple_add (PySem.F.args_tuple_add_2 _ _) (tuple_addW0 a b #[] its2.toArray n1 n2 d1 d2 l1 l2 rfl) ⟨o1,o2,⟨.ref b,H,I,rfl,q0 hx⟩⟩
 · exact aHz pins s σ H _ _ v u Q I rx ry ⟨a,b,xs,ys,rfl,rfl,.inl (.inl ha),.inl (.inl hb),hx,hz,q1 hx,q2 hx⟩
end
end L2
namespace Mir
open PySem L2
variable {X:Cx}{P:XP}{a b c e:Expr}{es:List Expr}{f g:FE}{fs:FEs}{pos p:Pos}
def jP (a b:FE):FE:=fun ρ=>do
 let x ← a ρ
 let y ← b ρ
 let i ← asT x.d
 let j ← asT y.d
 if i.length+j.length<=sizeLine then .ok ⟨.shr,x.fr&&y.fr,.tup (i++j)⟩ else .stk
theorem zY (ha:PE X a (tE X.K P f))(hb:PE X b (tE X.K P g)):PE X (.BinOp a .Add b pos) (tE X.K P (jP f g)):=by
 refine PE.imp (aGv aI9 ha hb) ?_
 intro σ H Q h;refine t2 (q:=fun x y H2=>aKn x y H2 Q) h ?_
 intro H0 B ρ v w H' r r' d g1 g2 s h;cases e1:asT r.d with
 | stk=>simp[e1]at h
 | exc x=>exact(vJ e1).elim
 | ok i =>
  cases e2:asT r'.d with
  | stk=>simp[e1,e2]at h
  | exc x=>exact(vJ e2).elim
  | ok j =>
   simp only[e1,e2,R.ok_bind]at h;by_cases hz:i.length+j.length<=sizeLine
   · rw[if_pos hz]at h
     have w1:=g1.shr_of (by rw[qD e1];rfl)
     have w2:=g2.shr_of (by rw[qD e2];rfl)
     rw[qD e1]at w1;rw[qD e2]at w2;obtain⟨a1,xs,h1,h2,h3⟩:=id w1;obtain⟨a2,ys,k1,k2,k3⟩:=id w2;have lx:=h3.length;have ly:=k3.length;refine⟨a1,a2,xs,ys,h1,k1,dY _ _ h2,dY _ _ k2,by omega,fun z=>?_,fun _ z=>?_,fun _ _ p hp=>?_⟩
     · have jn:i=[]:=By.mp (by rw[lx,z];rfl)
       refine h _ H' (aI.refl _) ?_
       show Rep X.K (aZ (r.fr&&r'.fr) H0 H' B) (.tup (i++j)) (.ref a2)
       rw[jn,Cq,←k1];obtain⟨_,_,z1,z2,_⟩:=(aJ.one w2).andR (fr:=r.fr);cases z1;exact z2
     · have jn:j=[]:=By.mp (by rw[ly,z];rfl)
       refine h _ H' (aI.refl _) ?_
       show Rep X.K (aZ (r.fr&&r'.fr) H0 H' B) (.tup (i++j)) (.ref a1)
       rw[jn,Ce,←h1];obtain⟨_,_,z1,z2,_⟩:=(aJ.one w1).andL (fr':=r'.fr);cases z1;exact z2
     · exact h _ _ (aI.upd_new hp) (oQ d hp (h3.andL.append k3.andR))
   · rw[if_neg hz]at h;exact h.elim
end Mir
namespace Mir
open PySem L2
variable {X:Cx}{P:XP}{a b c e:Expr}{es:List Expr}{f g:FE}{fs:FEs}{pos p:Pos}
def aO7 (ps:List (List Int×Int)):List (List Int)×List D:=ps.foldl (fun A p=>sJ A.1 A.2 p.1 (.int p.2)) ([],[])
def aP8 (a:FE):FE:=fun ρ=>do
 let x ← a ρ
 let ds ← asL x.d
 let ks ← eX ds
 if ks.length<=1000 then .ok ⟨.tmp,true,.dct (aO7 ks).1 (aO7 ks).2⟩ else .stk
end Mir
namespace Mir
open PySem L2
variable {X:Cx}{P:XP}{a b c e:Expr}{es:List Expr}{f g:FE}{fs:FEs}{pos p:Pos}
def aD8 (a:FE)(lo hi:FO):FE:=fun ρ=>do
 let x ← a ρ
 let l ← lo ρ
 let h ← hi ρ
 let ds ← asT x.d
 .ok ⟨.shr,x.fr,.tup (nI ds l h)⟩
end Mir
namespace Mir
open PySem L2
variable {X:Cx}{P:XP}{a b c e:Expr}{es:List Expr}{f g:FE}{fs:FEs}{pos p:Pos}
def aOi (a:FE):FE:=fun ρ=>do
 let x ← a ρ
 let ds ← asT x.d
 let l ← cH ds
 .ok (sc (.int l.sum))
end Mir
namespace L2
open PySem PySem.Spec PyProof.Rows
def ItK (a:Addr)(o:Obj)(kvs:List (List Key×V))(bs:List Addr):It :=
 ⟨fun i H=>H a=some (.frz o (.dT kvs))/\i<kvs.length,fun i H v H'=>H'=H/\∃ b,v=.ref b/\bs[i]?=some b,fun i H=>H a=some (.frz o (.dT kvs))/\kvs.length<=i⟩
theorem aO0 {P:Program}{w:World}{A:Around}{E:Value->Shared->Prop}{s:Shared}{it d:Addr}{i n ep:Nat}{Q:Value->Shared->Prop}(ho:s.heap.get? it=some (Dk.krc d i n ep))(q:Q (.ref it) s):wpAny (model P w) A (pyIter (.ref it)) Q E s:=by
 have ty:s.TypeIs (.ref it) "dict_keyiterator":=⟨_,ho,rfl⟩;refine wpAny_pyIter_slot ty F.slot_dict_keyiterator_iter (wpAny_call_entry F.slot_dict_keyiterator_iter ty F.entry_dict_keyiterator_iter ?_ (F.args_dict_keyiterator_iter_1 _))
 exact wpAny_pure ⟨.ref it,rfl,"dict_keyiterator",_,ty,F.slot_dict_keyiterator_next.lookup,q⟩
theorem aDj {P:Program}{w:World}{K:PySem.W.Frag}{tg:Expr}{it a:Addr}{o:Obj}{kvs:List (List Key×V)}{es:Array DictEntry}{ep:Nat}{bs:List Addr}(hd:o.data=.dict es ep)(hb:es.toList.map (·.key)=bs.map Value.ref):Turn P w K tg (ItK a o kvs bs) [it] it (fun i h=>h.get? it=some (Dk.krc a i es.size ep)) where
 mem:=by simp
 obj:=fun i h e c hc=>by
  have z:c=it:=by simpa using hc
  subst z;exact⟨_,e,fun v z=>nomatch z⟩
 keep:=fun i h h' e kp=>kp _ (by simp) _ e
 item:=by
  intro X hP hw hK hc i pins s σ H E I hf st hg;subst hP hw hK;obtain⟨x,sz,_,get⟩:=aPf I hg.1 hd;have hlt:i<kvs.length:=hg.2;obtain⟨ky,b,g1,g2,g3,g4⟩:=get i kvs[i] (Ao hlt)
  have hbi:bs[i]?=some b:=by
   have:(es.toList.map (·.key))[i]?=(bs.map Value.ref)[i]?:=by rw[hb]
   rw[As,As,Array.getElem?_toList,g1]at this;cases q:bs[i]? with
   | none=>rw[q]at this;cases this
   | some c=>rw[q]at this;simp[g2]at this;rw[this]
  obtain⟨f0,f1,f2,f3,f4,f5⟩:=hf it (by simp)
  refine Dk.nxt st rfl (Dk.aHi st x g1 fun h' e u=>⟨_,rfl,_,rfl,?_⟩)
  have I1:Inv X pins σ H { s with heap:=h' }:=I.turned (t':=s.toks) (fun c o hc e=>u.extBut c o hc e) f0 f1 f3 f4 f5
  exact aAy (s:={ s with heap:=h' }) e rfl rfl (by decide) ⟨.ref b,H,I1,by rw[g2];rfl,⟨rfl,b,rfl,hbi⟩,e,fun c hc'=>(hf c hc').1⟩
 done:=by
  intro X hP hw hK hc i pins s σ H E I hf st hg;subst hP hw hK;obtain⟨x,sz,_,get⟩:=aPf I hg.1 hd;obtain⟨f0,f1,f2,f3,f4,f5⟩:=hf it (by simp)
  refine Dk.nxt st rfl (Dk.dry (show X.A.in1.handled=none from I.ok.hd hc) st x (by rw[sz];exact hg.2) fun h' ex u e1 e2 eb=>⟨ex,u,rfl,e1,e2,rfl,I.turned (t':=s.toks) (fun c u hc' q=>eb c u hc' q) f0 f1 f3 f4 f5⟩)
 self:=fun _ _ _ _ _ e h=>aO0 e h
def aPt (td:TE):TI:=fun σ H R=>td σ H fun x H1=>∃ a kvs,x=.ref a/\((H1 a=some (.dT kvs)/\∀ o bs,KyA H1 bs kvs->R (ItK a o kvs bs) (upd H1 a (.frz o (.dT kvs))))\/∃ o,H1 a=some (.frz o (.dT kvs))/\∀ bs,KyA H1 bs kvs->R (ItK a o kvs bs) H1)
theorem aIf {X:Cx}{tg e:Expr}{td:TE}(he:PE X e td):PI X tg e (aPt td):=by
 intro pins s σ H R I h;refine thn (he pins s σ H _ I h) fun v s1 ⟨x,H1,I1,r1,a,kvs,ex,q1⟩=>?_
 subst ex;obtain rfl:v=Value.ref a:=r1
 obtain⟨o,H2,I2,h2,q2⟩:∃ o H2,Inv X pins σ H2 s1/\H2 a=some (.frz o (.dT kvs))/\∀ bs,KyA H1 bs kvs->R (ItK a o kvs bs) H2:=by
  rcases q1 with ⟨q,f⟩ | ⟨o,q,f⟩
  · obtain⟨o,ho⟩:=(I1.hok a _ q).there
    exact⟨o,_,I1.ice q ho,bC,f o⟩
  · exact⟨o,H1,I1,q,f⟩
 have rd:Rd H1 a (.dT kvs):=q1.elim (fun z=>.inl z.1) fun⟨o,z,_⟩=>.inr ⟨o,z⟩;have ho:s1.heap.get? a=some o:=(I2.hok a _ h2).1;obtain⟨es,ep,bs,x1,x2,x3,x4,x5⟩:=aHw I1 rd ho;have en:Dk.Ent s1.heap a es ep:=⟨o,ho,x1,x2⟩;refine Dk.aFz x5 en ?_
 have fr:=I2.hok.fresh (Af _)
 exact⟨_,[_],_,_,H2,rfl,I2.kept (t':=s1.toks) fun b u q=>Ad _ q,aDj x2 x3,Aq _ rfl,fun c hc'=>by
  rw[Ay.mp hc']
  exact I2.fpOk (Af _) fr,q2 bs x4⟩
end L2
namespace Mir
open PySem L2
variable {X:Cx}{P:XP}{a b c e:Expr}{es:List Expr}{f g:FE}{fs:FEs}{pos p:Pos}
def nH (k:List Int):D:=.tup (k.map .int)
def zP (i k:Nat)(tg:Tg)(fb:FB):FE:=fun ρ=>match ρ[i]? with
 | some (some ⟨_,_,.dct ks ds⟩)=>do
  let y ← hG tg fb false (Dh k none++[some ⟨.shr,false,.dct ks ds⟩]) (ks.map nH)
  if D.imms ds=true/\ks.length<=sizeLine/\y.1=true then .ok ⟨.tmp,true,.lst y.2⟩ else .stk
 | _=>.stk
theorem aC8 {K:PySem.W.Frag}{Hf:Hp}{a:Addr}{o:Obj}{kvs:List (List Key×V)}{bs:List Addr}{ks:List (List Int)}(h:Hf a=some (.frz o (.dT kvs)))(hb:KyA Hf bs kvs)(hk:cJ ks kvs) :
 sI K Hf Hf (fun _=>False) (ItK a o kvs bs) ⟨true,false,ks.map nH⟩:=by
 refine⟨fun c=>c=a,fun _ c _ z=>z,fun H2 B2 j1 j2 j3 j4 j5 i=>?_⟩
 have h2:=j1 a _ rfl h;have l1:kvs.length=ks.length:=by have:=congrArg Ep hk;simpa using this
 refine⟨fun hi=>⟨h2,by show kvs.length<=i;have:(ks.map nH).length<=i:=hi;rw[Ab]at this;omega⟩,fun d hd=>?_⟩
 have hlt:i<kvs.length:=by
  have:=(Aj.mp hd).1
  have t2:i<(ks.map nH).length:=this;rw[Ab]at t2;omega
 refine⟨⟨h2,hlt⟩,fun x H3 y=>?_⟩
 obtain⟨e0,b,e1,e4⟩:=y;subst e0 e1;have hk1:ks[i]?=some ks[i]:=Ao (by omega)
 have hv:kvs[i]?=some kvs[i]:=Ao hlt
 have pk:kvs[i].1=ks[i].map Sum.inl:=by
  have:(kvs.map (·.1))[i]?=(ks.map (·.map Sum.inl))[i]?:=by rw[show kvs.map (·.1)=_ from hk]
  rw[As,As,hv,hk1]at this;simpa using this
 have ed:d=nH ks[i]:=by
  have hd':(ks.map nH)[i]?=some d:=hd;rw[As,hk1]at hd';exact(Cg.inj hd').symm
 subst ed;have fb:Hf b=some (.tup (ks[i].map V.int)):=by rw[hb.2 i b _ e4 hv,pk,aBf]
 have hb2:H3 b=some (.tup (ks[i].map V.int)):=j2 b _ fb fun z=>z;refine⟨aI.refl _,b,_,rfl,aS.mpr ⟨fun z=>?_,hb2⟩,aJ.map_ints _⟩
 rcases z with z | ⟨z,_⟩
 · rcases j3 b z with q | q
   · exact q
   · rw[fb]at q;cases q
 · cases z
theorem aH8 {K:PySem.W.Frag}{H:Hp}{σ:St}{i:Nat}{v:V}{d:D}(hv:σ[i]?=some (some v))(r:Rep K (aZ false H H fun _=>False) d v):DenE K H H (fun _=>False) σ ((σ.map fun _=>none).set i (some ⟨.shr,false,d⟩)) :=
 ⟨by simp,aI.refl _,fun _ h=>h.elim,fun j e h=>by
  by_cases z:i=j
  · subst z
    have lt:i<(σ.map fun _=>(none:Option Res)).length:=by rw[Ab];exact(Aj.mp hv).1
    rw[Am lt]at h;cases h;exact⟨v,hv,r⟩
  · rw[Ah z,As]at h
    cases q:σ[j]?<;>rw[q]at h<;>simp at h⟩
variable {scope:Scope}{N:List Str}{k i:Nat}{tg elt:Expr}{ifs:List Expr}{t:Tg}{fb:FB}
theorem aJt {x:Str}{np:Pos}(hc:X.calm=true)(C:CompOk X scope N k [i])(hN:X.N[i]?=some x)(hv:Vis X.env.scope x)(hg:∀ fp s H,PG (cQ X scope N fp s H) tg (gOf X.K t))(gl:sH k (gOf X.K t))(hb:∀ fp s H,PB (cQ X scope N fp s H) ifs elt (tBm X.K XP0 fb))
 (hd1:(x==("__debug__":Str))=false:=by decide) (hd2:(x==("__classdict__":Str))=false:=by decide) (hs:∀ y,foldedSetIterable (.Name x np) X.env y=pure y:=by intro _;rfl):PE X (.ListComp elt [⟨tg,.Name x np,ifs,0⟩] scope pos) (tE X.K P (zP i k t fb)):=by
 refine PE.imp (aIt (aAx hc C (aIf (nM hN hv hd1 hd2)) hg gl hb hs)) ?_
 rintro σ H Q ⟨H0,B,ρ,d,h⟩
 unfold zP at h;show ∃ v,σ[i]?=some (some v)/\∃ a kvs,v=.ref a/\_
 cases e1:ρ[i]? with
 | none=>rw[e1]at h;exact h.elim
 | some ro =>
  cases ro with
  | none=>rw[e1]at h;exact h.elim
  | some r =>
   obtain⟨v,hv,gd⟩:=d.ent i r e1;have g1:=gd.res d.sam;obtain⟨rk,rf,rd⟩:=r;rw[e1]at h;cases rd with
   | dct ks ds =>
    dsimp only at h
    cases e3:hG t fb false (Dh k none++[some ⟨.shr,false,.dct ks ds⟩]) (ks.map nH) with
    | stk=>simp[e3]at h
    | exc x=>exact(mF e3).elim
    | ok y =>
     simp only[e3,R.ok_bind]at h;by_cases hz:D.imms ds=true/\ks.length<=sizeLine/\y.1=true
     · rw[if_pos hz]at h
       obtain⟨a',kvs,h1,h2,h3,h4⟩:=g1.dict rfl;have ll:(ks.map nH).length<=sizeLine:=by rw[Ab];exact hz.2.1
       refine⟨v,hv,a',kvs,h1,?_⟩
       have il:i<σ.length:=(Aj.mp hv).1
       have core:∀ (Hf:Hp) (o:Obj) (bs:List Addr),Hf a'=some (.frz o (.dT kvs))->(∀ b u,H b=some u->stab u=true->Hf b=some u)->KyA Hf bs kvs->∀ {Qf:Hp->Prop} acc,Hf acc=none->(∀ H2,aI Hf H2->aM X.K Hf Hf H2 (fun _=>False) (.ref acc) ⟨.tmp,true,.lst y.2⟩->Qf H2)->pC (ItK a' o kvs bs) k [i] (gOf X.K t) (tBm X.K XP0 fb) σ acc Qf Hf:=fun Hf o bs q1 qs q2 Qf acc q3 q4=>by
        have rp:Rep X.K (aZ false Hf Hf fun _=>False) (.dct ks ds) v:=by
         refine⟨a',kvs,h1,.inr ⟨o,aS.mpr ⟨fun z=>?_,q1⟩⟩,h3,aJ.stb (fun b u e st=>aS.mpr ⟨fun z=>?_,qs b u (aS.mp e).2 st⟩) hz.1 h4⟩
         · rcases z with z | ⟨z,_⟩
           · exact z
           · cases z
         · rcases z with z | ⟨z,_⟩
           · exact z
           · cases z
        refine yP (w:=⟨true,false,ks.map nH⟩) (aH8 hv rp) (aI.refl _) (aC8 q1 q2 h3) (y:=y) (by
         rw[show dM k [i] ((σ.map fun _=>none).set i (some ⟨.shr,false,.dct ks ds⟩))=Dh k none++[some ⟨.shr,false,.dct ks ds⟩] by simp[dM,il]]
         exact e3) ll q3 fun H2 s2 g2=>q4 H2 s2 ?_
        rw[hz.2.2]at g2;exact g2
       rcases h2 with h2 | ⟨o,h2⟩
       · refine .inl ⟨h2,fun o bs kb acc hacc=>?_⟩
         have nz:∀ {b:Addr} {u:HO},H b=some u->b≠a'->upd H a' (.frz o (.dT kvs)) b=some u:=fun e n=>by rw[aK n];exact e
         have kb':KyA (upd H a' (.frz o (.dT kvs))) bs kvs:=⟨kb.1,fun i b p q1 q2=>nz (kb.2 i b p q1 q2) fun z=>by have:=kb.2 i b p q1 q2;rw[z,h2]at this;cases this⟩
         refine core _ o bs bC (fun b u e st=>nz e fun z=>by rw[z,h2]at e;cases e;cases st) kb' acc hacc fun H2 s2 g2=>?_
         have ha2:H2 a'=some (.frz o (.dT kvs)):=s2 _ _ bC;have na:acc≠a':=fun z=>by rw[z,bC]at hacc;cases hacc
         refine⟨upd H2 a' (.dT kvs),.inr ⟨a',o,_,ha2,fun o' u' z=>?_,rfl⟩,?_⟩
         · rw[h2]at z;cases z
         · have sm:aI H (upd H2 a' (.dT kvs)):=fun b u e=>by
            by_cases z:b=a'
            · rw[z,h2]at e;cases e;rw[z];exact bC
            · rw[aK z];exact s2 _ _ (nz e z)
           obtain⟨q,w,z1,z2,z3,z4⟩:=g2;cases z1;obtain⟨vs,z5,z6⟩:=z4;subst z5;have hacc1:H acc=none:=by rw[aK na]at hacc;exact hacc
           refine h _ _ sm ⟨acc,_,rfl,hacc1,by rw[aK na];exact z3,vs,rfl,vV d.sam d.bnd (fun b u q1 q2=>?_) (fun b u q1 q2=>?_) z6⟩
           · by_cases z:b=a'
             · subst z;exact⟨_,bC,rfl⟩
             · exact⟨u,nz q1 z,q2⟩
           · by_cases z:b=a'
             · subst z;have:=q2 _ bC;cases this
             · rw[aK z];exact q1
       · refine .inr ⟨o,h2,fun bs kb acc hacc=>?_⟩
         refine core _ o bs h2 (fun b u e _=>e) kb acc hacc fun H2 s2 g2=>⟨H2,.inl rfl,?_⟩
         obtain⟨q,w,z1,z2,z3,z4⟩:=g2;cases z1;obtain⟨vs,z5,z6⟩:=z4;subst z5;exact h _ _ s2 ⟨acc,_,rfl,hacc,z3,vs,rfl,vV d.sam d.bnd (fun b u q1 q2=>⟨u,q1,q2⟩) (fun b u q1 q2=>q1) z6⟩
     · rw[if_neg hz]at h;exact h.elim
   | _=>exact h.elim
end Mir
namespace L2
open PySem PySem.Spec PyProof.Rows
section
variable {X:Cx}
theorem aC4 (hc:X.calm=true):iO X (.type "set") (fun xs H Q=>∃ (a:Addr) (ns:List Int),xs=[.ref a]/\SqL X.K H a (ns.map V.int)/\ns.length<1000/\∀ l S,H l=none->Q (.ref l) (upd H l (.set S (gS ns)))):=by
 intro pins s σ H xs us Q I r h;obtain⟨a,ns,rfl,hq,few,q⟩:=h;obtain⟨u,rfl,rx⟩:=lC r;cases rx;obtain⟨its,rv,pl,_⟩:=I.list hq;have hi:=fE rv;have ln:its.toArray.size=ns.length:=by rw[Ag,←rv.length,Ab]
 refine PySem.call_set_list (ns:=ns) (I.ok.hd hc) pl.isList (by simpa using hi) (by rw[ln];unfold scanBound;omega) fun h' tk z1 z2=>?_
 rw[ln,show firstMet (fun i=>ns.getD i 0) ns.length=_ from vA ns]at z1
 exact⟨.ref s.heap.objs.size,_,I.laid (t':=tk) (o:=.set _ (gS ns)) (fun b o e=>z2 b o (Ae e) e) (Af _) z1,rfl,q _ _ I.fresh⟩
end
end L2
namespace Mir
open PySem L2
variable {X:Cx}{P:XP}{a b c e:Expr}{es:List Expr}{f g:FE}{fs:FEs}{pos p pos2 p2:Pos}
def tY (a:FE):FE:=fun ρ=>do
 let x ← a ρ
 let ds ← asL x.d
 let ns ← cH ds
 if ns.length<1000 then .ok (sc (.int (gS ns))) else .stk
theorem aHp (hc:X.calm=true)(hg:Gl X "len")(hm:X.mg "len" = none)(hg2:Gl X "set")(hm2:X.mg "set" = none)(ha:PE X a (tE X.K P f))(he:starEach [a] X.env=[(false,eval a X.env)]:=by rfl)
 (he2:starEach [.Call (.Name "set" p2) [a] [] pos2] X.env=[(false,eval (.Call (.Name "set" p2) [a] [] pos2) X.env)]:=by rfl):PE X (.Call (.Name "len" p) [.Call (.Name "set" p2) [a] [] pos2] [] pos) (tE X.K P (tY f)):=by
 refine PE.imp (fP tN hg hm PySem.boot_len (fY (kU (aC4 hc) hg2 hm2 (by decide +kernel) (aA ha aH he) (he:=he)) lR he2) (he:=he2)) ?_
 intro σ H Q h
 have main:tCB (fun vs H1 Q=>∃ (a:Addr) (ns:List Int),vs=[.ref a]/\SqL X.K H1 a (ns.map V.int)/\ns.length<1000/\∀ l S,H1 l=none->∃ (a:Addr) (S':Int->Bool) (n:Nat),[V.ref l]=[.ref a]/\upd H1 l (.set S (gS ns)) a=some (.set S' n)/\n<1000/\Q (.int n) (upd H1 l (.set S (gS ns)))) (tAs X.K P [f]) σ H Q:=by
  refine oD h ?_
  intro H0 B ρ v H' r d0 d g s h;cases e:asL r.d with
  | stk=>simp[e]at h
  | exc x=>exact(iF e).elim
  | ok ds =>
   cases e2:cH ds with
   | stk=>simp[e,e2]at h
   | exc x=>exact(dA e2).elim
   | ok ns =>
    simp only[e,e2,R.ok_bind]at h;by_cases few:ns.length<1000
    · rw[if_pos few]at h
      obtain⟨a,xs,h1,h2,h3⟩:=g.list (gK e);have hx:=aJ.ints e2 h3;subst hx;refine⟨a,ns,by rw[h1],.inl h2,few,fun l S hl=>⟨l,S,gS ns,rfl,bC,Cf (vW ns) few,h _ _ (aI.upd_new hl) (aM.sc (show Rep _ _ (.int _) _ from rfl))⟩⟩
    · rw[if_neg few]at h;exact h.elim
 exact main
end Mir
namespace HT
open PySem PySem.Spec PyProof.Rows
open PySem.SeqAt
open PySem.AutoSeq1 (wpAny_loadPart')
open PySem.MeetsSeq PySem.MeetsSeq2 PySem.MeetsSeq3
theorem aQu {prog:Program}{w:World}{A:Around}{s:Shared}{E:Value->Shared->Prop}{Q:Value->Shared->Prop}{x y:Int}{t u:Tok}(q:Q (.bool (decide (y<=x))) s):wpAny (model prog w) A (richCompare .GtE (.int x t) (.int y u)) Q E s :=
 (ge_int q:wpAny (model prog w) A (compareOp .GtE (.int x t) (.int y u)) Q E s)
theorem aIy {vs ws:List Value}{ns ms:List Int}{n m:Nat}(hv:IntsAre vs ns)(hw:IntsAre ws ms)(z:[]=vs.zip ws)(l:ns.length+m=ms.length+n):cT ns ms=decide (n<m):=by
 cases hv with
 | nil =>
  cases hw with
  | nil=>exact(decide_eq_false (by simp at l;omega)).symm
  | cons _ _ _=>exact(decide_eq_true (by simp at l;omega)).symm
 | cons _ _ _ =>
  cases hw with
  | nil=>exact(decide_eq_false (by simp at l;omega)).symm
  | cons _ _ _=>simp at z
theorem sG (p q:Addr)(xs ys:Array Value)(n n2:Nat)(d1 d2:Option Addr)(s1 s2:Array (Option Value))(ns ms:List Int)(hx:IntsAre xs.toList ns)(hy:IntsAre ys.toList ms) :
 Meets (Builtin.«tuple.__ge__» ⟨[.ref p,.ref q],[]⟩)
  (fun _ R s=>s.heap.get? p=some ⟨.type "tuple",d1,.seq xs n,s1⟩/\s.heap.get? q=some ⟨.type "tuple",d2,.seq ys n2,s2⟩/\R (.ok (.ret (.bool (!cT ns ms)))) s) :=
 .of_wp fun prog w A R s h=>by
  obtain⟨hp,g,d,tk,os⟩:=s;obtain⟨e1,e2,h⟩:=h;have sub:=AutoSeq1.sub_tuple_tuple;have z1:xs.size=ns.length:=by have:=hx.length;simpa using this
  have z2:ys.size=ms.length:=by have:=hy.length;simpa using this
  wp_walk using wpAny_loadPart' e1,wpAny_loadPart' e2,wpAny_forIn_list _ (fun rest b s'=>b.1=none/\s'=⟨hp,g,d,tk,os⟩/\∃ (vs ws:List Value) (ns' ms':List Int),rest=vs.zip ws/\IntsAre vs ns'/\IntsAre ws ms'/\ns'.length+ys.size=ms'.length+xs.size/\R (.ok (.ret (.bool (!cT ns' ms')))) ⟨hp,g,d,tk,os⟩) _
  case turn =>
   rintro⟨y,x⟩ rest b s' ⟨hb',rfl,vs,ws,ns',ms',hz,hv,hw,l,hR⟩
   cases hv with
   | nil=>simp at hz
   | cons a t hv' =>
    cases hw with
    | nil=>simp at hz
    | cons c u hw' =>
     simp only[Ed,Ga.injEq,Prod.mk.injEq]at hz;obtain⟨⟨rfl,rfl⟩,hrest⟩:=hz;have l':=l;simp only[Av]at l';obtain⟨e,he,hiff⟩:=xP A.in1 ⟨hp,g,d,tk,os⟩ a t c u;refine wpAny_bind (he prog w _ _ ?_)
     cases e with
     | true =>
      rw[lP,if_pos (hiff.mp rfl)]at hR;wp_walk
      exact⟨rfl,rfl,_,_,_,_,hrest,hv',hw',by omega,hR⟩
     | false =>
      have ne:a≠c:=fun q=>absurd (hiff.mpr q) Bb;rw[lP,if_neg ne]at hR;have hri:=fun (E:Value->Shared->Prop) (Q:Value->Shared->Prop) (q:Q (.bool (decide (c<=a))) ⟨hp,g,d,tk,os⟩)=>aQu (prog:=prog) (w:=w) (A:=A.in1) (E:=E) (t:=t) (u:=u) q;wp_walk using hri
      refine⟨_,rfl,?_⟩
      have e3:(!decide (a<c))=decide (c<=a):=by by_cases z:a<c<;>simp[z]<;>omega
      rw[e3]at hR;simpa using hR
  case fin =>
   rintro⟨b1,b2⟩ s' ⟨hb',rfl,vs,ws,ns',ms',hz,hv,hw,l,hR⟩
   simp only at hb';subst hb';rw[aIy hv hw hz l]at hR;wp_walk
   refine⟨_,rfl,?_⟩
   have e3:(!decide (xs.size<ys.size))=decide (ys.size<=xs.size):=by by_cases z:xs.size<ys.size<;>simp[z]<;>omega
   rw[e3]at hR;simpa[Builtin.Tuple.tupleCompareSizes] using hR
  case h =>
   exact⟨rfl,rfl,xs.toList,ys.toList,ns,ms,rfl,hx,hy,by omega,h⟩
end HT
namespace L2
open PySem PySem.Spec PyProof.Rows
theorem aLx {X:Cx}(hu:X.A.units+64<cLine):OpR X (compareOp .GtE) (fun x y H Q=>∃ (a b:Addr) (ns ms:List Int),x=.ref a/\y=.ref b/\H a=some (.tup (ns.map V.int))/\H b=some (.tup (ms.map V.int))/\Q (.bl (!HT.cT ns ms)) H):=by
 intro pins s σ H x y v u Q I rx ry h;obtain⟨a,b,ns,ms,rfl,rfl,h1,h2,q⟩:=h;cases rx;cases ry;obtain⟨is,r1,t1⟩:=gY I h1;obtain⟨js,r2,t2⟩:=gY I h2;obtain⟨⟨c,d1,da,s1⟩,e1,k1,n,f1⟩:=id t1;obtain⟨⟨c2,d2,db,s2⟩,e2,k2,n2,f2⟩:=id t2;simp only at k1 f1 k2 f2;subst k1 f1 k2 f2
 exact PySem.richCompare_meets_room (op:=.GtE) ⟨_,e1,rfl⟩ ⟨_,e2,rfl⟩ PySem.F.slot_tuple_ge PySem.F.entry_tuple_ge (PySem.F.args_tuple_ge_2 _ _) (HT.sG a b is.toArray js.toArray n n2 d1 d2 s1 s2 ns ms (by simpa using fE r1) (by simpa using fE r2))
  ⟨e1,e2,⟨(fun x=>nomatch x),aMh I q rfl⟩⟩ (by omega)
end L2
namespace Mir
open PySem L2
variable {X:Cx}{P:XP}{a b c:Expr}{f g:FE}{pos:Pos}
def zH (f g:FE):FE:=fun ρ=>do
 let x ← f ρ
 let y ← g ρ
 match x.d,y.d with
 | .tup ds,.tup es=>do
  let ns ← cH ds
  let ms ← cH es
  .ok (sc (.bl (!HT.cT ns ms)))
 | _,_=>.stk
theorem aP0 (σ:St)(H:Hp)(Q:VK)(h:tE X.K P (zH f g) σ H Q):tOp (fun x y H Q=>∃ (a b:Addr) (ns ms:List Int),x=.ref a/\y=.ref b/\H a=some (.tup (ns.map V.int))/\H b=some (.tup (ms.map V.int))/\Q (.bl (!HT.cT ns ms)) H) (tE X.K P f) (tE X.K P g) σ H Q:=by
 refine t2 (q:=fun x y H2=>∃ (a b:Addr) (ns ms:List Int),x=.ref a/\y=.ref b/\H2 a=some (.tup (ns.map V.int))/\H2 b=some (.tup (ms.map V.int))/\Q (.bl (!HT.cT ns ms)) H2) h ?_
 intro H0 B ρ v w H' r r' d g1 g2 s h;cases e1:r.d with
 | tup ds =>
  cases e2:r'.d with
  | tup es =>
   simp only[e1,e2]at h;cases e3:cH ds with
   | stk=>simp[e3]at h
   | exc x=>exact(dA e3).elim
   | ok ns =>
    cases e4:cH es with
    | stk=>simp[e3,e4]at h
    | exc x=>exact(dA e4).elim
    | ok ms =>
     simp only[e3,e4,R.ok_bind]at h;obtain⟨a,xs,h1,h2,h3⟩:=g1.tuple e1;obtain⟨b,ys,h4,h5,h6⟩:=g2.tuple e2;have hx:=aJ.ints e3 h3;have hy:=aJ.ints e4 h6;subst hx hy;exact⟨a,b,ns,ms,h1,h4,h2,h5,h _ H' (aI.refl _) (aM.sc (show Rep _ _ (.bl _) _ from rfl))⟩
  | _=>simp[e1,e2]at h
 | _=>simp[e1]at h
theorem aLq (hu:X.A.units+64<cLine)(ha:PE X a (tE X.K P f))(hb:PE X b (tE X.K P g)):PT X (.Compare a [.GtE] [b] pos) (tT X.K P (bT (zH f g))):=jZ (aLx hu) ha hb (kB _) aP0
end Mir
namespace Mir
open PySem L2
abbrev li (xs:List Int):List D:=xs.map .int
abbrev lil (t:List (List Int)):List D:=t.map fun xs=>.lst (li xs)
theorem aQ {s t:FS}{ρ ρ1:Mir.Env}(h:s ρ=.nx ρ1):aL s t ρ=t ρ1:=by simp only[aL,h]
theorem zW {s t:FS}{ρ:Mir.Env}{r:Res}(h:s ρ=.rt r):aL s t ρ=.rt r:=by simp only[aL,h]
theorem aJr {s t:FS}{ρ ρ1:Mir.Env}{x:Xc}(h:s ρ=.exc x ρ1):aL s t ρ=.exc x ρ1:=by simp only[aL,h]
theorem fT {it:FI}{tg:Tg}{b:FS}{ρ:Mir.Env}{fr:Bool}{ds:List D}(h:it ρ=.ok ⟨true,fr,ds⟩):cV it tg b ρ=fZ tg b fr ds ρ:=by simp only[cV,h,R.at,if_true]
theorem dX {np n:Nat}{s:FS}{ds:List D}{r:Res}(hl:ds.length=np)(h:s (stE n ds)=.rt r):cW np n s ds=.ok ⟨r.k,r.fr||r.d.imm,r.d⟩:=by simp only[cW,hl,if_true,h]
theorem aLd {np n:Nat}{s:FS}{ds:List D}{ρ:Mir.Env}(hl:ds.length=np)(h:s (stE n ds)=.nx ρ):cW np n s ds=.ok (sc .non):=by simp only[cW,hl,if_true,h]
theorem uW {np n:Nat}{s:FS}{ds:List D}{x:Xc}{ρ:Mir.Env}(hl:ds.length=np)(h:s (stE n ds)=.exc x ρ):cW np n s ds=.exc x:=by simp only[cW,hl,if_true,h]
theorem aAj {f:FE}{ρ:Mir.Env}{k:Kd}{fr:Bool}{d:D}(h:f ρ=.ok ⟨k,fr,d⟩):bD f ρ=.rt ⟨if k=.shr then .shr else .tmp,fr,d⟩:=by simp only[bD,h,R.at]
theorem aH0 {f:FE}{ρ:Mir.Env}{r:Res}(h:f ρ=.ok r):iD f ρ=.nx ρ:=by simp only[iD,h,R.at]
theorem iG {f:FE}{ρ:Mir.Env}{i:Nat}{fr:Bool}{d:D}(h:f ρ=.ok ⟨.tmp,fr,d⟩):aR i f ρ=.nx (ρ.set i (some ⟨.own,fr,d⟩)):=by simp only[aR,h,R.at,Res.keep]
theorem set_shr {f:FE}{ρ:Mir.Env}{i:Nat}{fr:Bool}{d:D}(h:f ρ=.ok ⟨.shr,fr,d⟩):aR i f ρ=.nx (ρ.set i (some ⟨.shr,fr,d⟩)):=by simp only[aR,h,R.at,Res.keep]
theorem hE {t:FT}{A B:FS}{ρ:Mir.Env}{b:Bool}(h:t ρ=.ok b):ifS t A B ρ=if b then A ρ else B ρ:=by simp only[ifS,h,R.at]
theorem aJz {f:FE}{A B:FS}{ρ:Mir.Env}{b:Bool}{k:Kd}{fr:Bool}(h:f ρ=.ok ⟨k,fr,.bl b⟩):ifS (bT f) A B ρ=if b then A ρ else B ρ:=by
 simp only[ifS,bT,h,R.ok_bind,asB,R.at]
theorem cY {f:FE}{ρ:Mir.Env}{b:Bool}{k:Kd}{fr:Bool}(h:f ρ=.ok ⟨k,fr,.bl b⟩):bT f ρ=.ok b:=by simp only[bT,h,R.ok_bind,asB]
theorem oV {t:FT}{ρ:Mir.Env}{b:Bool}(h:t ρ=.ok b):eF t ρ=.ok (!b):=by simp only[eF,h,R.ok_bind]
theorem fV {t u:FT}{ρ:Mir.Env}{b:Bool}{r:R Bool}(h:t ρ=.ok b)(h2:b=false->u ρ=r):orT t u ρ=if b then .ok true else r:=by
 cases b with
 | true=>simp only[orT,h,R.ok_bind,if_true]
 | false=>simp only[orT,h,R.ok_bind,h2 rfl,Bk,if_false]
theorem aAz {t u:FT}{ρ:Mir.Env}{b:Bool}{r:R Bool}(h:t ρ=.ok b)(h2:b=true->u ρ=r):wM t u ρ=if b then r else .ok false:=by
 cases b with
 | true=>simp only[wM,h,R.ok_bind,h2 rfl,if_true]
 | false=>simp only[wM,h,R.ok_bind,Bk,if_false]
theorem aIl {f g:FE}{ρ:Mir.Env}{b:Bool}{k:Kd}{fr:Bool}{r:R Res}(h:f ρ=.ok ⟨k,fr,.bl b⟩)(h2:b=true->g ρ=r):xJ f g ρ=if b then r else .ok (sc (.bl false)):=by
 cases b with
 | true=>simp only[xJ,h,R.ok_bind,asB,h2 rfl,if_true]
 | false=>simp only[xJ,h,R.ok_bind,asB,Bk,if_false]
theorem uT {φ:Φ}{fs:FEs}{ρ:Mir.Env}{rs:List Res}{k:Kd}{d:D}(h:evs fs ρ=.ok rs)(hφ:φ (rs.map (·.d))=.ok ⟨k,true,d⟩):aC φ fs ρ=.ok ⟨if k=.shr then .shr else .tmp,true,d⟩:=by
 simp only[aC,h,R.ok_bind,hφ,if_true]
theorem jE {φ:Φ}{fs:FEs}{ρ:Mir.Env}{rs:List Res}{d:D}(h:evs fs ρ=.ok rs)(hφ:φ (rs.map (·.d))=.ok ⟨.shr,true,d⟩):aC φ fs ρ=.ok ⟨.shr,true,d⟩:=(uT h hφ).trans rfl
theorem bR {φ:Φ}{fs:FEs}{ρ:Mir.Env}{rs:List Res}{d:D}(h:evs fs ρ=.ok rs)(hφ:φ (rs.map (·.d))=.ok ⟨.tmp,true,d⟩):aC φ fs ρ=.ok ⟨.tmp,true,d⟩:=(uT h hφ).trans rfl
theorem fX {f:FE}{ρ:Mir.Env}{fr:Bool}{d:D}(h:f ρ=.ok ⟨.tmp,fr,d⟩):bD f ρ=.rt ⟨.tmp,fr,d⟩:=(aAj h).trans rfl
theorem aI3 {f:FE}{ρ:Mir.Env}{fr:Bool}{d:D}(h:f ρ=.ok ⟨.own,fr,d⟩):bD f ρ=.rt ⟨.tmp,fr,d⟩:=(aAj h).trans rfl
theorem oW {f:FE}{ρ:Mir.Env}{fr:Bool}{d:D}(h:f ρ=.ok ⟨.shr,fr,d⟩):bD f ρ=.rt ⟨.shr,fr,d⟩:=(aAj h).trans rfl
theorem aD {f:FE}{fs:FEs}{ρ:Mir.Env}{r:Res}{rs:List Res}(h:f ρ=.ok r)(h2:evs fs ρ=.ok rs):evs (f :: fs) ρ=.ok (r :: rs):=by simp only[evs,h,h2,R.ok_bind]
theorem bB {ρ:Mir.Env}:evs [] ρ=.ok []:=rfl
theorem xC {α:Type}{tg:Tg}{b:FB}{fr:Bool}{ρ:Mir.Env}{inj out:α->D}:∀ (xs:List α),(∀ x∈xs,∃ ρ1 k,tg.bind fr (inj x) ρ=.ok ρ1/\b ρ1=.ok (some ⟨k,true,out x⟩)/\k≠.own)->hG tg b fr ρ (xs.map inj)=.ok (true,xs.map out)
 | [],_=>rfl
 | x :: r,h=>by
  obtain⟨ρ1,k,h1,h2,h3⟩:=h x Aa;have ih:=xC r fun y hy=>h y (Ac _ hy);simp only[Ap,hG,h1,R.ok_bind,h2,Res.give,if_neg h3,ih];rfl
theorem wN {α:Type}{it:FI}{tg:Tg}{b:FB}{fr st:Bool}{ρ:Mir.Env}{k:Nat}{fs:List Nat}{inj out:α->D}{xs:List α}(hi:it ρ=.ok ⟨st,fr,xs.map inj⟩)
 (h:∀ x∈xs,∃ ρ1 k',tg.bind fr (inj x) (dM k fs ρ)=.ok ρ1/\b ρ1=.ok (some ⟨k',true,out x⟩)/\k'≠.own) (hz:xs.length<=sizeLine):bW it k fs tg b ρ=.ok ⟨.tmp,true,.lst (xs.map out)⟩:=by
 have:=xC xs h
 simp only[bW,hi,R.ok_bind,this,Ab,if_pos hz]
theorem aJy {f:FE}{ρ:Mir.Env}{r:Res}(h:f ρ=.ok r):bE f ρ=.ok (some r):=by simp only[bE,h,R.ok_bind]
theorem aFi (lo:Int)(n:Nat):mT lo n=(Bd n).map fun (i:Nat)=>.int (lo+(i:Int)):=rfl
theorem aOd (n:Nat):mT 0 n=(Bd n).map fun (i:Nat)=>.int (i:Int):=by
 rw[aFi];simp
theorem pV {n:Nat}(h:n<2^250):n<2^1000:=Al h (Az (by decide) (by decide))
theorem gJ {i j:Int}(h1:i.natAbs<2^1000)(h2:j.natAbs<2^1000):CM i j=true:=by
 have lg:∀ n:Nat,n<2^1000->n.log2<1000000:=fun n h=>by
  by_cases z:n=0
  · subst z;decide
  · exact Nat.lt_trans ((Nat.log2_lt z).mpr h) (by decide)
 unfold CM;rw[decide_eq_true (lg _ h1),decide_eq_true (lg _ h2)];rfl
theorem aAr (a b:Int):lO (.int a) (.int b)=.ok (decide (a=b)):=by
 by_cases h:a=b
 · subst h;simp[lO,iH,SeqAt.shaped,PyData.canLay0,PyData.depth,PyData.eqv]
 · simp[lO,iH,SeqAt.shaped,PyData.canLay0,PyData.depth,PyData.eqv,h]
theorem eK:∀ zs:List Int,cH (li zs)=.ok zs
 | []=>rfl
 | z :: r=>by
  have:=eK r
  simp only[li,Ap,cH]at this ⊢;simp[this,asI]
theorem uS {xs:List D}{k:Nat}{d:D}(h:xs[k]?=some d):atI xs (k:Int)=some d:=by
 have hk:=(Aj.mp h).1;have hn:¬ (k:Int)<0:=by omega
 unfold atI ixN;rw[if_pos (by omega),if_pos (by omega)]
 simpa using h
theorem lN {f:FE}{ρ:Mir.Env}{k:Kd}{fr:Bool}{ds:List D}(h:f ρ=.ok ⟨k,fr,.lst ds⟩):bY f ρ=.ok (sc (.int ds.length)):=by simp only[bY,h,R.ok_bind,asS]
theorem lG {f:FE}{ρ:Mir.Env}{k:Kd}{fr:Bool}{ds:List D}(h:f ρ=.ok ⟨k,fr,.lst ds⟩):dC f ρ=.ok ⟨k != .own,fr,ds⟩:=by simp only[dC,h,R.ok_bind,asL]
theorem pF {f g:FE}{ρ:Mir.Env}{k k':Kd}{fr fr':Bool}{i j:Int}(h1:f ρ=.ok ⟨k,fr,.int i⟩)(h2:g ρ=.ok ⟨k',fr',.int j⟩):neE f g ρ=.ok (sc (.bl (!decide (i=j)))):=by simp only[neE,h1,h2,R.ok_bind,aAr]
theorem vF {f g:FE}{ρ:Mir.Env}{k k':Kd}{fr fr':Bool}{i j:Int}(h1:f ρ=.ok ⟨k,fr,.int i⟩)(h2:g ρ=.ok ⟨k',fr',.int j⟩):eqE f g ρ=.ok (sc (.bl (decide (i=j)))):=by simp only[eqE,h1,h2,R.ok_bind,aAr]
theorem aJw {f g:FE}{ρ:Mir.Env}{r r':Res}{b:Bool}(h1:f ρ=.ok r)(h2:g ρ=.ok r')(h:lO r.d r'.d=.ok b):eqE f g ρ=.ok (sc (.bl b)):=by simp only[eqE,h1,h2,R.ok_bind,h]
theorem xA {f g:FE}{ρ:Mir.Env}{r r':Res}{b:Bool}(h1:f ρ=.ok r)(h2:g ρ=.ok r')(h:lO r.d r'.d=.ok b):neE f g ρ=.ok (sc (.bl (!b))):=by simp only[neE,h1,h2,R.ok_bind,h]
theorem fJ {G:Int->Int->Bool}{f g:FE}{ρ:Mir.Env}{k k':Kd}{fr fr':Bool}{i j:Int}(h1:f ρ=.ok ⟨k,fr,.int i⟩)(h2:g ρ=.ok ⟨k',fr',.int j⟩):zJ G f g ρ=.ok (sc (.bl (G i j))):=by simp only[zJ,h1,h2,R.ok_bind,asI]
theorem bM {C:Int->Int->Bool}{G:Int->Int->Int}{f g:FE}{ρ:Mir.Env}{k k':Kd}{fr fr':Bool}{i j:Int}(h1:f ρ=.ok ⟨k,fr,.int i⟩)(h2:g ρ=.ok ⟨k',fr',.int j⟩)(hc:C i j=true):i2E C G f g ρ=.ok (sc (.int (G i j))):=by
 simp only[i2E,h1,h2,R.ok_bind,asI,hc,if_true]
theorem aE1 {f:FE}{ρ:Mir.Env}{x:Res}{j:Int}(h:f ρ=.ok x)(hx:x.d=.int j)(c:-(2^62)<=j/\j<2^62):eJ f ρ=.ok ⟨true,true,mT 0 j.toNat⟩:=by
 simp only[eJ,h,hx,asI,R.ok_bind];rw[if_pos c]
theorem uU {f:FE}{ρ:Mir.Env}{k:Kd}{fr:Bool}{n:Nat}(h:f ρ=.ok ⟨k,fr,.int n⟩)(hn:(n:Int)<2^62):eJ f ρ=.ok ⟨true,true,(Bd n).map fun (i:Nat)=>.int (i:Int)⟩ :=
 (aE1 h rfl ⟨by omega,hn⟩).trans (by rw[Dc,aOd])
theorem eZ {f g:FE}{ρ:Mir.Env}{k k':Kd}{fr fr':Bool}{ds:List D}{i:Nat}{d:D}(h1:f ρ=.ok ⟨k,fr,.lst ds⟩)(h2:g ρ=.ok ⟨k',fr',.int i⟩)(h:ds[i]?=some d):aX f g ρ=.ok ⟨.shr,fr||d.imm,d⟩:=by
 simp only[aX,h1,h2,R.ok_bind,asS,asI,uS h]
theorem aBh {f g:FE}{ρ:Mir.Env}{k k':Kd}{fr fr':Bool}{ds:List D}{i:Nat}{z:Int}(h1:f ρ=.ok ⟨k,fr,.lst ds⟩)(h2:g ρ=.ok ⟨k',fr',.int i⟩)(h:ds[i]?=some (.int z)):aX f g ρ=.ok ⟨.shr,true,.int z⟩ :=
 (eZ h1 h2 h).trans (by simp[D.imm])
end Mir
namespace Mir
open PySem L2
theorem aCa (lo:Int)(n:Nat):mT lo (n+1)=.int lo :: mT (lo+1) n:=by
 unfold mT;simp only[List.range_succ_eq_map,Ap,Bm];congr 1
 · simp
 · apply Dg
   intro a _;simp only[Function.comp,D.int.injEq];push_cast
   omega
theorem aIb {a b:FE}{ρ:Mir.Env}{x y:Res}{lo:Int}{m:Nat}(ha:a ρ=.ok x)(hx:x.d=.int lo)(hb:b ρ=.ok y)(hy:y.d=.int (lo+m))(h1:0<=lo)(h2:lo+m<2^62):qO a b ρ=.ok ⟨true,true,mT lo m⟩:=by
 have r1:-(2^62)<=lo/\lo<2^62/\-(2^62)<=lo+(m:Int)/\lo+(m:Int)<2^62:=by omega
 have r2:(lo+(m:Int)-lo).toNat=m:=by omega
 simp only[qO,ha,hb,hx,hy,asI,R.ok_bind];rw[if_pos r1,r2]
theorem pQ {i:Nat}{f:FE}{ρ:Mir.Env}{fr fr':Bool}{ds:List D}{k:Kd}{d:D}(ho:ρ[i]?=some (some ⟨.own,fr,.lst ds⟩))(h:f ρ=.ok ⟨k,fr',d⟩)(hk:k≠.own)(hz:ds.length<sizeLine):jB i f ρ=.nx (ρ.set i (some ⟨.own,fr&&fr',.lst (ds++[d])⟩)):=by
 simp only[jB,rT,ho,R.at,h,Res.give,if_neg hk,if_pos hz]
end Mir
namespace Mir
open PySem L2
mutual
def D.pl:D->Nat->Bool
 | .non,_=>true
 | .bl _,_=>true
 | .int _,_=>true
 | .lst ds,n=>decide (0<n)&&D.pls ds (n-1)
 | .tup ds,n=>decide (0<n)&&D.pls ds (n-1)
 | _,_=>false
def D.pls:List D->Nat->Bool
 | [],_=>true
 | d :: r,n=>D.pl d n&&D.pls r n
end
mutual
theorem aJ7:∀ (d:D) (n:Nat),d.pl n=true->∃ p,iH d=some p/\p.depth<=n/\p.canLay0=true/\PyData.eqv p p=true
 | .non,n,_=>⟨.none,rfl,by simp[PyData.depth],by simp[PyData.canLay0],by simp[PyData.eqv]⟩
 | .bl b,n,_=>⟨.bool b,rfl,by simp[PyData.depth],by simp[PyData.canLay0],by simp[PyData.eqv]⟩
 | .int i,n,_=>⟨.int i,rfl,by simp[PyData.depth],by simp[PyData.canLay0],by simp[PyData.eqv]⟩
 | .str _,_,h=>by simp[D.pl]at h
 | .obj _ _,_,h=>by simp[D.pl]at h
 | .dct _ _,_,h=>by simp[D.pl]at h
 | .any,_,h=>by simp[D.pl]at h
 | .exc _ _,_,h=>by simp[D.pl]at h
 | .lst ds,n,h=>by
  simp only[D.pl,Br,decide_eq_true_eq]at h;obtain⟨ps,h1,h2,h3,h4⟩:=zI ds (n-1) h.2;refine⟨.list ps,by simp only[iH,h1,Ec],?_,by simpa only[PyData.canLay0] using h3,by simpa only[PyData.eqv] using h4⟩
  simp only[PyData.depth];omega
 | .tup ds,n,h=>by
  simp only[D.pl,Br,decide_eq_true_eq]at h;obtain⟨ps,h1,h2,h3,h4⟩:=zI ds (n-1) h.2;refine⟨.tuple ps,by simp only[iH,h1,Ec],?_,by simpa only[PyData.canLay0] using h3,by simpa only[PyData.eqv] using h4⟩
  simp only[PyData.depth];omega
theorem zI:∀ (ds:List D) (n:Nat),D.pls ds n=true->∃ ps,oE ds=some ps/\PyData.depthAll ps<=n/\PyData.canLayAll0 ps=true/\PyData.eqvAll ps ps=true
 | [],n,_=>⟨[],rfl,by simp[PyData.depthAll],by simp[PyData.canLayAll0],by simp[PyData.eqvAll]⟩
 | d :: r,n,h=>by
  simp only[D.pls,Br]at h;obtain⟨p,a1,a2,a3,a4⟩:=aJ7 d n h.1;obtain⟨ps,h1,h2,h3,h4⟩:=zI r n h.2;refine⟨p :: ps,by simp only[oE,a1,h1,Ek,Ec],?_,by simp only[PyData.canLayAll0,a3,h3,Fk],by simp only[PyData.eqvAll,a4,h4,Fk]⟩
  simp only[PyData.depthAll];omega
end
theorem nC {d:D}(n:Nat)(h:d.pl n=true)(hn:n<=64):lO d d=.ok true:=by
 obtain⟨p,h1,h2,h3,h4⟩:=aJ7 d n h
 have s:SeqAt.shaped p=true:=by
  unfold SeqAt.shaped;rw[h3,decide_eq_true (Ak h2 hn)];rfl
 unfold lO;rw[h1];simp only[s,Fk,if_true,h4]
theorem vD {n:Nat}:∀ {ds:List D},(∀ d∈ds,d.pl n=true)->D.pls ds n=true
 | [],_=>rfl
 | d :: r,h=>by
  simp only[D.pls,h d Aa,vD fun x hx=>h x (Ac _ hx),Fk]
theorem aK2 (xs:List Int)(n:Nat):D.pls (li xs) n=true:=vD fun d hd=>by
 obtain⟨i,_,rfl⟩:=Ar.mp hd;rfl
theorem aHd {α:Type}(f:α->D)(xs:List α):rM (xs.map f)=xs.zipIdx.map fun p=>.tup [.int p.2,f p.1]:=by
 unfold rM;rw[List.zipIdx_map,Bm];rfl
theorem aMr {f:FE}{lo hi:FO}{ρ:Mir.Env}{k:Kd}{fr:Bool}{ds:List D}{a b:Option Int}(h:f ρ=.ok ⟨k,fr,.lst ds⟩)(hl:lo ρ=.ok a)(hh:hi ρ=.ok b):uM f lo hi ρ=.ok ⟨.tmp,fr,.lst (nI ds a b)⟩:=by
 simp only[uM,h,hl,hh,R.ok_bind,asL]
end Mir
namespace N66
open PySem L2 Mir
def top (i:Nat):Stmt:=PySem.Challenge.pw_flatmeet_k66_crossed_sums.main.body.getD i (.Pass ⟨0,0,0,0⟩)
structure Blt (mg:Str->Option Value):Prop where
 len_:mg "len" = none
 set_:mg "set" = none
 enumerate_:mg "enumerate" = none
 sorted_:mg "sorted" = none
 tuple_:mg "tuple" = none
 range_:mg "range" = none
 isinstance_:mg "isinstance" = none
 zip_:mg "zip" = none
 ValueError_:mg "ValueError" = none
 list_:mg "list" = none
 bool_:mg "bool" = none
 int_:mg "int" = none
 g_MOST_WAYS:∃ t,mg "MOST_WAYS" = some (.int 5 t)
section
variable {Pg:Program}{w:World}{K:PySem.W.Frag}{mg:Str->Option Value}{base:Heap}{k:Nat}{T:Addr}
abbrev fM:Stmt:=top 18
theorem kG:FnScope ["many"] ["many"] (aY fM):=⟨rfl,rfl,rfl,by decide +kernel,rfl,by decide +kernel,by decide +kernel⟩
def sB:FS :=
 (ifS (orT (bT (ltE (vE 0) (cE (.int 1)))) (bT (gtE (vE 0) (cE (.int 5)))))
  (vC .BadCount [cE (.str "a space has 1 to 5 ways")])
  cI)
def cK:Φ:=cW 1 1 sB
theorem iL (B:Blt mg)(XT:XAll K mg T)  (F:cB K mg "check_count" fM ["many"]):aO Pg w K mg base (CXM Pg w) (k+1) "check_count" ["many"] (spM K (clK K) cK):=by
 have nd:=kG.nd;refine dQ F kG fun f cdv A outer s H E hr=>?_
 have hu:=hr.units
 exact(aU (eQ (PW.pt (iT (aA1 (m_v 0) aT) (jT (xK (m_v 0) (aLm rfl B.g_MOST_WAYS)))))
  (aU (aG7 (xc:=.BadCount) (XT.nm .BadCount) (XT.ex .BadCount (by decide) (by decide)) rfl rfl aO2 (aA fB aH)))
  dG))
abbrev kP:Stmt:=top 20
theorem rE:FnScope ["places","exchanges","place","number"] ["places"] (aY kP):=⟨rfl,rfl,rfl,by decide +kernel,rfl,by decide +kernel,by decide +kernel⟩
def aCq:FS :=
 (aL (ifS (bT (ltE (oG (vE 0)) (bY (vE 0))))
  (bD (cE (.int 0)))
  cI)
 (aL (aR 1 (cE (.int 0)))
 (aL (cV (aCk (vE 0)) (.tp [.nm 2,.nm 3])
  (sC 1 (fun m n=>m+n) (bY (bW (lU (lF (vE 0) (noO) (soO (vE 2)))) 1 [3] (.nm 0) (Mir.bIf (bT (gtE (vE 0) (vE 1))) (vE 0))))))
 (bD (eU (cE (.int 1)) (cC (cE (.int 2)) (dF (vE 1) (cE (.int 2)))))))))
def dZ:Φ:=cW 1 4 aCq
theorem iP (B:Blt mg)(XT:XAll K mg T)  (F:cB K mg "turn_of" kP ["places"]):aO Pg w K mg base (CXM Pg w) (k+1) "turn_of" ["places"] (spM K (clK K) dZ):=by
 have nd:=rE.nd;refine dQ F rE fun f cdv A outer s H E hr=>?_
 have hu:=hr.units
 exact(aF (eQ (aA1 (aLr rfl rfl B.len_ rfl B.set_ (m_v 0)) (jK rfl B.len_ (m_v 0)))
  (aU (cM aT))
  dG)
  (aF (bQ (i:=1) nd rfl (Or.inl rfl) aT)
  (aF (gQ gL rfl (aJj rfl B.enumerate_ (m_v 0)) (jJ rfl (bK (bV nd rfl (Or.inl rfl)) (bK (bV nd rfl (Or.inr rfl)) eM)))
   (aU (aK1 (i:=1) nd rfl (Or.inl rfl) (jK rfl B.len_ (jV rfl (cN (XN:=["places","exchanges","place","number"]) (N:=["before","number"]) (k:=1) (fs:=[3]) rfl rfl rfl (by decide +kernel)) (aEu (aLb (m_v 0) aKe (aJ2 (m_v 2)))) (fun _ _ _=>(bV (show (["before","number"]:List Str).Nodup by decide +kernel) rfl (Or.inl rfl))) (oI rfl) (fun _ _ _=>oC (xK (m_v 0) (m_v 1)) (m_v 0)))))))
  (aU (cM (oA aT (fQ aT (kK (m_v 1) aT))))))))
abbrev mE:Stmt:=top 21
theorem uH:FnScope ["terms","numbers","places","number","key"] ["terms"] (aY mE):=⟨rfl,rfl,rfl,by decide +kernel,rfl,by decide +kernel,by decide +kernel⟩
def aEa:FS :=
 (aL (aR 1 (pS))
 (aL (mO 0 (cV (dC (vE 0)) (.tp [.nm 2,.nm 3])
  (aL (aR 4 (lV (jR (vE 2))))
  (mB 1 (vE 4) (cA (oK (vE 1) (vE 4) (cE (.int 0))) (cC (aC dZ [vE 2]) (vE 3)))))))
 (bD (bW (dC (xY (vE 1))) 1 [1] (.nm 0) (Mir.bIf (bT (neE (eV (vE 1) (vE 0)) (cE (.int 0)))) (dO [vE 0,eV (vE 1) (vE 0)]))))))
def eI:Φ:=cW 1 5 aEa
theorem gZ (B:Blt mg)(XT:XAll K mg T)(iP:aO Pg w K mg base (CXM Pg w) k "turn_of" ["places"] (spM K (clK K) dZ))(F:cB K mg "summed" mE ["terms"]):aO Pg w K mg base (CXM Pg w) (k+1) "summed" ["terms"] (spM K (clK K) eI):=by
 have nd:=uH.nd;refine dQ F uH fun f cdv A outer s H E hr=>?_
 have hu:=hr.units
 exact(aF (bQ (i:=1) nd rfl (Or.inr rfl) aFo)
  (aF (wX (i:=0) (gQ gL rfl (fU (m_v 0)) (jJ rfl (bK (bV nd rfl (Or.inl rfl)) (bK (bV nd rfl (Or.inl rfl)) eM)))
   (aF (bQ (i:=4) nd rfl (Or.inl rfl) (aBj rfl B.tuple_ (aD9 rfl B.sorted_ (m_v 2))))
   (aU (aFm (i:=1) hu rfl (Or.inr (Or.inl rfl)) (m_v 4) (gI (aJ5 hu (m_v 1) (m_v 4) aT) (fQ (bJ iP hr rfl dW (aA (m_v 2) aH)) (m_v 3))))))))
  (aU (cM (jV rfl (cN (XN:=["terms","numbers","places","number","key"]) (N:=["key","numbers"]) (k:=1) (fs:=[1]) rfl rfl rfl (by decide +kernel)) (fU (aL5 rfl rfl B.sorted_ (m_v 1))) (fun _ _ _=>(bV (show (["key","numbers"]:List Str).Nodup by decide +kernel) rfl (Or.inl rfl))) (oI rfl) (fun _ _ _=>oC (lE hu (wG hu (m_v 1) (m_v 0)) aT) (jM (aA (m_v 0) (aA (wG hu (m_v 1) (m_v 0)) aH)))))))))
abbrev oO:Stmt:=top 22
theorem yH:FnScope ["some","many"] ["some","many"] (aY oO):=⟨rfl,rfl,rfl,by decide +kernel,rfl,by decide +kernel,by decide +kernel⟩
def aHc:FS :=
 (bD (aC eI [bW (dC (vE 0)) 2 [1] (.tp [.nm 0,.nm 1]) (bE (dO [vE 0,cC (vE 1) (vE 2)]))]))
def kX:Φ:=cW 2 2 aHc
theorem vY (B:Blt mg)(XT:XAll K mg T)(gZ:aO Pg w K mg base (CXM Pg w) k "summed" ["terms"] (spM K (clK K) eI))(F:cB K mg "taken" oO ["some","many"]):aO Pg w K mg base (CXM Pg w) (k+1) "taken" ["some","many"] (spM K (clK K) kX):=by
 have nd:=yH.nd;refine dQ F yH fun f cdv A outer s H E hr=>?_
 have hu:=hr.units;exact(aU (cM (bJ gZ hr rfl dW (aA (jV rfl (cN (XN:=["some","many"]) (N:=["places","number","many"]) (k:=2) (fs:=[1]) rfl rfl rfl (by decide +kernel)) (fU (m_v 0)) (fun _ _ _=>(jJ rfl (bK (bV (show (["places","number","many"]:List Str).Nodup by decide +kernel) rfl (Or.inl rfl)) (bK (bV (show (["places","number","many"]:List Str).Nodup by decide +kernel) rfl (Or.inl rfl)) eM)))) (oI rfl) (fun _ _ _=>zN (jM (aA (m_v 0) (aA (fQ (m_v 1) (m_v 2)) aH))))) aH))))
abbrev kW:Stmt:=top 23
theorem pY:FnScope ["one","other","terms","front","left"] ["one","other"] (aY kW):=⟨rfl,rfl,rfl,by decide +kernel,rfl,by decide +kernel,by decide +kernel⟩
def aDe:FS :=
 (aL (aR 2 (bZ []))
 (aL (cV (dC (vE 0)) (.tp [.nm 3,.nm 4])
  (wQ 2 (bW (dC (vE 1)) 2 [3,4] (.tp [.nm 0,.nm 1]) (bE (dO [jP (vE 2) (vE 0),cC (vE 3) (vE 1)])))))
 (bD (aC eI [vE 2]))))
def eA:Φ:=cW 2 5 aDe
theorem nL (B:Blt mg)(XT:XAll K mg T)(gZ:aO Pg w K mg base (CXM Pg w) k "summed" ["terms"] (spM K (clK K) eI))(F:cB K mg "product" kW ["one","other"]):aO Pg w K mg base (CXM Pg w) (k+1) "product" ["one","other"] (spM K (clK K) eA):=by
 have nd:=pY.nd;refine dQ F pY fun f cdv A outer s H E hr=>?_
 have hu:=hr.units
 exact(aF (bQ (i:=2) nd rfl (Or.inl rfl) (dR aH))
  (aF (gQ gL rfl (fU (m_v 0)) (jJ rfl (bK (bV nd rfl (Or.inr rfl)) (bK (bV nd rfl (Or.inr rfl)) eM)))
   (aU (aO4 (i:=2) rfl (Or.inl rfl) (jV rfl (cN (XN:=["one","other","terms","front","left"]) (N:=["back","right","front","left"]) (k:=2) (fs:=[3,4]) rfl rfl rfl (by decide +kernel)) (fU (m_v 1)) (fun _ _ _=>(jJ rfl (bK (bV (show (["back","right","front","left"]:List Str).Nodup by decide +kernel) rfl (Or.inl rfl)) (bK (bV (show (["back","right","front","left"]:List Str).Nodup by decide +kernel) rfl (Or.inl rfl)) eM)))) (oI rfl) (fun _ _ _=>zN (jM (aA (zY (m_v 2) (m_v 0)) (aA (fQ (m_v 3) (m_v 1)) aH))))))))
  (aU (cM (bJ gZ hr rfl dW (aA (m_v 2) aH))))))
abbrev kN:Stmt:=top 25
theorem qX:FnScope ["many","places"] ["many","places"] (aY kN):=⟨rfl,rfl,rfl,by decide +kernel,rfl,by decide +kernel,by decide +kernel⟩
def aCj:FS :=
 (bD (lV (bW (eJ (vE 0)) 1 [1] (.nm 0) (Mir.bIf (bT (inE true (vE 0) (vE 1))) (vE 0)))))
def iX:Φ:=cW 2 2 aCj
theorem nO (B:Blt mg)(XT:XAll K mg T)  (F:cB K mg "lacking" kN ["many","places"]):aO Pg w K mg base (CXM Pg w) (k+1) "lacking" ["many","places"] (spM K (clK K) iX):=by
 have nd:=qX.nd;refine dQ F qX fun f cdv A outer s H E hr=>?_
 have hu:=hr.units;exact(aU (cM (aBj rfl B.tuple_ (jV rfl (cN (XN:=["many","places"]) (N:=["way","places"]) (k:=1) (fs:=[1]) rfl rfl rfl (by decide +kernel)) (jC rfl B.range_ (m_v 0)) (fun _ _ _=>(bV (show (["way","places"]:List Str).Nodup by decide +kernel) rfl (Or.inl rfl))) (oI rfl) (fun _ _ _=>oC (aGl (m_v 0) (m_v 1)) (m_v 0))))))
abbrev fI:Stmt:=top 26
theorem jY:FnScope ["many","some","terms","places","number","others"] ["many","some"] (aY fI):=⟨rfl,rfl,rfl,by decide +kernel,rfl,by decide +kernel,by decide +kernel⟩
def rR:FS :=
 (aL (iD (aC cK [vE 0]))
 (aL (aR 2 (bZ []))
 (aL (cV (dC (vE 1)) (.tp [.nm 3,.nm 4])
  (aL (aR 5 (aC iX [vE 0,vE 3]))
  (jB 2 (dO [vE 5,cC (vE 4) (aC dZ [jP (vE 3) (vE 5)])]))))
 (bD (aC eI [vE 2])))))
def aG:Φ:=cW 2 6 rR
theorem bP (B:Blt mg)(XT:XAll K mg T)(iL:aO Pg w K mg base (CXM Pg w) k "check_count" ["many"] (spM K (clK K) cK))(nO:aO Pg w K mg base (CXM Pg w) k "lacking" ["many","places"] (spM K (clK K) iX))(iP:aO Pg w K mg base (CXM Pg w) k "turn_of" ["places"] (spM K (clK K) dZ))(gZ:aO Pg w K mg base (CXM Pg w) k "summed" ["terms"] (spM K (clK K) eI))(F:cB K mg "turned_over" fI ["many","some"]):aO Pg w K mg base (CXM Pg w) (k+1) "turned_over" ["many","some"] (spM K (clK K) aG):=by
 have nd:=jY.nd;refine dQ F jY fun f cdv A outer s H E hr=>?_
 have hu:=hr.units
 exact(aF (aAb (bJ iL hr rfl dW (aA (m_v 0) aH)))
  (aF (bQ (i:=2) nd rfl (Or.inl rfl) (dR aH))
  (aF (gQ gL rfl (fU (m_v 1)) (jJ rfl (bK (bV nd rfl (Or.inl rfl)) (bK (bV nd rfl (Or.inl rfl)) eM)))
   (aF (bQ (i:=5) nd rfl (Or.inl rfl) (bJ nO hr rfl dW (aA (m_v 0) (aA (m_v 3) aH))))
   (aU (sY (i:=2) rfl (Or.inl rfl) (jM (aA (m_v 5) (aA (fQ (m_v 4) (bJ iP hr rfl dW (aA (zY (m_v 3) (m_v 5)) aH))) aH)))))))
  (aU (cM (bJ gZ hr rfl dW (aA (m_v 2) aH)))))))
abbrev eS:Stmt:=top 28
theorem jN:FnScope ["many","some","told","size"] ["many","some"] (aY eS):=⟨rfl,rfl,rfl,by decide +kernel,rfl,by decide +kernel,by decide +kernel⟩
def qZ:FS :=
 (aL (aR 2 (aC aG [vE 0,vE 1]))
 (aL (ifS (eF (yQ (vE 1)))
  (bD (vE 2))
  cI)
 (aL (aR 3 (bY (aX (aX (vE 1) (cE (.int 0))) (cE (.int 0)))))
 (bD (aC kX [vE 2,eU (cE (.int 1)) (cC (cE (.int 2)) (dF (cC (vE 3) (eU (vE 0) (vE 3))) (cE (.int 2))))])))))
def cO:Φ:=cW 2 4 qZ
theorem gH (B:Blt mg)(XT:XAll K mg T)(bP:aO Pg w K mg base (CXM Pg w) k "turned_over" ["many","some"] (spM K (clK K) aG))(vY:aO Pg w K mg base (CXM Pg w) k "taken" ["some","many"] (spM K (clK K) kX))(F:cB K mg "turned_under" eS ["many","some"]):aO Pg w K mg base (CXM Pg w) (k+1) "turned_under" ["many","some"] (spM K (clK K) cO):=by
 have nd:=jN.nd;refine dQ F jN fun f cdv A outer s H E hr=>?_
 have hu:=hr.units
 exact(aF (bQ (i:=2) nd rfl (Or.inl rfl) (bJ bP hr rfl dW (aA (m_v 0) (aA (m_v 1) aH))))
  (aF (eQ (kE (aL3 (m_v 1)))
   (aU (cM (m_v 2)))
   dG)
  (aF (bQ (i:=3) nd rfl (Or.inl rfl) (jK rfl B.len_ (dN (dN (m_v 1) aT) aT)))
  (aU (cM (bJ vY hr rfl dW (aA (m_v 2) (aA (oA aT (fQ aT (kK (fQ (m_v 3) (oA (m_v 0) (m_v 3))) aT))) aH))))))))
abbrev kQ:Stmt:=top 29
theorem qC:FnScope ["many","one","other"] ["many","one","other"] (aY kQ):=⟨rfl,rfl,rfl,by decide +kernel,rfl,by decide +kernel,by decide +kernel⟩
def kR:FS :=
 (bD (aC cO [vE 0,aC eA [aC aG [vE 0,vE 1],aC aG [vE 0,vE 2]]]))
def bX:Φ:=cW 3 3 kR
theorem gE (B:Blt mg)(XT:XAll K mg T)(gH:aO Pg w K mg base (CXM Pg w) k "turned_under" ["many","some"] (spM K (clK K) cO))(nL:aO Pg w K mg base (CXM Pg w) k "product" ["one","other"] (spM K (clK K) eA))(bP:aO Pg w K mg base (CXM Pg w) k "turned_over" ["many","some"] (spM K (clK K) aG))(F:cB K mg "crossed" kQ ["many","one","other"]):aO Pg w K mg base (CXM Pg w) (k+1) "crossed" ["many","one","other"] (spM K (clK K) bX):=by
 have nd:=qC.nd;refine dQ F qC fun f cdv A outer s H E hr=>?_
 have hu:=hr.units;exact(aU (cM (bJ gH hr rfl dW (aA (m_v 0) (aA (bJ nL hr rfl dW (aA (bJ bP hr rfl dW (aA (m_v 0) (aA (m_v 1) aH))) (aA (bJ bP hr rfl dW (aA (m_v 0) (aA (m_v 2) aH))) aH))) aH)))))
abbrev fH:Stmt:=top 31
theorem kF:FnScope ["_law_caught","_law_some","_law_names","_law_found"] ["_law_caught"] (aY fH):=⟨rfl,rfl,rfl,by decide +kernel,rfl,by decide +kernel,by decide +kernel⟩
def rK:FS :=
 (aL (ifS (bT (aNa (vE 0)))
  (bD (bZ []))
  cI)
 (aL (aR 1 (bZ [kY (some .NotAlike) (vE 0),kY (some .BadCount) (vE 0),kY (some .BadRow) (vE 0)]))
 (aL (aR 1 (oJ (vE 1) (bZ [kY (some .OtherSpace) (vE 0),kY (some .BadSize) (vE 0),kY (some .BadPlaces) (vE 0)])))
 (aL (aR 1 (oJ (vE 1) (bZ [kY (some .ZeroSum) (vE 0),kY (some .BadTable) (vE 0),kY (some .NoLine) (vE 0)])))
 (aL (aR 1 (oJ (vE 1) (bZ [kY (some .BadName) (vE 0),kY (some .NoRow) (vE 0),kY (some .NoName) (vE 0)])))
 (aL (aR 1 (oJ (vE 1) (bZ [kY (some .BadRows) (vE 0),kY (some .NoBox) (vE 0)])))
 (aL (aR 2 (bZ [cE (.str "alike"),cE (.str "count"),cE (.str "row"),cE (.str "space"),cE (.str "size"),cE (.str "places"),cE (.str "zero"),cE (.str "table"),cE (.str "line"),cE (.str "name"),cE (.str "norow")]))
 (aL (aR 2 (oJ (vE 2) (bZ [cE (.str "noname"),cE (.str "rows"),cE (.str "box")])))
 (aL (aR 3 (bW (zF (vE 2) (vE 1)) 2 [] (.tp [.nm 0,.nm 1]) (Mir.bIf (bT (vE 1)) (vE 0))))
 (aL (ifS (bT (kY none (vE 0)))
  (bD (vE 3))
  cI)
 (bD (bZ [cE (.str "none")]))))))))))))
def dI:Φ:=cW 1 4 rK
theorem iK (B:Blt mg)(XT:XAll K mg T)  (F:cB K mg "_law_called" fH ["_law_caught"]):aO Pg w K mg base (CXM Pg w) (k+1) "_law_called" ["_law_caught"] (spM K (clK K) dI):=by
 have nd:=kF.nd;refine dQ F kF fun f cdv A outer s H E hr=>?_
 have hu:=hr.units;refine aF ?_ ?_
 · exact(eQ (aMb (m_v 0))
    (aU (cM (dR aH)))
    dG)
 refine aF ?_ ?_
 · exact(bQ (i:=1) nd rfl (Or.inl rfl) (dR (aA (gO (c:=some .NotAlike) XT.tab rfl B.isinstance_ (m_v 0) (dE rfl (XT.nm .NotAlike) rfl)) (aA (gO (c:=some .BadCount) XT.tab rfl B.isinstance_ (m_v 0) (dE rfl (XT.nm .BadCount) rfl)) (aA (gO (c:=some .BadRow) XT.tab rfl B.isinstance_ (m_v 0) (dE rfl (XT.nm .BadRow) rfl)) aH)))))
 refine aF ?_ ?_
 · exact(bQ (i:=1) nd rfl (Or.inl rfl) (sU (m_v 1) (dR (aA (gO (c:=some .OtherSpace) XT.tab rfl B.isinstance_ (m_v 0) (dE rfl (XT.nm .OtherSpace) rfl)) (aA (gO (c:=some .BadSize) XT.tab rfl B.isinstance_ (m_v 0) (dE rfl (XT.nm .BadSize) rfl)) (aA (gO (c:=some .BadPlaces) XT.tab rfl B.isinstance_ (m_v 0) (dE rfl (XT.nm .BadPlaces) rfl)) aH))))))
 refine aF ?_ ?_
 · exact(bQ (i:=1) nd rfl (Or.inl rfl) (sU (m_v 1) (dR (aA (gO (c:=some .ZeroSum) XT.tab rfl B.isinstance_ (m_v 0) (dE rfl (XT.nm .ZeroSum) rfl)) (aA (gO (c:=some .BadTable) XT.tab rfl B.isinstance_ (m_v 0) (dE rfl (XT.nm .BadTable) rfl)) (aA (gO (c:=some .NoLine) XT.tab rfl B.isinstance_ (m_v 0) (dE rfl (XT.nm .NoLine) rfl)) aH))))))
 refine aF ?_ ?_
 · exact(bQ (i:=1) nd rfl (Or.inl rfl) (sU (m_v 1) (dR (aA (gO (c:=some .BadName) XT.tab rfl B.isinstance_ (m_v 0) (dE rfl (XT.nm .BadName) rfl)) (aA (gO (c:=some .NoRow) XT.tab rfl B.isinstance_ (m_v 0) (dE rfl (XT.nm .NoRow) rfl)) (aA (gO (c:=some .NoName) XT.tab rfl B.isinstance_ (m_v 0) (dE rfl (XT.nm .NoName) rfl)) aH))))))
 refine aF ?_ ?_
 · exact(bQ (i:=1) nd rfl (Or.inl rfl) (sU (m_v 1) (dR (aA (gO (c:=some .BadRows) XT.tab rfl B.isinstance_ (m_v 0) (dE rfl (XT.nm .BadRows) rfl)) (aA (gO (c:=some .NoBox) XT.tab rfl B.isinstance_ (m_v 0) (dE rfl (XT.nm .NoBox) rfl)) aH)))))
 refine aF ?_ ?_
 · refine bQ (i:=2) ?a ?b ?c ?d ?e ?f
   case a=>exact nd
   case b=>exact rfl
   case c=>exact(Or.inl rfl)
   case d=>exact(dR (aA fB (aA fB (aA fB (aA fB (aA fB (aA fB (aA fB (aA fB (aA fB (aA fB (aA fB aH))))))))))))
   case e=>rfl
   case f=>first | exact .inl rfl | exact .inr rfl | assumption
 refine aF ?_ ?_
 · exact(bQ (i:=2) nd rfl (Or.inl rfl) (sU (m_v 2) (dR (aA fB (aA fB (aA fB aH))))))
 refine aF ?_ ?_
 · exact(aF5 (i:=3) rfl nd rfl rfl (cN (XN:=["_law_caught","_law_some","_law_names","_law_found"]) (N:=["_law_name","_law_truth"]) (k:=2) (fs:=[]) rfl rfl rfl (by decide +kernel)) (aF8 rfl rfl B.zip_ (m_v 2) (m_v 1)) (fun _ _ _=>(jJ rfl (bK (bV (show (["_law_name","_law_truth"]:List Str).Nodup by decide +kernel) rfl (Or.inl rfl)) (bK (bV (show (["_law_name","_law_truth"]:List Str).Nodup by decide +kernel) rfl (Or.inl rfl)) eM)))) (oI rfl) (fun _ _ _=>oC (gV (m_v 1)) (m_v 0)))
 refine aF ?_ ?_
 · exact(eQ (gV (gO (c:=none) XT.tab rfl B.isinstance_ (m_v 0) (gC (v:=.ty "ValueError") rfl B.ValueError_ (by decide +kernel) rfl)))
    (aU (cM (m_v 3)))
    dG)
 refine aU ?_
 exact(cM (dR (aA fB aH)))
abbrev iE:Stmt:=top 32
theorem mP:FnScope ["_law_script","_law_k"] ["_law_script","_law_k"] (aY iE):=⟨rfl,rfl,rfl,by decide +kernel,rfl,by decide +kernel,by decide +kernel⟩
def yC:FS :=
 (aL (ifS (bT (ltE (vE 1) (bY (vE 0))))
  (bD (dF (aX (vE 0) (vE 1)) (cE (.int 2147483647))))
  cI)
 (bD (cE (.int 0))))
def aN:Φ:=cW 2 2 yC
theorem dD (B:Blt mg)(XT:XAll K mg T)  (F:cB K mg "_law_cell" iE ["_law_script","_law_k"]):aO Pg w K mg base (CXM Pg w) (k+1) "_law_cell" ["_law_script","_law_k"] (spM K (clK K) aN):=by
 have nd:=mP.nd;refine dQ F mP fun f cdv A outer s H E hr=>?_
 have hu:=hr.units
 exact(aF (eQ (aA1 (m_v 1) (jK rfl B.len_ (m_v 0)))
  (aU (cM (kK (dN (m_v 0) (m_v 1)) aT)))
  dG)
  (aU (cM aT)))
abbrev eY:Stmt:=top 33
theorem jL:FnScope ["_law_script","_law_start","_law_many","_law_size","_law_found","_law_k","_law_raw","_law_number"] ["_law_script","_law_start","_law_many","_law_size"] (aY eY):=⟨rfl,rfl,rfl,by decide +kernel,rfl,by decide +kernel,by decide +kernel⟩
def qN:FS :=
 (aL (aR 4 (bZ []))
 (aL (cV (qO (vE 1) (cA (vE 1) (vE 2))) (.nm 5)
  (aL (aR 6 (cA (cC (vE 5) (vE 5)) (cC (cE (.int 3)) (vE 5))))
  (aL (ifS (bT (ltE (vE 5) (bY (vE 0))))
   (aR 6 (aX (vE 0) (vE 5)))
   cI)
  (aL (aR 7 (eU (dF (vE 6) (cA (cC (cE (.int 2)) (vE 3)) (cE (.int 1)))) (vE 3)))
  (aL (ifS (bT (eqE (dF (rY (vE 6) (cA (cC (cE (.int 2)) (vE 3)) (cE (.int 1)))) (cE (.int 3))) (cE (.int 0))))
   (aR 7 (cE (.int 0)))
   cI)
  (jB 4 (vE 7)))))))
 (bD (vE 4))))
def cP:Φ:=cW 4 8 qN
theorem gT (B:Blt mg)(XT:XAll K mg T)  (F:cB K mg "_law_numbers" eY ["_law_script","_law_start","_law_many","_law_size"]):aO Pg w K mg base (CXM Pg w) (k+1) "_law_numbers" ["_law_script","_law_start","_law_many","_law_size"] (spM K (clK K) cP):=by
 have nd:=jL.nd;refine dQ F jL fun f cdv A outer s H E hr=>?_
 have hu:=hr.units
 exact(aF (bQ (i:=4) nd rfl (Or.inl rfl) (dR aH))
  (aF (gQ gL rfl (aI6 rfl B.range_ (m_v 1) (gI (m_v 1) (m_v 2))) (bV nd rfl (Or.inl rfl))
   (aF (bQ (i:=6) nd rfl (Or.inl rfl) (gI (fQ (m_v 5) (m_v 5)) (fQ aT (m_v 5))))
   (aF (eQ (aA1 (m_v 5) (jK rfl B.len_ (m_v 0)))
    (aU (bQ (i:=6) nd rfl (Or.inl rfl) (dN (m_v 0) (m_v 5))))
    dG)
   (aF (bQ (i:=7) nd rfl (Or.inl rfl) (oA (kK (m_v 6) (gI (fQ aT (m_v 3)) aT)) (m_v 3)))
   (aF (eQ (wS hu (kK (aJ0 (m_v 6) (gI (fQ aT (m_v 3)) aT)) aT) aT)
    (aU (bQ (i:=7) nd rfl (Or.inl rfl) aT))
    dG)
   (aU (sY (i:=4) rfl (Or.inl rfl) (m_v 7))))))))
  (aU (cM (m_v 4)))))
abbrev eR:Stmt:=top 35
theorem jQ:FnScope ["_law_one","_law_other","_law_total","_law_left","_law_number","_law_right","_law_count","_law_places","_law_turns","_law_k","_law_rising"] ["_law_one","_law_other"] (aY eR):=⟨rfl,rfl,rfl,by decide +kernel,rfl,by decide +kernel,by decide +kernel⟩
def pL:FS :=
 (aL (aR 2 (pS))
 (aL (cV (dC (vE 0)) (.tp [.nm 3,.nm 4])
  (cV (dC (vE 1)) (.tp [.nm 5,.nm 6])
   (aL (aR 7 (oJ (jH (vE 3)) (jH (vE 5))))
   (ifS (bT (eqE (tY (vE 7)) (bY (vE 7))))
    (aL (aR 8 (cE (.int 0)))
    (aL (cV (eJ (bY (vE 7))) (.nm 9)
     (aR 8 (cA (vE 8) (bY (bW (dC (uM (vE 7) (noO) (soO (vE 9)))) 1 [7,9] (.nm 0) (Mir.bIf (bT (gtE (vE 0) (aX (vE 1) (vE 2)))) (vE 0)))))))
    (aL (aR 10 (lV (jR (vE 7))))
    (mB 2 (vE 10) (cA (oK (vE 2) (vE 10) (cE (.int 0))) (cC (cC (vE 4) (vE 6)) (eU (cE (.int 1)) (cC (cE (.int 2)) (dF (vE 8) (cE (.int 2)))))))))))
    cI))))
 (mO 7 (bD (lB (zP 2 1 (.nm 0) (Mir.bIf (bT (neE (eV (vE 1) (vE 0)) (cE (.int 0)))) (dO [vE 0,eV (vE 1) (vE 0)]))))))))
def bG:Φ:=cW 2 11 pL
theorem dU (B:Blt mg)(XT:XAll K mg T)  (F:cB K mg "_law_product" eR ["_law_one","_law_other"]):aO Pg w K mg base (CXM Pg w) (k+1) "_law_product" ["_law_one","_law_other"] (spM K (clK K) bG):=by
 have nd:=jQ.nd;refine dQ F jQ fun f cdv A outer s H E hr=>?_
 have hu:=hr.units
 exact(aF (bQ (i:=2) nd rfl (Or.inr rfl) aFo)
  (aF (gQ gL rfl (fU (m_v 0)) (jJ rfl (bK (bV nd rfl (Or.inl rfl)) (bK (bV nd rfl (Or.inl rfl)) eM)))
   (aU (gQ gL rfl (fU (m_v 1)) (jJ rfl (bK (bV nd rfl (Or.inl rfl)) (bK (bV nd rfl (Or.inl rfl)) eM)))
    (aF (bQ (i:=7) nd rfl (Or.inr rfl) (sU (aB0 rfl B.list_ (m_v 3)) (aB0 rfl B.list_ (m_v 5))))
    (aU (eQ (wS hu (aHp rfl rfl B.len_ rfl B.set_ (m_v 7)) (jK rfl B.len_ (m_v 7)))
     (aF (bQ (i:=8) nd rfl (Or.inl rfl) aT)
     (aF (gQ gL rfl (jC rfl B.range_ (jK rfl B.len_ (m_v 7))) (bV nd rfl (Or.inr rfl))
      (aU (bQ (i:=8) nd rfl (Or.inl rfl) (gI (m_v 8) (jK rfl B.len_ (jV rfl (cN (XN:=["_law_one","_law_other","_law_total","_law_left","_law_number","_law_right","_law_count","_law_places","_law_turns","_law_k","_law_rising"]) (N:=["_law_place","_law_places","_law_k"]) (k:=1) (fs:=[7,9]) rfl rfl rfl (by decide +kernel)) (fU (aN2 (m_v 7) aKe (aJ2 (m_v 9)))) (fun _ _ _=>(bV (show (["_law_place","_law_places","_law_k"]:List Str).Nodup by decide +kernel) rfl (Or.inl rfl))) (oI rfl) (fun _ _ _=>oC (xK (m_v 0) (dN (m_v 1) (m_v 2))) (m_v 0))))))))
     (aF (bQ (i:=10) nd rfl (Or.inl rfl) (aBj rfl B.tuple_ (aD9 rfl B.sorted_ (m_v 7))))
     (aU (aFm (i:=2) hu rfl (Or.inr (Or.inl rfl)) (m_v 10) (gI (aJ5 hu (m_v 2) (m_v 10) aT) (fQ (fQ (m_v 4) (m_v 6)) (oA aT (fQ aT (kK (m_v 8) aT))))))))))
     dG))))))
  (aU (wX (i:=7) (cM (aEl hu rfl B.sorted_ (aJt rfl (cN (XN:=["_law_one","_law_other","_law_total","_law_left","_law_number","_law_right","_law_count","_law_places","_law_turns","_law_k","_law_rising"]) (N:=["_law_places","_law_total"]) (k:=1) (fs:=[2]) rfl rfl rfl (by decide +kernel)) rfl (by first | exact Or.inl rfl | exact Or.inr (Or.inl rfl) | exact Or.inr (Or.inr rfl)) (fun _ _ _=>(bV (show (["_law_places","_law_total"]:List Str).Nodup by decide +kernel) rfl (Or.inl rfl))) (oI rfl) (fun _ _ _=>oC (lE hu (wG hu (m_v 1) (m_v 0)) aT) (jM (aA (m_v 0) (aA (wG hu (m_v 1) (m_v 0)) aH)))))))))))
abbrev eT:Stmt:=top 37
theorem jO:FnScope ["_law_ways","_law_size","_law_found","_law_k","_law_longer","_law_places","_law_way"] ["_law_ways","_law_size"] (aY eT):=⟨rfl,rfl,rfl,by decide +kernel,rfl,by decide +kernel,by decide +kernel⟩
def rB:FS :=
 (aL (aR 2 (bZ [dO []]))
 (aL (cV (eJ (vE 1)) (.nm 3)
  (aL (aR 4 (bZ []))
  (aL (mO 2 (cV (dC (vE 2)) (.nm 5)
   (cV (eJ (vE 0)) (.nm 6)
    (ifS (orT (bT (eqE (vE 5) (dO []))) (bT (gtE (vE 6) (aX (vE 5) (sA (cE (.int 1)))))))
     (jB 4 (jP (vE 5) (dO [vE 6])))
     cI))))
  (mO 4 (aR 2 (vE 4))))))
 (bD (vE 2))))
def cG:Φ:=cW 2 7 rB
theorem gU (B:Blt mg)(XT:XAll K mg T)  (F:cB K mg "_law_choices" eT ["_law_ways","_law_size"]):aO Pg w K mg base (CXM Pg w) (k+1) "_law_choices" ["_law_ways","_law_size"] (spM K (clK K) cG):=by
 have nd:=jO.nd;refine dQ F jO fun f cdv A outer s H E hr=>?_
 have hu:=hr.units
 exact(aF (bQ (i:=2) nd rfl (Or.inl rfl) (dR (aA (jM aH) aH)))
  (aF (gQ gL rfl (jC rfl B.range_ (m_v 1)) (bV nd rfl (Or.inl rfl))
   (aF (bQ (i:=4) nd rfl (Or.inl rfl) (dR aH))
   (aF (wX (i:=2) (gQ gL rfl (fU (m_v 2)) (bV nd rfl (Or.inl rfl))
    (aU (gQ gL rfl (jC rfl B.range_ (m_v 0)) (bV nd rfl (Or.inl rfl))
     (aU (eQ (PW.pt (iT (wS hu (m_v 5) (jM aH)) (jT (xK (m_v 6) (dN (m_v 5) (aE8 aT))))))
      (aU (sY (i:=4) rfl (Or.inl rfl) (zY (m_v 5) (jM (aA (m_v 6) aH)))))
      dG))))))
   (aU (wX (i:=4) (bQ (i:=2) nd rfl (Or.inl rfl) (m_v 4)))))))
  (aU (cM (m_v 2)))))
abbrev fK:Stmt:=top 40
theorem kM:FnScope ["_law_found","_law_ways","_law_size","_law_k","_law_places","_law_number","_law_ahead","_law_place"] ["_law_found","_law_ways","_law_size"] (aY fK):=⟨rfl,rfl,rfl,by decide +kernel,rfl,by decide +kernel,by decide +kernel⟩
def sL:FS :=
 (aL (ifS (eF (bT (eE .list (vE 0))))
  (bD (cE (.bl false)))
  cI)
 (aL (cV (eJ (bY (vE 0))) (.nm 3)
  (aL (ifS (orT (eF (bT (eE .tuple (aX (vE 0) (vE 3))))) (orT (bT (neE (bY (aX (vE 0) (vE 3))) (cE (.int 2)))) (eF (bT (eE .tuple (aX (aX (vE 0) (vE 3)) (cE (.int 0))))))))
   (bD (cE (.bl false)))
   cI)
  (aL (aCd (.tp [.nm 4,.nm 5]) (aX (vE 0) (vE 3)))
  (aL (ifS (orT (bT (neE (bY (vE 4)) (vE 2))) (orT (eF (bT (eE .int (vE 5)))) (orT (bT (eE .bool (vE 5))) (bT (eqE (vE 5) (cE (.int 0)))))))
   (bD (cE (.bl false)))
   cI)
  (aL (aR 6 (sA (cE (.int 1))))
  (aL (cV (lU (vE 4)) (.nm 7)
   (aL (ifS (orT (eF (bT (eE .int (vE 7)))) (orT (bT (eE .bool (vE 7))) (orT (bT (leE (vE 7) (vE 6))) (bT (geE (vE 7) (vE 1))))))
    (bD (cE (.bl false)))
    cI)
   (aR 6 (vE 7))))
  (ifS (wM (bT (gtE (vE 3) (cE (.int 0)))) (bT (zH (aX (aX (vE 0) (eU (vE 3) (cE (.int 1)))) (cE (.int 0))) (vE 4))))
   (bD (cE (.bl false)))
   cI)))))))
 (bD (cE (.bl true)))))
def cX:Φ:=cW 3 8 sL
theorem iJ (B:Blt mg)(XT:XAll K mg T)  (F:cB K mg "_law_is_sum" fK ["_law_found","_law_ways","_law_size"]):aO Pg w K mg base (CXM Pg w) (k+1) "_law_is_sum" ["_law_found","_law_ways","_law_size"] (spM K (clK K) cX):=by
 have nd:=kM.nd;refine dQ F kM fun f cdv A outer s H E hr=>?_
 have hu:=hr.units
 exact(aF (eQ (kE (gV (nX (t:=.list) rfl B.isinstance_ (m_v 0) (gC (v:=.ty "list") rfl B.list_ (by decide +kernel) rfl))))
  (aU (cM rV))
  dG)
  (aF (gQ gL rfl (jC rfl B.range_ (jK rfl B.len_ (m_v 0))) (bV nd rfl (Or.inl rfl))
   (aF (eQ (PW.pt (iT (kE (gV (nX (t:=.tuple) rfl B.isinstance_ (dN (m_v 0) (m_v 3)) (gC (v:=.ty "tuple") rfl B.tuple_ (by decide +kernel) rfl)))) (iT (lE hu (jK rfl B.len_ (dN (m_v 0) (m_v 3))) aT) (jT (kE (gV (nX (t:=.tuple) rfl B.isinstance_ (dN (dN (m_v 0) (m_v 3)) aT) (gC (v:=.ty "tuple") rfl B.tuple_ (by decide +kernel) rfl))))))))
    (aU (cM rV))
    dG)
   (aF (aLl (jJ rfl (bK (bV nd rfl (Or.inl rfl)) (bK (bV nd rfl (Or.inl rfl)) eM))) (dN (m_v 0) (m_v 3)))
   (aF (eQ (PW.pt (iT (lE hu (jK rfl B.len_ (m_v 4)) (m_v 2)) (iT (kE (gV (nX (t:=.int) rfl B.isinstance_ (m_v 5) (gC (v:=.ty "int") rfl B.int_ (by decide +kernel) rfl)))) (iT (gV (nX (t:=.bool) rfl B.isinstance_ (m_v 5) (gC (v:=.ty "bool") rfl B.bool_ (by decide +kernel) rfl))) (jT (wS hu (m_v 5) aT))))))
    (aU (cM rV))
    dG)
   (aF (bQ (i:=6) nd rfl (Or.inl rfl) (aE8 aT))
   (aF (gQ gL rfl (aEu (m_v 4)) (bV nd rfl (Or.inl rfl))
    (aF (eQ (PW.pt (iT (kE (gV (nX (t:=.int) rfl B.isinstance_ (m_v 7) (gC (v:=.ty "int") rfl B.int_ (by decide +kernel) rfl)))) (iT (gV (nX (t:=.bool) rfl B.isinstance_ (m_v 7) (gC (v:=.ty "bool") rfl B.bool_ (by decide +kernel) rfl))) (iT (aPe (m_v 7) (m_v 6)) (jT (aPm (m_v 7) (m_v 1)))))))
     (aU (cM rV))
     dG)
    (aU (bQ (i:=6) nd rfl (Or.inl rfl) (m_v 7)))))
   (aU (eQ (PW.pt (aK8 (xK (m_v 3) aT) (aJa (aLq hu (dN (dN (m_v 0) (oA (m_v 3) aT)) aT) (m_v 4)))))
    (aU (cM rV))
    dG))))))))
  (aU (cM rV))))
abbrev iA:Stmt:=top 41
theorem mQ:FnScope ["_law_ways","_law_some","_law_found","_law_places","_law_number","_law_rest"] ["_law_ways","_law_some"] (aY iA):=⟨rfl,rfl,rfl,by decide +kernel,rfl,by decide +kernel,by decide +kernel⟩
def wT:FS :=
 (aL (aR 2 (bZ []))
 (aL (mO 1 (cV (dC (vE 1)) (.tp [.nm 3,.nm 4])
  (aL (aR 5 (lV (bW (eJ (vE 0)) 1 [3] (.nm 0) (Mir.bIf (bT (inE true (vE 0) (vE 1))) (vE 0)))))
  (jB 2 (dO [vE 5,cC (vE 4) (aX (aX (aC bG [bZ [dO [vE 3,cE (.int 1)]],bZ [dO [vE 5,cE (.int 1)]]]) (cE (.int 0))) (cE (.int 1)))])))))
 (bD (lB (vE 2)))))
def bA:Φ:=cW 2 6 wT
theorem eP (B:Blt mg)(XT:XAll K mg T)(dU:aO Pg w K mg base (CXM Pg w) k "_law_product" ["_law_one","_law_other"] (spM K (clK K) bG))(F:cB K mg "_law_over" iA ["_law_ways","_law_some"]):aO Pg w K mg base (CXM Pg w) (k+1) "_law_over" ["_law_ways","_law_some"] (spM K (clK K) bA):=by
 have nd:=mQ.nd;refine dQ F mQ fun f cdv A outer s H E hr=>?_
 have hu:=hr.units
 exact(aF (bQ (i:=2) nd rfl (Or.inl rfl) (dR aH))
  (aF (wX (i:=1) (gQ gL rfl (fU (m_v 1)) (jJ rfl (bK (bV nd rfl (Or.inr rfl)) (bK (bV nd rfl (Or.inl rfl)) eM)))
   (aF (bQ (i:=5) nd rfl (Or.inl rfl) (aBj rfl B.tuple_ (jV rfl (cN (XN:=["_law_ways","_law_some","_law_found","_law_places","_law_number","_law_rest"]) (N:=["_law_way","_law_places"]) (k:=1) (fs:=[3]) rfl rfl rfl (by decide +kernel)) (jC rfl B.range_ (m_v 0)) (fun _ _ _=>(bV (show (["_law_way","_law_places"]:List Str).Nodup by decide +kernel) rfl (Or.inl rfl))) (oI rfl) (fun _ _ _=>oC (aGl (m_v 0) (m_v 1)) (m_v 0)))))
   (aU (sY (i:=2) rfl (Or.inl rfl) (jM (aA (m_v 5) (aA (fQ (m_v 4) (dN (dN (bJ dU hr rfl dW (aA (dR (aA (jM (aA (m_v 3) (aA aT aH))) aH)) (aA (dR (aA (jM (aA (m_v 5) (aA aT aH))) aH)) aH))) aT) aT)) aH))))))))
  (aU (cM (aEl hu rfl B.sorted_ (m_v 2))))))
abbrev gA:Stmt:=top 42
theorem lA:FnScope ["_law_which","_law_many","_law_some","_law_caught","e"] ["_law_which","_law_many","_law_some"] (aY gA):=⟨rfl,rfl,rfl,by decide +kernel,rfl,by decide +kernel,by decide +kernel⟩
def mR:FS :=
 (aL (aR 3 (cE .non))
 (aL (aGp 3 4
  (ifS (bT (eqE (vE 0) (cE (.int 0))))
   (iD (aC bX [vE 1,vE 2,vE 2]))
   (iD (aC aG [vE 1,vE 2]))))
 (bD (aC dI [vE 3]))))
def bU:Φ:=cW 3 5 mR
theorem gB (B:Blt mg)(XT:XAll K mg T)(gE:aO Pg w K mg base (CXM Pg w) k "crossed" ["many","one","other"] (spM K (clK K) bX))(bP:aO Pg w K mg base (CXM Pg w) k "turned_over" ["many","some"] (spM K (clK K) aG))(iK:aO Pg w K mg base (CXM Pg w) k "_law_called" ["_law_caught"] (spM K (clK K) dI))(F:cB K mg "_law_flags" gA ["_law_which","_law_many","_law_some"]):aO Pg w K mg base (CXM Pg w) (k+1) "_law_flags" ["_law_which","_law_many","_law_some"] (spM K (clK K) bU):=by
 have nd:=lA.nd;refine dQ F lA fun f cdv A outer s H E hr=>?_
 have hu:=hr.units
 exact(aF (bQ (i:=3) nd rfl (Or.inl rfl) aN3)
  (aF (aPz (i:=3) (k:=4) rfl rfl rfl XT.top rfl XT.flat nd rfl rfl (by decide) rfl rfl rfl fun pn xe P thT paT =>
   (aU (eQ (wS hu (m_v 0) aT)
    (aU (aAb (bJ gE hr rfl thT (aA (m_v 1) (aA (m_v 2) (aA (m_v 2) aH))))))
    (aU (aAb (bJ bP hr rfl thT (aA (m_v 1) (aA (m_v 2) aH))))))))
  (aU (cM (bJ iK hr rfl dW (aA (m_v 3) aH))))))
abbrev pM:Stmt:=top 43
theorem aDx:FnScope ["_law_script","_law_ways","_law_sums","_law_k","_law_menu","_law_numbers_here","_law_handed","_law_found","_law_size","_law_due","_law_kept","_law_far","_law_count"] ["_law_script"] (aY pM):=⟨rfl,rfl,rfl,by decide +kernel,rfl,by decide +kernel,by decide +kernel⟩
def aKl:FS :=
 (aL (aR 1 (cA (cE (.int 1)) (dF (aC aN [vE 0,cE (.int 0)]) (cE (.int 5)))))
 (aL (aR 2 (bZ []))
 (aL (cV (eJ (cE (.int 2))) (.nm 3)
  (aL (aR 4 (aC cG [vE 1,dF (aC aN [vE 0,cA (cE (.int 1)) (vE 3)]) (cA (vE 1) (cE (.int 1)))]))
  (aL (aR 5 (aC cP [vE 0,cA (cE (.int 3)) (cC (cE (.int 20)) (vE 3)),bY (vE 4),cE (.int 3)]))
  (jB 2 (bW (zF (vE 4) (vE 5)) 2 [] (.tp [.nm 0,.nm 1]) (Mir.bIf (bT (neE (vE 1) (cE (.int 0)))) (dO [vE 0,vE 1])))))))
 (aL (aR 6 (bW (dC (vE 2)) 1 [] (.nm 0) (bE (jH (vE 0)))))
 (aL (aR 7 (aC bX [vE 1,aX (vE 6) (cE (.int 0)),aX (vE 6) (cE (.int 1))]))
 (aL (ifS (orT (bT (neE (vE 6) (vE 2))) (eF (bT (eE .list (vE 7)))))
  (bD (cE (.bl false)))
  cI)
 (aL (aR 8 (eU (cA (dF (aC aN [vE 0,cE (.int 1)]) (cA (vE 1) (cE (.int 1)))) (dF (aC aN [vE 0,cE (.int 2)]) (cA (vE 1) (cE (.int 1))))) (vE 1)))
 (aL (ifS (eF (bT (aC cX [vE 7,vE 1,vE 8])))
  (bD (cE (.bl false)))
  cI)
 (aL (aR 9 (aC bG [aC bA [vE 1,aX (vE 2) (cE (.int 0))],aC bA [vE 1,aX (vE 2) (cE (.int 1))]]))
 (aL (ifS (orT (bT (neE (aC bA [vE 1,vE 7]) (vE 9))) (bT (neE (aC aG [vE 1,vE 7]) (vE 9))))
  (bD (cE (.bl false)))
  cI)
 (aL (aR 10 (jH (vE 7)))
 (aL (jB 7 (cE (.int 0)))
 (aL (aR 11 (cC (aC aN [vE 0,cE (.int 1)]) (aF1 (cE (.int 10)) (cE (.int 48)))))
 (aL (aR 12 (aX (bZ [cE (.int 0),cE (.int 6),eU (sA (cE (.int 1))) (vE 11),cA (cE (.int 6)) (vE 11)]) (dF (rY (aC aN [vE 0,cE (.int 0)]) (cE (.int 5))) (cE (.int 4)))))
 (aL (ifS (orT (bT (neE (aC bU [cE (.int 0),vE 12,bZ []]) (bZ [cE (.str "count")]))) (bT (neE (aC bU [cE (.int 1),vE 12,bZ []]) (bZ [cE (.str "count")]))))
  (bD (cE (.bl false)))
  cI)
 (bD (xJ (eqE (aC bX [vE 1,aX (vE 6) (cE (.int 0)),aX (vE 6) (cE (.int 1))]) (vE 10)) (eqE (aC aG [vE 1,aX (vE 6) (cE (.int 0))]) (aC bA [vE 1,aX (vE 2) (cE (.int 0))])))))))))))))))))))
def tL:Φ:=cW 1 13 aKl
theorem aOj (B:Blt mg)(XT:XAll K mg T)(dD:aO Pg w K mg base (CXM Pg w) k "_law_cell" ["_law_script","_law_k"] (spM K (clK K) aN))(gU:aO Pg w K mg base (CXM Pg w) k "_law_choices" ["_law_ways","_law_size"] (spM K (clK K) cG))(gT:aO Pg w K mg base (CXM Pg w) k "_law_numbers" ["_law_script","_law_start","_law_many","_law_size"] (spM K (clK K) cP))(gE:aO Pg w K mg base (CXM Pg w) k "crossed" ["many","one","other"] (spM K (clK K) bX))(iJ:aO Pg w K mg base (CXM Pg w) k "_law_is_sum" ["_law_found","_law_ways","_law_size"] (spM K (clK K) cX))(dU:aO Pg w K mg base (CXM Pg w) k "_law_product" ["_law_one","_law_other"] (spM K (clK K) bG))(eP:aO Pg w K mg base (CXM Pg w) k "_law_over" ["_law_ways","_law_some"] (spM K (clK K) bA))(bP:aO Pg w K mg base (CXM Pg w) k "turned_over" ["many","some"] (spM K (clK K) aG))(gB:aO Pg w K mg base (CXM Pg w) k "_law_flags" ["_law_which","_law_many","_law_some"] (spM K (clK K) bU)){fa:Addr}{fd:FuncData}(F:Fun K "law" "law" pM fa fd):FnOk Pg w K mg base (CXM Pg w) (k+1) fa fd ["_law_script"] (spM K (clK K) tL):=by
 have nd:=aDx.nd;refine aJ1 F aDx fun f cdv A outer s H E hr=>?_
 have hu:=hr.units
 exact(aF (bQ (i:=1) nd rfl (Or.inl rfl) (gI aT (kK (bJ dD hr rfl dW (aA (m_v 0) (aA aT aH))) aT)))
  (aF (bQ (i:=2) nd rfl (Or.inl rfl) (dR aH))
  (aF (gQ gL rfl (jC rfl B.range_ aT) (bV nd rfl (Or.inl rfl))
   (aF (bQ (i:=4) nd rfl (Or.inl rfl) (bJ gU hr rfl dW (aA (m_v 1) (aA (kK (bJ dD hr rfl dW (aA (m_v 0) (aA (gI aT (m_v 3)) aH))) (gI (m_v 1) aT)) aH))))
   (aF (bQ (i:=5) nd rfl (Or.inl rfl) (bJ gT hr rfl dW (aA (m_v 0) (aA (gI aT (fQ aT (m_v 3))) (aA (jK rfl B.len_ (m_v 4)) (aA aT aH))))))
   (aU (sY (i:=2) rfl (Or.inl rfl) (jV rfl (cN (XN:=["_law_script","_law_ways","_law_sums","_law_k","_law_menu","_law_numbers_here","_law_handed","_law_found","_law_size","_law_due","_law_kept","_law_far","_law_count"]) (N:=["_law_places","_law_number"]) (k:=2) (fs:=[]) rfl rfl rfl (by decide +kernel)) (aF8 rfl rfl B.zip_ (m_v 4) (m_v 5)) (fun _ _ _=>(jJ rfl (bK (bV (show (["_law_places","_law_number"]:List Str).Nodup by decide +kernel) rfl (Or.inl rfl)) (bK (bV (show (["_law_places","_law_number"]:List Str).Nodup by decide +kernel) rfl (Or.inl rfl)) eM)))) (oI rfl) (fun _ _ _=>oC (lE hu (m_v 1) aT) (jM (aA (m_v 0) (aA (m_v 1) aH))))))))))
  (aF (aF5 (i:=6) rfl nd rfl rfl (cN (XN:=["_law_script","_law_ways","_law_sums","_law_k","_law_menu","_law_numbers_here","_law_handed","_law_found","_law_size","_law_due","_law_kept","_law_far","_law_count"]) (N:=["_law_some"]) (k:=1) (fs:=[]) rfl rfl rfl (by decide +kernel)) (fU (m_v 2)) (fun _ _ _=>(bV (show (["_law_some"]:List Str).Nodup by decide +kernel) rfl (Or.inl rfl))) (oI rfl) (fun _ _ _=>zN (aB0 rfl B.list_ (m_v 0))))
  (aF (bQ (i:=7) nd rfl (Or.inl rfl) (bJ gE hr rfl dW (aA (m_v 1) (aA (dN (m_v 6) aT) (aA (dN (m_v 6) aT) aH)))))
  (aF (eQ (PW.pt (iT (lE hu (m_v 6) (m_v 2)) (jT (kE (gV (nX (t:=.list) rfl B.isinstance_ (m_v 7) (gC (v:=.ty "list") rfl B.list_ (by decide +kernel) rfl)))))))
   (aU (cM rV))
   dG)
  (aF (bQ (i:=8) nd rfl (Or.inl rfl) (oA (gI (kK (bJ dD hr rfl dW (aA (m_v 0) (aA aT aH))) (gI (m_v 1) aT)) (kK (bJ dD hr rfl dW (aA (m_v 0) (aA aT aH))) (gI (m_v 1) aT))) (m_v 1)))
  (aF (eQ (kE (gV (bJ iJ hr rfl dW (aA (m_v 7) (aA (m_v 1) (aA (m_v 8) aH))))))
   (aU (cM rV))
   dG)
  (aF (bQ (i:=9) nd rfl (Or.inl rfl) (bJ dU hr rfl dW (aA (bJ eP hr rfl dW (aA (m_v 1) (aA (dN (m_v 2) aT) aH))) (aA (bJ eP hr rfl dW (aA (m_v 1) (aA (dN (m_v 2) aT) aH))) aH))))
  (aF (eQ (PW.pt (iT (lE hu (bJ eP hr rfl dW (aA (m_v 1) (aA (m_v 7) aH))) (m_v 9)) (jT (lE hu (bJ bP hr rfl dW (aA (m_v 1) (aA (m_v 7) aH))) (m_v 9)))))
   (aU (cM rV))
   dG)
  (aF (bQ (i:=10) nd rfl (Or.inl rfl) (aB0 rfl B.list_ (m_v 7)))
  (aF (sY (i:=7) rfl (Or.inl rfl) aT)
  (aF (bQ (i:=11) nd rfl (Or.inl rfl) (fQ (bJ dD hr rfl dW (aA (m_v 0) (aA aT aH))) (aPu aT aT)))
  (aF (bQ (i:=12) nd rfl (Or.inl rfl) (dN (dR (aA aT (aA aT (aA (oA (aE8 aT) (m_v 11)) (aA (gI aT (m_v 11)) aH))))) (kK (aJ0 (bJ dD hr rfl dW (aA (m_v 0) (aA aT aH))) aT) aT)))
  (aF (eQ (PW.pt (iT (lE hu (bJ gB hr rfl dW (aA aT (aA (m_v 12) (aA (dR aH) aH)))) (dR (aA fB aH))) (jT (lE hu (bJ gB hr rfl dW (aA aT (aA (m_v 12) (aA (dR aH) aH)))) (dR (aA fB aH))))))
   (aU (cM rV))
   dG)
  (aU (cM (aOx (aO3 hu (bJ gE hr rfl dW (aA (m_v 1) (aA (dN (m_v 6) aT) (aA (dN (m_v 6) aT) aH)))) (m_v 10)) (aO6 (aO3 hu (bJ bP hr rfl dW (aA (m_v 1) (aA (dN (m_v 6) aT) aH))) (bJ eP hr rfl dW (aA (m_v 1) (aA (dN (m_v 2) aT) aH)))))))))))))))))))))))
end
theorem all_mk {l:PySem.W.OpenLaw}{w:World}{K:PySem.W.Frag}{h:Heap}{mg:Str->Option Value}{fa T:Addr}(X:K.In h)(G:h.Ns mainGlobals mg)(hfa:mg "law" = some (.ref fa))(XT:XAll K mg T)
 {f0:Addr} {oc0 kV0 dc0 pm0 cd0 ct0:Value} {od0 an0:Option Addr} {sl0:Array (Option Value)} (a0:At K "check_count" fM f0 oc0 kV0 dc0 pm0 cd0 ct0 od0 an0 sl0)
 {f1:Addr} {oc1 kV1 dc1 pm1 cd1 ct1:Value} {od1 an1:Option Addr} {sl1:Array (Option Value)} (a1:At K "turn_of" kP f1 oc1 kV1 dc1 pm1 cd1 ct1 od1 an1 sl1)
 {f2:Addr} {oc2 kV2 dc2 pm2 cd2 ct2:Value} {od2 an2:Option Addr} {sl2:Array (Option Value)} (a2:At K "summed" mE f2 oc2 kV2 dc2 pm2 cd2 ct2 od2 an2 sl2)
 {f3:Addr} {oc3 kV3 dc3 pm3 cd3 ct3:Value} {od3 an3:Option Addr} {sl3:Array (Option Value)} (a3:At K "taken" oO f3 oc3 kV3 dc3 pm3 cd3 ct3 od3 an3 sl3)
 {f4:Addr} {oc4 kV4 dc4 pm4 cd4 ct4:Value} {od4 an4:Option Addr} {sl4:Array (Option Value)} (a4:At K "product" kW f4 oc4 kV4 dc4 pm4 cd4 ct4 od4 an4 sl4)
 {f5:Addr} {oc5 kV5 dc5 pm5 cd5 ct5:Value} {od5 an5:Option Addr} {sl5:Array (Option Value)} (a5:At K "lacking" kN f5 oc5 kV5 dc5 pm5 cd5 ct5 od5 an5 sl5)
 {f6:Addr} {oc6 kV6 dc6 pm6 cd6 ct6:Value} {od6 an6:Option Addr} {sl6:Array (Option Value)} (a6:At K "turned_over" fI f6 oc6 kV6 dc6 pm6 cd6 ct6 od6 an6 sl6)
 {f7:Addr} {oc7 kV7 dc7 pm7 cd7 ct7:Value} {od7 an7:Option Addr} {sl7:Array (Option Value)} (a7:At K "turned_under" eS f7 oc7 kV7 dc7 pm7 cd7 ct7 od7 an7 sl7)
 {f8:Addr} {oc8 kV8 dc8 pm8 cd8 ct8:Value} {od8 an8:Option Addr} {sl8:Array (Option Value)} (a8:At K "crossed" kQ f8 oc8 kV8 dc8 pm8 cd8 ct8 od8 an8 sl8)
 {f9:Addr} {oc9 kV9 dc9 pm9 cd9 ct9:Value} {od9 an9:Option Addr} {sl9:Array (Option Value)} (a9:At K "_law_called" fH f9 oc9 kV9 dc9 pm9 cd9 ct9 od9 an9 sl9)
 {f10:Addr} {oc10 kV10 dc10 pm10 cd10 ct10:Value} {od10 an10:Option Addr} {sl10:Array (Option Value)} (a10:At K "_law_cell" iE f10 oc10 kV10 dc10 pm10 cd10 ct10 od10 an10 sl10)
 {f11:Addr} {oc11 kV11 dc11 pm11 cd11 ct11:Value} {od11 an11:Option Addr} {sl11:Array (Option Value)} (a11:At K "_law_numbers" eY f11 oc11 kV11 dc11 pm11 cd11 ct11 od11 an11 sl11)
 {f12:Addr} {oc12 kV12 dc12 pm12 cd12 ct12:Value} {od12 an12:Option Addr} {sl12:Array (Option Value)} (a12:At K "_law_product" eR f12 oc12 kV12 dc12 pm12 cd12 ct12 od12 an12 sl12)
 {f13:Addr} {oc13 kV13 dc13 pm13 cd13 ct13:Value} {od13 an13:Option Addr} {sl13:Array (Option Value)} (a13:At K "_law_choices" eT f13 oc13 kV13 dc13 pm13 cd13 ct13 od13 an13 sl13)
 {f14:Addr} {oc14 kV14 dc14 pm14 cd14 ct14:Value} {od14 an14:Option Addr} {sl14:Array (Option Value)} (a14:At K "_law_is_sum" fK f14 oc14 kV14 dc14 pm14 cd14 ct14 od14 an14 sl14)
 {f15:Addr} {oc15 kV15 dc15 pm15 cd15 ct15:Value} {od15 an15:Option Addr} {sl15:Array (Option Value)} (a15:At K "_law_over" iA f15 oc15 kV15 dc15 pm15 cd15 ct15 od15 an15 sl15)
 {f16:Addr} {oc16 kV16 dc16 pm16 cd16 ct16:Value} {od16 an16:Option Addr} {sl16:Array (Option Value)} (a16:At K "_law_flags" gA f16 oc16 kV16 dc16 pm16 cd16 ct16 od16 an16 sl16)
 {f17:Addr} {oc17 kV17 dc17 pm17 cd17 ct17:Value} {od17 an17:Option Addr} {sl17:Array (Option Value)} (a17:At K "law" pM f17 oc17 kV17 dc17 pm17 cd17 ct17 od17 an17 sl17)
 (z_len:Be K mainGlobals "len" = some none)
 (z_set:Be K mainGlobals "set" = some none)
 (z_enumerate:Be K mainGlobals "enumerate" = some none)
 (z_sorted:Be K mainGlobals "sorted" = some none)
 (z_tuple:Be K mainGlobals "tuple" = some none)
 (z_range:Be K mainGlobals "range" = some none)
 (z_isinstance:Be K mainGlobals "isinstance" = some none)
 (z_zip:Be K mainGlobals "zip" = some none)
 (z_ValueError:Be K mainGlobals "ValueError" = some none)
 (z_list:Be K mainGlobals "list" = some none)
 (z_bool:Be K mainGlobals "bool" = some none)
 (z_int:Be K mainGlobals "int" = some none)
 {t_MOST_WAYS:Tok} (g_MOST_WAYS:Be K mainGlobals "MOST_WAYS" = some (some (.int 5 t_MOST_WAYS)))
:∃ fd:FuncData,(∀ (s:Shared) (v:Value),BindsTo s fd ⟨[v],[]⟩ [("_law_script",v)])/\∀ base:Heap,K.In base->base.Ns mainGlobals mg->FnOk l.prog w K mg base (CXM l.prog w) 7 fa fd ["_law_script"] (spM K (clK K) tL):=by
 have B:Blt mg:=⟨Bj X G z_len,Bj X G z_set,Bj X G z_enumerate,Bj X G z_sorted,Bj X G z_tuple,Bj X G z_range,Bj X G z_isinstance,Bj X G z_zip,Bj X G z_ValueError,Bj X G z_list,Bj X G z_bool,Bj X G z_int,⟨_,Em X G g_MOST_WAYS⟩⟩;have rW:cB K mg "check_count" fM ["many"]:=cF X G a0.ns a0.lk a0.cd a0.kp fun _ _ _ _ _ _ us hl=>match us,hl with | [_],_=>rfl
 have aCr:cB K mg "turn_of" kP ["places"]:=cF X G a1.ns a1.lk a1.cd a1.kp fun _ _ _ _ _ _ us hl=>match us,hl with | [_],_=>rfl
 have mW:cB K mg "summed" mE ["terms"]:=cF X G a2.ns a2.lk a2.cd a2.kp fun _ _ _ _ _ _ us hl=>match us,hl with | [_],_=>rfl
 have aGx:cB K mg "taken" oO ["some","many"]:=cF X G a3.ns a3.lk a3.cd a3.kp fun _ _ _ _ _ _ us hl=>match us,hl with | [_,_],_=>rfl
 have aC9:cB K mg "product" kW ["one","other"]:=cF X G a4.ns a4.lk a4.cd a4.kp fun _ _ _ _ _ _ us hl=>match us,hl with | [_,_],_=>rfl
 have aDl:cB K mg "lacking" kN ["many","places"]:=cF X G a5.ns a5.lk a5.cd a5.kp fun _ _ _ _ _ _ us hl=>match us,hl with | [_,_],_=>rfl
 have sE:cB K mg "turned_over" fI ["many","some"]:=cF X G a6.ns a6.lk a6.cd a6.kp fun _ _ _ _ _ _ us hl=>match us,hl with | [_,_],_=>rfl
 have rJ:cB K mg "turned_under" eS ["many","some"]:=cF X G a7.ns a7.lk a7.cd a7.kp fun _ _ _ _ _ _ us hl=>match us,hl with | [_,_],_=>rfl
 have aCx:cB K mg "crossed" kQ ["many","one","other"]:=cF X G a8.ns a8.lk a8.cd a8.kp fun _ _ _ _ _ _ us hl=>match us,hl with | [_,_,_],_=>rfl
 have rO:cB K mg "_law_called" fH ["_law_caught"]:=cF X G a9.ns a9.lk a9.cd a9.kp fun _ _ _ _ _ _ us hl=>match us,hl with | [_],_=>rfl
 have xB:cB K mg "_law_cell" iE ["_law_script","_law_k"]:=cF X G a10.ns a10.lk a10.cd a10.kp fun _ _ _ _ _ _ us hl=>match us,hl with | [_,_],_=>rfl
 have pW:cB K mg "_law_numbers" eY ["_law_script","_law_start","_law_many","_law_size"]:=cF X G a11.ns a11.lk a11.cd a11.kp fun _ _ _ _ _ _ us hl=>match us,hl with | [_,_,_,_],_=>rfl
 have pG:cB K mg "_law_product" eR ["_law_one","_law_other"]:=cF X G a12.ns a12.lk a12.cd a12.kp fun _ _ _ _ _ _ us hl=>match us,hl with | [_,_],_=>rfl
 have qT:cB K mg "_law_choices" eT ["_law_ways","_law_size"]:=cF X G a13.ns a13.lk a13.cd a13.kp fun _ _ _ _ _ _ us hl=>match us,hl with | [_,_],_=>rfl
 have rP:cB K mg "_law_is_sum" fK ["_law_found","_law_ways","_law_size"]:=cF X G a14.ns a14.lk a14.cd a14.kp fun _ _ _ _ _ _ us hl=>match us,hl with | [_,_,_],_=>rfl
 have xO:cB K mg "_law_over" iA ["_law_ways","_law_some"]:=cF X G a15.ns a15.lk a15.cd a15.kp fun _ _ _ _ _ _ us hl=>match us,hl with | [_,_],_=>rfl
 have vG:cB K mg "_law_flags" gA ["_law_which","_law_many","_law_some"]:=cF X G a16.ns a16.lk a16.cd a16.kp fun _ _ _ _ _ _ us hl=>match us,hl with | [_,_,_],_=>rfl
 have e:=hfa.symm.trans (Em X G a17.ns);cases e;refine⟨Cs "law" "law" (hJ pM) (fO pM) (aY pM) .none kV17 dc17 pm17 an17 cd17 ct17,fun s v=>.of_eq rfl,fun base _ _=>?_⟩
 have sD:L2.aO l.prog w K mg base (CXM l.prog w) 1 "check_count" ["many"] (spM K (clK K) cK):=iL (k:=0) B XT  rW;have uA:L2.aO l.prog w K mg base (CXM l.prog w) 1 "turn_of" ["places"] (spM K (clK K) dZ):=iP (k:=0) B XT  aCr;have qJ:L2.aO l.prog w K mg base (CXM l.prog w) 2 "summed" ["terms"] (spM K (clK K) eI):=gZ (k:=1) B XT (uA.mono (by decide)) mW
 have aIu:L2.aO l.prog w K mg base (CXM l.prog w) 3 "taken" ["some","many"] (spM K (clK K) kX):=vY (k:=2) B XT (qJ.mono (by decide)) aGx
 have aCe:L2.aO l.prog w K mg base (CXM l.prog w) 3 "product" ["one","other"] (spM K (clK K) eA):=nL (k:=2) B XT (qJ.mono (by decide)) aC9
 have aB9:L2.aO l.prog w K mg base (CXM l.prog w) 1 "lacking" ["many","places"] (spM K (clK K) iX):=nO (k:=0) B XT  aDl;have fL:L2.aO l.prog w K mg base (CXM l.prog w) 3 "turned_over" ["many","some"] (spM K (clK K) aG):=bP (k:=2) B XT (sD.mono (by decide)) (aB9.mono (by decide)) (uA.mono (by decide)) (qJ.mono (by decide)) sE
 have rC:L2.aO l.prog w K mg base (CXM l.prog w) 4 "turned_under" ["many","some"] (spM K (clK K) cO):=gH (k:=3) B XT (fL.mono (by decide)) (aIu.mono (by decide)) rJ
 have sN:L2.aO l.prog w K mg base (CXM l.prog w) 5 "crossed" ["many","one","other"] (spM K (clK K) bX):=gE (k:=4) B XT (rC.mono (by decide)) (aCe.mono (by decide)) (fL.mono (by decide)) aCx
 have rZ:L2.aO l.prog w K mg base (CXM l.prog w) 1 "_law_called" ["_law_caught"] (spM K (clK K) dI):=iK (k:=0) B XT  rO;have xX:L2.aO l.prog w K mg base (CXM l.prog w) 1 "_law_cell" ["_law_script","_law_k"] (spM K (clK K) aN):=dD (k:=0) B XT  xB;have pO:L2.aO l.prog w K mg base (CXM l.prog w) 1 "_law_numbers" ["_law_script","_law_start","_law_many","_law_size"] (spM K (clK K) cP):=gT (k:=0) B XT  pW;have kI:L2.aO l.prog w K mg base (CXM l.prog w) 1 "_law_product" ["_law_one","_law_other"] (spM K (clK K) bG):=dU (k:=0) B XT  pG;have qI:L2.aO l.prog w K mg base (CXM l.prog w) 1 "_law_choices" ["_law_ways","_law_size"] (spM K (clK K) cG):=gU (k:=0) B XT  qT
 have sM:L2.aO l.prog w K mg base (CXM l.prog w) 1 "_law_is_sum" ["_law_found","_law_ways","_law_size"] (spM K (clK K) cX):=iJ (k:=0) B XT  rP;have zB:L2.aO l.prog w K mg base (CXM l.prog w) 2 "_law_over" ["_law_ways","_law_some"] (spM K (clK K) bA):=eP (k:=1) B XT (kI.mono (by decide)) xO
 have uI:L2.aO l.prog w K mg base (CXM l.prog w) 6 "_law_flags" ["_law_which","_law_many","_law_some"] (spM K (clK K) bU):=gB (k:=5) B XT (sN.mono (by decide)) (fL.mono (by decide)) (rZ.mono (by decide)) vG
 exact aOj (k:=6) B XT (xX.mono (by decide)) (qI.mono (by decide)) (pO.mono (by decide)) (sN.mono (by decide)) (sM.mono (by decide)) (kI.mono (by decide)) (zB.mono (by decide)) (fL.mono (by decide)) (uI.mono (by decide)) (aEv (st:=pM) a17.lk a17.cd a17.kp)
theorem walk {l:PySem.W.OpenLaw}{q:Program}{loose:List Str}{XP:(Str->Option Value)->Heap->Prop}{YP:World->Heap->Prop}{d:DefRec}{K:Params->PySem.W.Frag}(hn:l.most=some 63)(hdf:d.params.defaults=[])(hw:∀ ns:List Int,ns.length<=63->tL [.lst (ns.map .int)]=.ok (sc (.bl true)))
 (hY:∀ (w:World) (h:Heap),YP w h->(K w.params).In h) (hL:∀ P:Params,noL (K P)=true)
 (F:∀ (w:World) (mg:Str->Option Value) (fa:Addr) (h:Heap),(K w.params).In h->h.Ns mainGlobals mg->mg d.name=some (.ref fa) ->
  ∃ fd:FuncData,(∀ (s:Shared) (u:Value),BindsTo s fd ⟨[u],[]⟩ [("_law_script",u)])/\∀ base:Heap,(K w.params).In base->base.Ns mainGlobals mg->FnOk l.prog w (K w.params) mg base (CXM l.prog w) 7 fa fd ["_law_script"] (spM (K w.params) (clK (K w.params)) tL)) :
 PySem.W.WalkO q loose XP YP l.row.toRowW d [] (fun f vs=>PySem.call f vs) :=
 L2.aJk (n:=63) (k:=7) (x:="_law_script") (CX:=fun w=>CXM l.prog w) (sp:=fun w=>spM (K w.params) (clK (K w.params)) tL) hn (by decide) hdf ⟨rfl,by decide,by decide⟩ hY F (fun w _ _ ns hl _ hS=>aMx (hL w.params) (hw ns hl) hS) fun _ _ _ _ _ ⟨_,_,_,_,_,z⟩=>z
end N66
namespace Mir
open PySem L2
theorem aBz {M:Nat}(hM:M<2^1000){x:Int}(h:x.natAbs<=M):x.natAbs<2^1000:=Cf h hM
theorem yW {α:Type}{xs:List α}{k:Nat}{d:α}(h:k<xs.length):xs.getD k d∈xs:=by
 rw[Au,Ao h];exact List.getElem_mem h
theorem uO {r:List Int}{w:Nat}(h:w<r.length):(li r)[w]?=some (.int (r.getD w 0)):=by
 simp[li,h,Au]
theorem mD {i j:Int}(h:0<j):CP i j=true:=decide_eq_true h
theorem aJ3 {i j:Int}(h:0<j)(h2:j.natAbs<2^250):CD i j=true:=by
 have:j.natAbs.log2<9000:=by
  by_cases z:j.natAbs=0
  · rw[z];decide
  · exact Nat.lt_trans ((Nat.log2_lt z).mpr h2) (by decide)
 unfold CD;rw[decide_eq_true h,decide_eq_true this];rfl
theorem aE7 {i:Nat}{s:FS}{ρ:Mir.Env}{e:Res}(h:ρ[i]?=some (some e)):mO i s ρ=s (ρ.set i (some ⟨.shr,e.fr,e.d⟩)):=by simp only[mO,frz,h]
end Mir
namespace Sm
open Srt
abbrev Tm:=List Int×Int
def look (A:List Tm)(k:List Int):Int:=match A with
 | []=>0
 | p :: r=>if p.1=k then p.2 else look r k
def put (A:List Tm)(k:List Int)(v:Int):List Tm:=if k∈A.map (·.1) then A.map fun p=>if p.1=k then (p.1,v) else p else A++[(k,v)]
theorem nE (A:List Tm)(k:List Int)(v:Int):(put A k v).map (·.1)=if k∈A.map (·.1) then A.map (·.1) else A.map (·.1)++[k]:=by
 unfold put;split
 · rw[Bm]
   apply Dg
   intro p _;show (if p.1=k then (p.1,v) else p).1=p.1
   split<;>rfl
 · simp
theorem sT {A:List Tm}{k:List Int}{v:Int}(h:(A.map (·.1)).Nodup):((put A k v).map (·.1)).Nodup:=by
 rw[nE];split
 · exact h
 · rename_i n
   rw[Da];refine⟨h,by simp,fun a ha b hb=>?_⟩
   have:b=k:=by simpa using hb
   subst this;exact fun z=>n (z▸ha)
theorem vH (A:List Tm)(k:List Int)(v:Int):(put A k v).length<=A.length+1:=by
 have:=congrArg Ep (nE A k v)
 simp only[Ab]at this;rw[this];split<;>simp
theorem aH4 {A:List Tm}{k:List Int}{v:Int}{p:Tm}(h:p∈put A k v):p∈A\/p=(k,v):=by
 unfold put at h;split at h
 · obtain⟨q,hq,e⟩:=(Ar.mp h)
   by_cases z:q.1=k
   · rw[if_pos z]at e;right;rw[←e,z]
   · rw[if_neg z]at e;left;rw[←e];exact hq
 · rcases Bg.mp h with z | z
   · exact .inl z
   · right;simpa using z
theorem mZ {A:List Tm}(h:(A.map (·.1)).Nodup):∀ {p:Tm},p∈A->look A p.1=p.2:=by
 induction A with
 | nil=>intro p hp;cases hp
 | cons q r ih =>
  intro p hp;obtain⟨h1,h2⟩:=Ca.mp (by simpa using h:(q.1 :: r.map (·.1)).Nodup)
  rcases Ai.mp hp with e | e
  · subst e;simp[look]
  · have:q.1≠p.1:=fun z=>h1 (z▸List.mem_map_of_mem e)
    simp only[look,if_neg this];exact ih h2 e
theorem gF {A:List Tm}{k:List Int}(h:k∉A.map (·.1)):look A k=0:=by
 induction A with
 | nil=>rfl
 | cons q r ih =>
  have h':k≠q.1/\k∉r.map (·.1):=by simpa using h
  simp only[look,if_neg (Ne.symm h'.1)];exact ih h'.2
def aKz (A:List Tm):List Tm:=((srt lx (A.map (·.1))).filter fun k=>look A k != 0).map fun k=>(k,look A k)
def yN (A:List Tm):List Tm:=srt px (A.filter fun p=>p.2 != 0)
theorem aMf {A:List Tm}(h:(A.map (·.1)).Nodup):aKz A=yN A:=by
 unfold aKz yN;refine eW jG ?_ ?_
 · have e:A.filter (fun p=>p.2 != 0)=((A.map (·.1)).filter fun k=>look A k != 0).map fun k=>(k,look A k):=by
    rw[List.filter_map,Bm]
    have e1:A.filter (fun p=>p.2 != 0)=A.filter ((fun k=>look A k != 0)∘fun x=>x.1):=by
     apply List.filter_congr
     intro p hp;show (p.2 != 0)=(look A p.1 != 0)
     rw[mZ h hp]
    rw[e1]
    have e2:∀ p∈A.filter ((fun k=>look A k != 0)∘fun x=>x.1),((fun k=>(k,look A k))∘fun x:Tm=>x.1) p=p:=fun p hp=>by
     show (p.1,look A p.1)=p
     rw[mZ h (Cr.mp hp).1]
    exact((Dg e2).trans (List.map_id' _)).symm
   rw[e];exact(((dB (A.map (·.1))).filter _).map _)
 · rw[Bn]
   have nd:(srt lx (A.map (·.1))).Nodup:=(dB _).nodup_iff.mpr h
   have both:((srt lx (A.map (·.1))).filter fun k=>look A k != 0).Pairwise fun a b=>lx b a=false/\a≠b:=by
    refine List.Pairwise.filter _ ?_
    exact Gc (gR nU (A.map fun x=>x.1)) (show List.Pairwise (fun a b=>a≠b) _ from nd)
   refine both.imp fun {a b} h=>?_
   show (if b=a then _ else lx b a)=false
   rw[if_neg (Ne.symm h.2)];exact h.1
def sgn (m:Nat):Int:=1-2*((m:Int)%2)
def fW (p:List Int):Nat->Nat
 | 0=>0
 | j+1=>fW p j+((p.take j).filter fun b=>decide (p.getD j 0<b)).length
def inv (p:List Int):Nat:=fW p p.length
def val (t:Tm):Int:=if t.1.Nodup then sgn (inv t.1)*t.2 else 0
def key (t:Tm):List Int:=srt ix t.1
def step (A:List Tm)(t:Tm):List Tm:=put A (key t) (look A (key t)+val t)
def acc (A:List Tm)(ts:List Tm):List Tm:=ts.foldl step A
def aW (ts:List Tm):List Tm:=yN (acc [] ts)
theorem lI (m:Nat):sgn m=1\/sgn m=-1:=by unfold sgn;omega
theorem gD:∀ (ts A:List Tm),(A.map (·.1)).Nodup->((acc A ts).map (·.1)).Nodup
 | [],A,h=>h
 | t :: ts,A,h=>gD ts (step A t) (sT h)
theorem wI:∀ (ts A:List Tm),(acc A ts).length<=A.length+ts.length
 | [],A=>Af _
 | t :: ts,A=>by
  have h1:=wI ts (step A t);have h2:(step A t).length<=A.length+1:=vH _ _ _;show (acc (step A t) ts).length<=_
  rw[Av];omega
theorem rF:∀ (ts A:List Tm) {k:List Int},k∈(acc A ts).map (·.1)->k∈A.map (·.1)\/∃ t∈ts,k=key t
 | [],A,k,h=>.inl h
 | t :: ts,A,k,h=>by
  rcases rF ts (step A t) h with z | ⟨u,hu,e⟩
  · unfold step at z
    rw[nE]at z;split at z
    · exact .inl z
    · rcases Bg.mp z with z | z
      · exact .inl z
      · exact .inr ⟨t,Aa,by simpa using z⟩
  · exact .inr ⟨u,Ac _ hu,e⟩
theorem aL9 (t:Tm):(val t).natAbs<=t.2.natAbs:=by
 unfold val;split
 · rcases lI (inv t.1) with z | z<;>rw[z]<;>omega
 · omega
theorem aIh {A:List Tm}{M:Nat}(h:∀ p∈A,p.2.natAbs<=M)(k:List Int):(look A k).natAbs<=M:=by
 induction A with
 | nil=>exact Bz _
 | cons q r ih =>
  simp only[look];split
  · exact h q Aa
  · exact ih fun p hp=>h p (Ac _ hp)
theorem aHl {A:List Tm}{t:Tm}{M N:Nat}(h:∀ p∈A,p.2.natAbs<=M)(ht:t.2.natAbs<=N):∀ p∈step A t,p.2.natAbs<=M+N:=by
 intro p hp;rcases aH4 hp with z | z
 · exact Ak (h p z) (Cm _ _)
 · rw[z]
   have h1:=aIh h (key t);have h2:=aL9 t;show (look A (key t)+val t).natAbs<=_
   omega
theorem aGq {N:Nat}:∀ (ts A:List Tm) {M:Nat},(∀ p∈A,p.2.natAbs<=M)->(∀ t∈ts,t.2.natAbs<=N)->∀ p∈acc A ts,p.2.natAbs<=M+ts.length*N
 | [],A,M,h,_,p,hp=>by simpa using h p hp
 | t :: ts,A,M,h,ht,p,hp=>by
  have:=aGq ts (step A t) (aHl h (ht t Aa)) (fun u hu=>ht u (Ac _ hu)) p hp
  rw[Av,Nat.add_mul];omega
end Sm
namespace Sm
open PySem L2 Mir Srt
theorem aJg {f:FE}{ρ:Mir.Env}{k:Kd}{fr:Bool}{p:List Int}(h:f ρ=.ok ⟨k,fr,.tup (li p)⟩)(hz:p.length<1000):oG f ρ=.ok (sc (.int (gS p))):=by
 simp only[oG,h,R.ok_bind,eK,if_pos hz]
theorem oU {f:FE}{ρ:Mir.Env}{k:Kd}{fr:Bool}{ds:List D}(h:f ρ=.ok ⟨k,fr,.tup ds⟩):bY f ρ=.ok (sc (.int ds.length)):=by simp only[bY,h,R.ok_bind,asS]
theorem vN:∀ (p s:List Int),s.Nodup->(p.foldl Bx s).length<=s.length+p.length/\((p.foldl Bx s).length=s.length+p.length↔(s++p).Nodup)
 | [],s,h=>by simp[h]
 | x :: p,s,h=>by
  rw[Ft];by_cases z:s.any (·==x)=true
  · have e:Bx s x=s:=by unfold Bx;rw[if_pos z]
    rw[e];have ih:=vN p s h
    have mem:x∈s:=by
     obtain⟨y,hy,e⟩:=El.mp z;rw[←eq_of_beq e];exact hy
    refine⟨by rw[Av];omega,⟨fun q=>?_,fun q=>?_⟩⟩
    · rw[Av]at q;omega
    · exact absurd rfl ((Da.mp q).2.2 x mem x Aa)
  · have e:Bx s x=s++[x]:=by unfold Bx;rw[if_neg z]
    have nm:x∉s:=fun m=>z (El.mpr ⟨x,m,beq_self_eq_true x⟩);rw[e]
    have hs:(s++[x]).Nodup:=by
     rw[Da];exact⟨h,by simp,fun a ha b hb=>by rw[Ay.mp hb];exact fun q=>nm (q▸ha)⟩
    have ih:=vN p (s++[x]) hs;rw[An,Ck]at ih;rw[Av,show s++x :: p=s++[x]++p by simp]
    exact⟨by omega,⟨fun q=>ih.2.mp (by omega),fun q=>by have:=ih.2.mpr q;omega⟩⟩
theorem oZ (p:List Int):gS p<p.length↔¬ p.Nodup:=by
 have h:=vN p [] Cy;simp only[Bp,Ew,Cq]at h;unfold gS;constructor
 · intro q n
   have:=h.2.mpr n
   omega
 · intro n
   rcases Nat.lt_or_ge (p.foldl Bx []).length p.length with z | z
   · exact z
   · exact absurd (h.2.mp (Nat.le_antisymm h.1 z)) n
theorem yG {tg:Tg}{b:FS}{fr:Bool}{inj:Nat->D}{E:Nat->Mir.Env->Prop}:∀ (m i:Nat) (ρ:Mir.Env),E i ρ->(∀ j,i<=j->j<i+m->∀ ρ,E j ρ->∃ ρ1 ρ2,tg.bind fr (inj j) ρ=.ok ρ1/\b ρ1=.nx ρ2/\E (j+1) ρ2) ->
 ∃ ρ',fZ tg b fr ((List.range' i m).map inj) ρ=.nx ρ'/\E (i+m) ρ'
 | 0,i,ρ,h,_=>⟨ρ,rfl,h⟩
 | m+1,i,ρ,h,hs=>by
  obtain⟨ρ1,ρ2,h1,h2,h3⟩:=hs i (Af _) (by omega) ρ h
  obtain⟨ρ',h4,h5⟩:=yG m (i+1) ρ2 h3 fun j a b=>hs j (by omega) (by omega)
  refine⟨ρ',?_,by rw[show i+(m+1)=i+1+m by omega];exact h5⟩
  rw[List.range'_succ];simp only[Ap,fZ,h1,R.at,h2];exact h4
theorem nV {α:Type}{tg:Tg}{b:FB}{fr:Bool}{ρ:Mir.Env}{inj out:α->D}{c:α->Bool}:∀ (xs:List α),(∀ x∈xs,∃ ρ1 k,tg.bind fr (inj x) ρ=.ok ρ1/\b ρ1=.ok (if c x then some ⟨k,true,out x⟩ else none)/\k≠.own)->hG tg b fr ρ (xs.map inj)=.ok (true,(xs.filter c).map out)
 | [],_=>rfl
 | x :: r,h=>by
  obtain⟨ρ1,k,h1,h2,h3⟩:=h x Aa;have ih:=nV r fun y hy=>h y (Ac _ hy);cases z:c x with
  | true =>
   rw[z]at h2;simp only[Ap,hG,h1,R.ok_bind,h2,if_true,Res.give,if_neg h3,ih,List.filter_cons,z];rfl
  | false =>
   rw[z]at h2;simp only[Ap,hG,h1,R.ok_bind,h2,Bk,if_false,ih,List.filter_cons,z]
theorem kJ {α:Type}{it:FI}{tg:Tg}{b:FB}{fr st:Bool}{ρ:Mir.Env}{k:Nat}{fs:List Nat}{inj out:α->D}{c:α->Bool}{xs:List α}(hi:it ρ=.ok ⟨st,fr,xs.map inj⟩)
 (h:∀ x∈xs,∃ ρ1 k',tg.bind fr (inj x) (dM k fs ρ)=.ok ρ1/\b ρ1=.ok (if c x then some ⟨k',true,out x⟩ else none)/\k'≠.own) (hz:xs.length<=sizeLine):bW it k fs tg b ρ=.ok ⟨.tmp,true,.lst ((xs.filter c).map out)⟩:=by
 have:=nV xs h
 simp only[bW,hi,R.ok_bind,this,Ab,if_pos hz]
theorem nJ {t:FT}{f:FE}{ρ:Mir.Env}{c:Bool}{r:Res}(h:t ρ=.ok c)(hf:c=true->f ρ=.ok r):Mir.bIf t f ρ=.ok (if c then some r else none):=by
 cases c with
 | true=>simp only[Mir.bIf,h,R.ok_bind,if_true,hf rfl]
 | false=>simp only[Mir.bIf,h,R.ok_bind,Bk,if_false]
theorem aLv {i:Nat}{G:Int->Int->Int}{f:FE}{ρ:Mir.Env}{k k':Kd}{fr fr':Bool}{m n:Int}(h1:vE i ρ=.ok ⟨k,fr,.int m⟩)(h2:f ρ=.ok ⟨k',fr',.int n⟩):sC i G f ρ=.nx (ρ.set i (some ⟨.shr,true,.int (G m n)⟩)):=by
 simp only[sC,h1,R.at,asI,h2]
theorem aHq (p:List Int):rM (li p)=(List.range' 0 p.length).map fun j=>.tup [.int (j:Int),.int (p.getD j 0)]:=by
 rw[aHd,←List.range_eq_range'];refine List.ext_getElem (by simp) fun i h1 h2=>?_
 have hi:i<p.length:=by simpa using h2
 simp[hi]
theorem aE9 (p:List Int)(j:Nat)(h:j<p.length):nI (li p) none (some (j:Int))=li (p.take j):=by
 unfold nI;rw[HT.yV,HT.vL];simp[Nat.min_eq_left (Ex h)]
abbrev aFr:FS :=
 (aL (ifS (bT (ltE (oG (vE 0)) (bY (vE 0))))
  (bD (cE (.int 0)))
  cI)
 (aL (aR 1 (cE (.int 0)))
 (aL (cV (aCk (vE 0)) (.tp [.nm 2,.nm 3])
  (sC 1 (fun m n=>m+n) (bY (bW (lU (lF (vE 0) (noO) (soO (vE 2)))) 1 [3] (.nm 0) (Mir.bIf (bT (gtE (vE 0) (vE 1))) (vE 0))))))
 (bD (eU (cE (.int 1)) (cC (cE (.int 2)) (dF (vE 1) (cE (.int 2)))))))))
def trn (p:List Int):Int:=if p.Nodup then sgn (inv p) else 0
theorem aCl (p:List Int)(hz:p.length<1000)(fr fr1 fr2:Bool)(j:Nat)(hj:j<p.length)(m:Int) :
 (sC 1 (fun m n=>m+n) (bY (bW (lU (lF (vE 0) (noO) (soO (vE 2)))) 1 [3] (.nm 0) (Mir.bIf (bT (gtE (vE 0) (vE 1))) (vE 0))))) [some ⟨.shr,fr,.tup (li p)⟩,some ⟨.shr,true,.int m⟩,some ⟨.shr,fr1,.int j⟩,some ⟨.shr,fr2,.int (p.getD j 0)⟩]
  = .nx [some ⟨.shr,fr,.tup (li p)⟩,some ⟨.shr,true,.int (m+((p.take j).filter fun b=>decide (p.getD j 0<b)).length)⟩,some ⟨.shr,fr1,.int j⟩,some ⟨.shr,fr2,.int (p.getD j 0)⟩]:=by
 have e1:lF (vE 0) (noO) (soO (vE 2)) [some ⟨.shr,fr,.tup (li p)⟩,some ⟨.shr,true,.int m⟩,some ⟨.shr,fr1,.int j⟩,some ⟨.shr,fr2,.int (p.getD j 0)⟩]=.ok ⟨.shr,fr||(D.tup (li p)).imm,.tup (li (p.take j))⟩:=by
  have nw:¬ (HT.sIx (li p).length 0 none=0/\HT.sIx (li p).length (li p).length (some (j:Int))=(li p).length):=by
   rw[HT.vL];simp;omega
  have e:(lF (vE 0) (noO) (soO (vE 2)) [some ⟨.shr,fr,.tup (li p)⟩,some ⟨.shr,true,.int m⟩,some ⟨.shr,fr1,.int j⟩,some ⟨.shr,fr2,.int (p.getD j 0)⟩])=if HT.sIx (li p).length 0 none=0/\HT.sIx (li p).length (li p).length (some (j:Int))=(li p).length then .stk else .ok ⟨.shr,fr||(D.tup (li p)).imm,.tup (nI (li p) none (some (j:Int)))⟩:=rfl
  rw[e,if_neg nw,aE9 p j hj]
 have e2:bW (lU (lF (vE 0) (noO) (soO (vE 2)))) 1 [3] (.nm 0) (Mir.bIf (bT (gtE (vE 0) (vE 1))) (vE 0)) [some ⟨.shr,fr,.tup (li p)⟩,some ⟨.shr,true,.int m⟩,some ⟨.shr,fr1,.int j⟩,some ⟨.shr,fr2,.int (p.getD j 0)⟩]=.ok ⟨.tmp,true,.lst (((p.take j).filter fun b=>decide (p.getD j 0<b)).map D.int)⟩:=by
  refine kJ (fr:=fr||(D.tup (li p)).imm) (st:=true) (inj:=D.int) (xs:=p.take j) (by simp only[lU,e1,R.ok_bind]) (fun b hb=>?_) ?_
  · refine⟨[some ⟨.shr,fr||(D.tup (li p)).imm,.int b⟩,some ⟨.shr,fr2,.int (p.getD j 0)⟩],.shr,rfl,?_,by decide⟩
    exact nJ (r:=⟨.shr,true,.int b⟩) (cY (fJ (k:=.shr) (k':=.shr) (fr:=true) (fr':=true) (i:=b) (j:=p.getD j 0) (by simp[vE,D.imm]) (by simp[vE,D.imm]))) fun _=>by simp[vE,D.imm]
  · rw[sizeLine_eq,Dj];omega
 refine(aLv (k:=.shr) (fr:=true) (m:=m) rfl (lN e2)).trans ?_
 simp
end Sm
namespace Sm
open PySem L2 Mir Srt
theorem aNf (p:List Int)(hz:p.length<1000):cW 1 4 aFr [.tup (li p)]=.ok (sc (.int (trn p))):=by
 have t0:bT (ltE (oG (vE 0)) (bY (vE 0))) [some ⟨.shr,false,.tup (li p)⟩,none,none,none]=.ok (decide ((gS p:Int)<(p.length:Int))):=by
  refine cY (fJ (k':=.shr) (fr':=true) (aJg (k:=.shr) (fr:=false||(D.tup (li p)).imm) rfl hz) ((oU (k:=.shr) (fr:=false||(D.tup (li p)).imm) (ds:=li p) rfl).trans ?_))
  rw[Ab];rfl
 by_cases n:p.Nodup
 · have c:¬ gS p<p.length:=fun q=>(oZ p).mp q n
   have e0:ifS (bT (ltE (oG (vE 0)) (bY (vE 0)))) (bD (cE (.int 0))) cI [some ⟨.shr,false,.tup (li p)⟩,none,none,none]=.nx [some ⟨.shr,false,.tup (li p)⟩,none,none,none]:=by
    rw[hE t0,decide_eq_false (by omega)];rfl
   have e1:aR 1 (cE (.int 0)) [some ⟨.shr,false,.tup (li p)⟩,none,none,none]=.nx [some ⟨.shr,false,.tup (li p)⟩,some ⟨.shr,true,.int 0⟩,none,none]:=rfl
   obtain⟨ρ',l1,x,y,l2⟩:=yG (tg:=.tp [.nm 2,.nm 3]) (b:=sC 1 (fun m n=>m+n) (bY (bW (lU (lF (vE 0) (noO) (soO (vE 2)))) 1 [3] (.nm 0) (Mir.bIf (bT (gtE (vE 0) (vE 1))) (vE 0))))) (fr:=false||(D.tup (li p)).imm) (inj:=fun j=>.tup [.int (j:Int),.int (p.getD j 0)])
    (E:=fun j ρ=>∃ x y,ρ=[some ⟨.shr,false,.tup (li p)⟩,some ⟨.shr,true,.int (fW p j:Nat)⟩,x,y]) p.length 0 [some ⟨.shr,false,.tup (li p)⟩,some ⟨.shr,true,.int 0⟩,none,none] ⟨none,none,rfl⟩ fun j _ hj ρ ⟨x,y,e⟩=>by
     subst e;have hj':j<p.length:=by omega
     refine⟨[some ⟨.shr,false,.tup (li p)⟩,some ⟨.shr,true,.int (fW p j:Nat)⟩,some ⟨.shr,false||(D.tup (li p)).imm,.int (j:Int)⟩,some ⟨.shr,false||(D.tup (li p)).imm,.int (p.getD j 0)⟩],_,rfl,aCl p hz false _ _ j hj' _,some ⟨.shr,false||(D.tup (li p)).imm,.int (j:Int)⟩,some ⟨.shr,false||(D.tup (li p)).imm,.int (p.getD j 0)⟩,?_⟩
     rw[show fW p (j+1)=fW p j+((p.take j).filter fun b=>decide (p.getD j 0<b)).length from rfl,Int.natCast_add]
   rw[Ew]at l2
   have e2:cV (aCk (vE 0)) (.tp [.nm 2,.nm 3]) (sC 1 (fun m n=>m+n) (bY (bW (lU (lF (vE 0) (noO) (soO (vE 2)))) 1 [3] (.nm 0) (Mir.bIf (bT (gtE (vE 0) (vE 1))) (vE 0))))) [some ⟨.shr,false,.tup (li p)⟩,some ⟨.shr,true,.int 0⟩,none,none]=.nx [some ⟨.shr,false,.tup (li p)⟩,some ⟨.shr,true,.int (inv p:Nat)⟩,x,y]:=by
    refine(fT (fr:=false||(D.tup (li p)).imm) (ds:=rM (li p)) rfl).trans ?_
    rw[aHq,l1,l2];rfl
   have e3:bD (eU (cE (.int 1)) (cC (cE (.int 2)) (dF (vE 1) (cE (.int 2))))) [some ⟨.shr,false,.tup (li p)⟩,some ⟨.shr,true,.int (inv p:Nat)⟩,x,y]=.rt ⟨.shr,true,.int (1-2*(((inv p:Nat):Int)%2))⟩:=by
    refine oW (bM (k:=.shr) (fr:=true) (i:=1) rfl (bM (k:=.shr) (fr:=true) (i:=2) rfl (bM (k:=.shr) (fr:=true) (i:=(inv p:Nat)) rfl rfl (mD (by decide))) (gJ (pV (by decide)) (aBz (M:=2) (pV (by decide)) (by omega)))) rfl)
   have e:aFr [some ⟨.shr,false,.tup (li p)⟩,none,none,none]=.rt ⟨.shr,true,.int (1-2*(((inv p:Nat):Int)%2))⟩:=(aQ e0).trans ((aQ e1).trans ((aQ e2).trans e3));refine(dX rfl e).trans ?_
   unfold trn;rw[if_pos n];rfl
 · have c:gS p<p.length:=(oZ p).mpr n
   have e0:ifS (bT (ltE (oG (vE 0)) (bY (vE 0)))) (bD (cE (.int 0))) cI [some ⟨.shr,false,.tup (li p)⟩,none,none,none]=.rt ⟨.shr,true,.int 0⟩:=by
    rw[hE t0,decide_eq_true (by omega)];rfl
   refine(dX rfl (zW e0)).trans ?_
   unfold trn;rw[if_neg n];rfl
def dK (A:List Tm):D:=.dct (A.map (·.1)) (A.map fun p=>.int p.2)
theorem mH:∀ (A:List Tm) (k:List Int),hZ (A.map (·.1)) (A.map fun p=>.int p.2) k=if k∈A.map (·.1) then some (.int (look A k)) else none
 | [],k=>by simp[hZ]
 | p :: r,k=>by
  simp only[Ap,hZ];by_cases z:p.1=k
  · simp[z,look]
  · rw[if_neg z,mH r k]
    simp only[look,if_neg z];by_cases m:k∈r.map (·.1)
    · rw[if_pos m,if_pos (Ac _ m)]
    · rw[if_neg m,if_neg fun w=>(Ai.mp w).elim (Ne.symm z) m]
theorem aHu (A:List Tm)(k:List Int)(v:Int):sJ (A.map (·.1)) (A.map fun p=>.int p.2) k (.int v)=((put A k v).map (·.1),(put A k v).map fun p=>.int p.2):=by
 unfold sJ;rw[nE];unfold put;by_cases z:k∈A.map (·.1)
 · simp only[if_pos z]
   have e:∀ B:List Tm,((B.map (·.1)).zip (B.map fun p=>D.int p.2)).map (fun p=>if p.1=k then D.int v else p.2)=(B.map fun p=>if p.1=k then (p.1,v) else p).map fun p=>D.int p.2:=by
    intro B;induction B with
    | nil=>rfl
    | cons q r ih =>
     simp only[Ap,Ed];rw[ih];by_cases w:q.1=k<;>simp[w]
   rw[e A]
 · simp only[if_neg z]
   simp
theorem uP {f:FE}{ρ:Mir.Env}{k:Kd}{fr:Bool}{ds:List D}(h:f ρ=.ok ⟨k,fr,.lst ds⟩):lV f ρ=.ok ⟨.shr,fr,.tup ds⟩:=by simp only[lV,h,R.ok_bind,asS]
theorem aIm {f:FE}{ρ:Mir.Env}{k:Kd}{fr:Bool}{p:List Int}(h:f ρ=.ok ⟨k,fr,.tup (li p)⟩)(hz:p.length<64):jR f ρ=.ok ⟨.tmp,true,.lst (li (srt ix p))⟩:=by
 simp only[jR,h,R.ok_bind,asS,eK,if_pos hz]
theorem aD7 {a k x:FE}{ρ:Mir.Env}{A:List Tm}{q:List Int}{kd kd' kd'':Kd}{fr fr' fr'':Bool}(h1:a ρ=.ok ⟨kd,fr,dK A⟩)(h2:k ρ=.ok ⟨kd',fr',.tup (li q)⟩)(h3:x ρ=.ok ⟨kd'',fr'',.int 0⟩):∃ f,oK a k x ρ=.ok ⟨.shr,f,.int (look A q)⟩:=by
 simp only[oK,h1,R.ok_bind,dK,h2,h3,asK,eK,mH];by_cases z:q∈A.map (·.1)
 · rw[if_pos z];exact⟨_,rfl⟩
 · rw[if_neg z,gF z]
   exact⟨true,rfl⟩
theorem aBr {i:Nat}{k f:FE}{ρ:Mir.Env}{A:List Tm}{q:List Int}{v:Int}{kd kd':Kd}{fr fr':Bool}(ho:ρ[i]?=some (some ⟨.own,true,dK A⟩))(h1:f ρ=.ok ⟨kd,true,.int v⟩)(hk:kd≠.own)(h2:k ρ=.ok ⟨kd',fr',.tup (li q)⟩)(hz:A.length<sizeLine) :
 mB i k f ρ=.nx (ρ.set i (some ⟨.own,true,dK (put A q v)⟩)):=by
 have e0:ownD i ρ=.ok (true,A.map (·.1),A.map fun p=>.int p.2):=by unfold ownD;rw[ho];rfl
 have e1:asK (.tup (li q))=.ok q:=eK q;have hz':(A.map (·.1)).length<sizeLine:=by rw[Ab];exact hz
 simp only[mB,e0,R.at,h1,Res.give,if_neg hk,h2,e1,if_pos hz',aHu];rfl
end Sm
namespace Sm
open PySem L2 Mir Srt
theorem fD (t:Tm):val t=trn t.1*t.2:=by
 unfold val trn;split
 · rfl
 · rw[Cn]
theorem aMs (p:List Int):(trn p).natAbs<=1:=by
 unfold trn;split
 · rcases lI (inv p) with z | z<;>rw[z]<;>decide
 · decide
theorem iB {f g:FE}{ρ:Mir.Env}{k k':Kd}{fr fr':Bool}{d d':D}(h1:f ρ=.ok ⟨k,fr,d⟩)(h2:g ρ=.ok ⟨k',fr',d'⟩)(n1:k≠.own)(n2:k'≠.own):dO [f,g] ρ=.ok ⟨.shr,fr&&(fr'&&true),.tup [d,d']⟩:=by
 have hz:([d,d']:List D).length<=sizeLine:=by show 2<=sizeLine;decide
 simp only[dO,evs,h1,h2,R.ok_bind,gives,Res.give,if_neg n1,if_neg n2,if_pos hz]
theorem uL (t:Tm):(key t).length=t.1.length:=wL _
theorem aG4 {ts:List Tm}{L:Nat}(h:∀ t∈ts,t.1.length=L):2<=((acc [] ts).map (·.1)).length->∀ k∈(acc [] ts).map (·.1),k≠[]:=by
 intro two k hk e;have nd:=gD ts [] Cy
 have al:∀ q∈(acc [] ts).map (·.1),q.length=L:=fun q hq=>by
  rcases rF ts [] hq with z | ⟨t,ht,rfl⟩
  · cases z
  · rw[uL];exact h t ht
 have L0:L=0:=by rw[←al k hk,e];rfl
 generalize (acc [] ts).map (·.1)=ks at *
 match ks,two with
 | a :: b :: r,_ =>
  have ea:a=[]:=By.mp (by rw[al a Aa,L0])
  have eb:b=[]:=By.mp (by rw[al b (Ac _ Aa),L0])
  have:=(Ca.mp nd).1
  exact this (by rw[ea,eb];exact Aa)
theorem aIn {a k:FE}{ρ:Mir.Env}{A:List Tm}{q:List Int}{kd kd':Kd}{fr':Bool}(h1:a ρ=.ok ⟨kd,true,dK A⟩)(h2:k ρ=.ok ⟨kd',fr',.tup (li q)⟩)(hq:q∈A.map (·.1)):eV a k ρ=.ok ⟨.shr,true,.int (look A q)⟩:=by
 simp only[eV,h1,R.ok_bind,dK,h2,asK,eK,mH,if_pos hq,Bool.true_or]
structure Fit (ts:List Tm):Prop where
 pl:∀ t∈ts,t.1.length<64
 nb:∀ t∈ts,t.2.natAbs<2^1000
 ks:(acc [] ts).length<64
 un:∃ L,∀ t∈ts,t.1.length=L
 ln:ts.length<=1000
abbrev aEi (φ:Φ):FS:=(aL (aR 4 (lV (jR (vE 2))))
 (mB 1 (vE 4) (cA (oK (vE 1) (vE 4) (cE (.int 0))) (cC (aC φ [vE 2]) (vE 3)))))
abbrev mW (φ:Φ):FS :=
 (aL (aR 1 (pS))
 (aL (mO 0 (cV (dC (vE 0)) (.tp [.nm 2,.nm 3])
  (aL (aR 4 (lV (jR (vE 2))))
  (mB 1 (vE 4) (cA (oK (vE 1) (vE 4) (cE (.int 0))) (cC (aC φ [vE 2]) (vE 3)))))))
 (bD (bW (dC (xY (vE 1))) 1 [1] (.nm 0) (Mir.bIf (bT (neE (eV (vE 1) (vE 0)) (cE (.int 0)))) (dO [vE 0,eV (vE 1) (vE 0)]))))))
theorem aEd {φ:Φ}(hφ:∀ p:List Int,p.length<64->φ [.tup (li p)]=.ok (sc (.int (trn p))))(a0 x4:Option Res)(A:List Tm)(t:Tm)(h1:t.1.length<64)(h2:t.2.natAbs<2^1000)(hA:A.length<sizeLine)(f2 f3:Bool) :
 aEi φ [a0,some ⟨.own,true,dK A⟩,some ⟨.shr,f2,.tup (li t.1)⟩,some ⟨.shr,f3,.int t.2⟩,x4]=.nx [a0,some ⟨.own,true,dK (step A t)⟩,some ⟨.shr,f2,.tup (li t.1)⟩,some ⟨.shr,f3,.int t.2⟩,some ⟨.shr,true,.tup (li (key t))⟩]:=by
 have e1:aR 4 (lV (jR (vE 2))) [a0,some ⟨.own,true,dK A⟩,some ⟨.shr,f2,.tup (li t.1)⟩,some ⟨.shr,f3,.int t.2⟩,x4]=.nx [a0,some ⟨.own,true,dK A⟩,some ⟨.shr,f2,.tup (li t.1)⟩,some ⟨.shr,f3,.int t.2⟩,some ⟨.shr,true,.tup (li (key t))⟩] :=
  set_shr (uP (aIm (k:=.shr) (fr:=f2||(D.tup (li t.1)).imm) rfl h1))
 refine(aQ e1).trans ?_
 obtain⟨f5,e2⟩:=aD7 (a:=vE 1) (k:=vE 4) (x:=cE (.int 0)) (ρ:=[a0,some ⟨.own,true,dK A⟩,some ⟨.shr,f2,.tup (li t.1)⟩,some ⟨.shr,f3,.int t.2⟩,some ⟨.shr,true,.tup (li (key t))⟩]) (A:=A) (q:=key t) (kd:=.own) (kd':=.shr) (kd'':=.shr) (fr:=true) (fr':=true) (fr'':=true) rfl rfl rfl
 have e3:aC φ [vE 2] [a0,some ⟨.own,true,dK A⟩,some ⟨.shr,f2,.tup (li t.1)⟩,some ⟨.shr,f3,.int t.2⟩,some ⟨.shr,true,.tup (li (key t))⟩]=.ok ⟨.shr,true,.int (trn t.1)⟩ :=
  jE (rs:=[⟨.shr,f2||(D.tup (li t.1)).imm,.tup (li t.1)⟩]) (aD rfl bB) (hφ t.1 h1)
 have e4:cA (oK (vE 1) (vE 4) (cE (.int 0))) (cC (aC φ [vE 2]) (vE 3)) [a0,some ⟨.own,true,dK A⟩,some ⟨.shr,f2,.tup (li t.1)⟩,some ⟨.shr,f3,.int t.2⟩,some ⟨.shr,true,.tup (li (key t))⟩]=.ok ⟨.shr,true,.int (look A (key t)+val t)⟩:=by
  rw[fD];exact bM e2 (bM e3 (k':=.shr) (fr':=f3||(D.int t.2).imm) rfl (gJ (aBz (M:=1) (pV (by decide)) (aMs _)) h2)) rfl
 exact aBr (fr:=true) (i:=1) (k:=vE 4) (A:=A) (q:=key t) (kd':=.shr) (fr':=true) rfl e4 (by decide) rfl hA
theorem tQ {tg:Tg}{b:FS}{fr:Bool}{E:List Tm->Mir.Env->Prop}:∀ (ts A:List Tm) (ρ:Mir.Env),A.length+ts.length<=1000->E A ρ->(∀ t∈ts,∀ A ρ,A.length<1000->E A ρ->∃ ρ1 ρ2,tg.bind fr (mkP t) ρ=.ok ρ1/\b ρ1=.nx ρ2/\E (step A t) ρ2) ->
 ∃ ρ',fZ tg b fr (ts.map mkP) ρ=.nx ρ'/\E (acc A ts) ρ'
 | [],A,ρ,_,h,_=>⟨ρ,rfl,h⟩
 | t :: r,A,ρ,hz,h,hs=>by
  rw[Av]at hz;obtain⟨ρ1,ρ2,h1,h2,h3⟩:=hs t Aa A ρ (by omega) h
  have hl:(step A t).length<=A.length+1:=vH _ _ _;obtain⟨ρ',h4,h5⟩:=tQ r (step A t) ρ2 (by omega) h3 fun y hy=>hs y (Ac _ hy)
  refine⟨ρ',?_,h5⟩
  simp only[Ap,fZ,h1,R.at,h2];exact h4
theorem aE0 {φ:Φ}(hφ:∀ p:List Int,p.length<64->φ [.tup (li p)]=.ok (sc (.int (trn p)))){ts:List Tm}(F:Fit ts):cW 1 5 (mW φ) [.lst (ts.map mkP)]=.ok ⟨.tmp,true,.lst ((aW ts).map mkP)⟩:=by
 have e1:aR 1 pS [some ⟨.shr,false,.lst (ts.map mkP)⟩,none,none,none,none]=.nx [some ⟨.shr,false,.lst (ts.map mkP)⟩,some ⟨.own,true,dK []⟩,none,none,none]:=rfl
 obtain⟨ρ',l1,x2,x3,x4,l3⟩:=tQ (tg:=.tp [.nm 2,.nm 3]) (b:=aEi φ) (fr:=false)
  (E:=fun A ρ=>∃ x2 x3 x4,ρ=[some ⟨.shr,false,.lst (ts.map mkP)⟩,some ⟨.own,true,dK A⟩,x2,x3,x4]) ts [] [some ⟨.shr,false,.lst (ts.map mkP)⟩,some ⟨.own,true,dK []⟩,none,none,none] (by simpa using F.ln) ⟨none,none,none,rfl⟩ fun t ht A ρ hA ⟨x2,x3,x4,e⟩=>by
   subst e;exact⟨[some ⟨.shr,false,.lst (ts.map mkP)⟩,some ⟨.own,true,dK A⟩,some ⟨.shr,false,.tup (li t.1)⟩,some ⟨.shr,false,.int t.2⟩,x4],_,rfl,aEd hφ _ x4 A t (F.pl t ht) (F.nb t ht) (by rw[sizeLine_eq];omega) false false,_,_,_,rfl⟩
 have e2:mO 0 (cV (dC (vE 0)) (.tp [.nm 2,.nm 3]) (aEi φ)) [some ⟨.shr,false,.lst (ts.map mkP)⟩,some ⟨.own,true,dK []⟩,none,none,none]=.nx [some ⟨.shr,false,.lst (ts.map mkP)⟩,some ⟨.own,true,dK (acc [] ts)⟩,x2,x3,x4]:=by
  refine(aE7 (e:=⟨.shr,false,.lst (ts.map mkP)⟩) rfl).trans ?_
  refine(fT (fr:=false) (ds:=ts.map mkP) rfl).trans ?_
  rw[←l3];exact l1
 have nd:=gD ts [] Cy;obtain⟨L,hL⟩:=F.un;have hks:=F.ks;have ne:=aG4 hL;unfold aW;rw[←aMf nd];generalize acc [] ts=A at *
 have e3:xY (vE 1) [some ⟨.shr,false,.lst (ts.map mkP)⟩,some ⟨.own,true,dK A⟩,x2,x3,x4]=.ok ⟨.tmp,true,.lst ((srt lx (A.map (·.1))).map mkT)⟩:=by
  have c:(A.map (·.1)).length<64/\(2<=(A.map (·.1)).length->∀ k∈A.map (·.1),k≠[]):=⟨by rw[Ab];exact hks,ne⟩
  show (if _ then _ else _)=_
  exact if_pos c
 have e4:bW (dC (xY (vE 1))) 1 [1] (.nm 0) (Mir.bIf (bT (neE (eV (vE 1) (vE 0)) (cE (.int 0)))) (dO [vE 0,eV (vE 1) (vE 0)])) [some ⟨.shr,false,.lst (ts.map mkP)⟩,some ⟨.own,true,dK A⟩,x2,x3,x4]=.ok ⟨.tmp,true,.lst (((srt lx (A.map (·.1))).filter fun k=>look A k != 0).map fun k=>mkP (k,look A k))⟩:=by
  refine kJ (inj:=mkT) (xs:=srt lx (A.map (·.1))) (lG e3) (fun k hk=>?_) ?_
  · have hk':k∈A.map (·.1):=(dB _).mem_iff.mp hk
    have g:eV (vE 1) (vE 0) [some ⟨.shr,true,.tup (li k)⟩,some ⟨.own,true,dK A⟩]=.ok ⟨.shr,true,.int (look A k)⟩:=aIn (kd:=.own) (kd':=.shr) (fr':=true) rfl rfl hk';refine⟨[some ⟨.shr,true,.tup (li k)⟩,some ⟨.own,true,dK A⟩],.shr,rfl,?_,by decide⟩
    refine nJ (r:=⟨.shr,true,mkP (k,look A k)⟩) (c:=look A k != 0) (cY (pF (k':=.shr) (fr':=true) (j:=0) g rfl)) fun _=>?_
    exact iB (k:=.shr) (fr:=true) (d:=.tup (li k)) rfl g (by decide) (by decide)
  · rw[wL,Ab,sizeLine_eq];omega
 have e:mW φ [some ⟨.shr,false,.lst (ts.map mkP)⟩,none,none,none,none]=.rt ⟨.tmp,true,.lst (((srt lx (A.map (·.1))).filter fun k=>look A k != 0).map fun k=>mkP (k,look A k))⟩:=(aQ e1).trans ((aQ e2).trans (fX e4));refine(dX rfl e).trans ?_
 unfold aKz;rw[Bm];rfl
end Sm
namespace Sm
open PySem L2 Mir Srt
def nm (b:Prop)[Decidable b](n:Int):Int:=if b then n else 0
variable (a0 a1 x7:Option Res)(f2:Bool)(p:List Int)(n:Int)
end Sm
namespace Sm
open PySem L2 Mir Srt
theorem pH:∀ A:List Tm,eX (A.map mkP)=.ok A
 | []=>rfl
 | t :: A=>by
  have e:asP (mkP t)=.ok t:=by
   show (cH (li t.1) >>= fun k=>.ok (k,t.2))=.ok t
   rw[eK];rfl
  simp only[Ap,eX,e,pH A,R.ok_bind]
theorem aEc (p:List Int):(D.tup (li p)).imm=true:=nG p
end Sm
namespace Sm
open PySem L2 Mir Srt
theorem pA:∀ {l m:List Nat},l.Nodup->(∀ x∈l,x∈m)->l.length<=m.length
 | [],m,_,_=>Bz _
 | a :: l,m,h,s=>by
  obtain⟨h1,h2⟩:=Ca.mp h;have ha:=s a Aa;have:=pA (l:=l) (m:=m.erase a) h2 fun x hx=>(List.mem_erase_of_ne (fun z:x=a=>h1 (by rw[←z];exact hx))).mpr (s x (Ac _ hx))
  rw[List.length_erase_of_mem ha]at this;have:=List.length_pos_of_mem ha
  rw[Av];omega
def code (k:List Int):Nat:=k.count 0+3*k.count 1+9*k.count 2+27*k.count 3+81*k.count 4
def aLa (n:Nat):Nat:=n%3+n/3%3+n/9%3+n/27%3+n/81%3
theorem aDf:∀ T,T<=10->((Bd 243).filter fun n=>aLa n==T).length<=51:=by decide +kernel
theorem aB8:∀ a,a<3->∀ b,b<3->∀ c,c<3->∀ d,d<3->∀ e,e<3->aLa (a+3*b+9*c+27*d+81*e)=a+b+c+d+e:=by decide +kernel
theorem iS:∀ (k:List Int),(∀ x∈k,0<=x/\x<5)->k.length=k.count 0+k.count 1+k.count 2+k.count 3+k.count 4
 | [],_=>rfl
 | x :: k,h=>by
  have ih:=iS k fun y hy=>h y (Ac _ hy);obtain⟨a,b⟩:=h x Aa;have hx:x=0\/x=1\/x=2\/x=3\/x=4:=by omega
  rcases hx with e | e | e | e | e<;>subst e<;>simp[List.count_cons,ih]<;>omega
theorem aFe {ks:List (List Int)}{T:Nat}(nd:ks.Nodup)(hs:∀ k∈ks,k=srt ix k)(rg:∀ k∈ks,∀ x∈k,0<=x/\x<5)(c2:∀ k∈ks,∀ x,k.count x<=2)(ln:∀ k∈ks,k.length=T):ks.length<=51:=by
 by_cases hT:T<=10
 · have inj:(ks.map code).Nodup:=by
    show List.Pairwise (fun a b=>a≠b) (ks.map code)
    rw[Bn];refine Eb (fun {a b} ha hb n e=>n ?_) nd
    have a0:=c2 a ha 0;have a1:=c2 a ha 1;have a2:=c2 a ha 2;have a3:=c2 a ha 3;have a4:=c2 a ha 4;have b0:=c2 b hb 0;have b1:=c2 b hb 1;have b2:=c2 b hb 2;have b3:=c2 b hb 3;have b4:=c2 b hb 4;unfold code at e;have q0:a.count 0=b.count 0:=by omega
    have q1:a.count 1=b.count 1:=by omega
    have q2:a.count 2=b.count 2:=by omega
    have q3:a.count 3=b.count 3:=by omega
    have q4:a.count 4=b.count 4:=by omega
    have pm:a.Perm b:=by
     rw[Ev];intro x;by_cases hx:0<=x/\x<5
     · have hx:x=0\/x=1\/x=2\/x=3\/x=4:=by omega
       rcases hx with e | e | e | e | e<;>subst e<;>assumption
     · rw[Bu fun m=>hx (rg a ha x m),Bu fun m=>hx (rg b hb x m)]
    rw[hs a ha,hs b hb];exact eW eD ((dB a).trans pm) (gR eD a)
   have sub:∀ n∈ks.map code,n∈(Bd 243).filter fun n=>aLa n==T:=by
    intro n hn;obtain⟨k,hk,rfl⟩:=Ar.mp hn;have a0:=c2 k hk 0;have a1:=c2 k hk 1;have a2:=c2 k hk 2;have a3:=c2 k hk 3;have a4:=c2 k hk 4;have s:=iS k (rg k hk);rw[ln k hk]at s;rw[Cr,Co,beq_iff_eq];unfold code;rw[aB8 _ (by omega) _ (by omega) _ (by omega) _ (by omega) _ (by omega)]
    omega
   have:=pA inj sub
   rw[Ab]at this;exact Ak this (aDf T hT)
 · cases ks with
   | nil=>exact Bz _
   | cons k r =>
    have a0:=c2 k Aa 0;have a1:=c2 k Aa 1;have a2:=c2 k Aa 2;have a3:=c2 k Aa 3;have a4:=c2 k Aa 4;have s:=iS k (rg k Aa);rw[ln k Aa]at s;omega
end Sm
namespace Sm
open PySem L2 Mir Srt
structure Sum (L:Nat)(ts:List Tm):Prop where
 ln:ts.length<=20
 hL:L<=20
 sz:∀ t∈ts,t.1.length=L
 rg:∀ t∈ts,∀ x∈t.1,0<=x/\x<5
 nd:∀ t∈ts,t.1.Nodup
 nb:∀ t∈ts,t.2.natAbs<=2^240
theorem qQ {A:List Tm}{p:Tm}(h:p∈yN A):p∈A/\p.2≠0:=by
 have:=(dB (r:=px) (A.filter fun p=>p.2 != 0)).mem_iff.mp h
 obtain⟨a,b⟩:=Cr.mp this;exact⟨a,by simpa using b⟩
theorem fS (t:Tm):(key t).Perm t.1:=dB _
theorem jU {n:Nat}(h:n<=2^900):n<2^1000:=Cf h (Nat.pow_lt_pow_right (by decide) (by decide))
def gG (a:List Tm)(k:Int):List Tm:=a.map fun t=>(t.1,t.2*k)
theorem Sum.fitT {L:Nat}{a:List Tm}(ha:Sum L a){k:Int}(hk:k.natAbs<=2^80):Fit (gG a k):=by
 have hl:=ha.hL;have l1:=ha.ln;have ll:(gG a k).length=a.length:=Ab _
 have mem:∀ t∈gG a k,∃ u∈a,t=(u.1,u.2*k):=fun t ht=>by
  obtain⟨u,hu,e⟩:=Ar.mp ht;exact⟨u,hu,e.symm⟩
 have h3:=wI (gG a k) [];rw[Bp,ll]at h3;refine⟨fun t ht=>?_,fun t ht=>?_,by omega,⟨L,fun t ht=>?_⟩,by omega⟩
 · obtain⟨u,hu,rfl⟩:=mem t ht
   show u.1.length<64
   rw[ha.sz u hu];omega
 · obtain⟨u,hu,rfl⟩:=mem t ht
   refine jU ?_
   show (u.2*k).natAbs<=_
   rw[Di];exact Ak (Cb (ha.nb u hu) hk) (by rw[←Fd];exact Az (by decide) (by decide))
 · obtain⟨u,hu,rfl⟩:=mem t ht
   exact ha.sz u hu
def bO (a b:List Tm):List Tm:=a.flatMap fun s=>b.map fun t=>(s.1++t.1,s.2*t.2)
theorem Sum.fitP {L K:Nat}{a b:List Tm}(ha:Sum L a)(hb:Sum K b):Fit (bO a b):=by
 have hl:=ha.hL;have hk:=hb.hL;have l1:=ha.ln;have l2:=hb.ln
 have mem:∀ t∈bO a b,∃ u∈a,∃ v∈b,t=(u.1++v.1,u.2*v.2):=fun t ht=>by
  obtain⟨u,hu,h⟩:=Cv.mp ht;obtain⟨v,hv,e⟩:=Ar.mp h;exact⟨u,hu,v,hv,e.symm⟩
 have szs:∀ t∈bO a b,t.1.length=L+K:=fun t ht=>by
  obtain⟨u,hu,v,hv,rfl⟩:=mem t ht;rw[An,ha.sz u hu,hb.sz v hv]
 have lnn:(bO a b).length<=400:=by
  have:∀ c:List Tm,(c.flatMap fun s=>b.map fun t=>(s.1++t.1,s.2*t.2)).length=c.length*b.length:=by
   intro c;induction c with
   | nil=>simp
   | cons x c ih=>rw[List.flatMap_cons,An,ih,Ab,Av,Fo,Nat.add_comm]
  show (a.flatMap fun s=>b.map fun t=>(s.1++t.1,s.2*t.2)).length<=400
  rw[this a];exact Ak (Cb l1 l2) (by decide)
 refine⟨fun t ht=>by rw[szs t ht];omega,fun t ht=>?_,?_,⟨L+K,szs⟩,by omega⟩
 · obtain⟨u,hu,v,hv,rfl⟩:=mem t ht
   refine jU ?_
   show (u.2*v.2).natAbs<=_
   rw[Di];exact Ak (Cb (ha.nb u hu) (hb.nb v hv)) (by rw[←Fd];exact Az (by decide) (by decide))
 · have of:∀ k∈(acc [] (bO a b)).map (·.1),∃ u∈a,∃ v∈b,k.Perm (u.1++v.1)/\k=srt ix k/\k.length=L+K:=fun k hk=>by
    rcases rF (bO a b) [] hk with z | ⟨t,ht,e⟩
    · cases z
    · obtain⟨u,hu,v,hv,et⟩:=mem t ht
      refine⟨u,hu,v,hv,?_,?_,?_⟩
      · rw[e];have:=fS t;rw[et]at this ⊢;exact this
      · rw[e];exact eW eD (Cc _) (gR eD _)
      · rw[e,uL];exact szs t ht
   have:=aFe (ks:=(acc [] (bO a b)).map (·.1)) (T:=L+K) (gD _ [] Cy) (fun k hk=>let ⟨_,_,_,_,_,h,_⟩:=of k hk;h) (fun k hk x hx=>by
    obtain⟨u,hu,v,hv,p,_⟩:=of k hk;rcases Bg.mp (p.mem_iff.mp hx) with z | z
    · exact ha.rg u hu x z
    · exact hb.rg v hv x z) (fun k hk x=>by
    obtain⟨u,hu,v,hv,p,_⟩:=of k hk;rw[p.count_eq,List.count_append];have c1:=Dd.mp (ha.nd u hu) x;have c2:=Dd.mp (hb.nd v hv) x
    omega) fun k hk=>let ⟨_,_,_,_,_,_,h⟩:=of k hk;h
   rw[Ab]at this;omega
end Sm
namespace Sm
open PySem L2 Mir Srt
theorem jF {p:List Int}(h:p.Pairwise fun a b=>ix b a=false):inv p=0:=by
 have go:∀ j,j<=p.length->fW p j=0:=by
  intro j;induction j with
  | zero=>intro _;rfl
  | succ j ih =>
   intro hj;have hlt:j<p.length:=by omega
   show fW p j+_=0
   rw[ih (by omega),Ew,By,List.filter_eq_nil_iff]
   intro b hb;obtain⟨i,hi,e⟩:=List.mem_iff_getElem.mp hb;have hi':i<j:=by rw[Dj]at hi;omega
   have q:=(Cj.mp h) i j (by omega) hlt hi'
   have e2:b=p[i]:=by rw[←e];simp
   have e3:p.getD j 0=p[j]:=by simp[hlt]
   rw[e2,e3];unfold ix at q;simpa using q
 exact go p.length (Af _)
structure Told (S:List Tm):Prop where
 up:∀ t∈S,t.1.Pairwise fun a b=>ix b a=false
 nd:∀ t∈S,t.1.Nodup
 ks:(S.map (·.1)).Nodup
 nz:∀ t∈S,t.2≠0
 so:S.Pairwise fun a b=>px b a=false
theorem Told.val {S:List Tm}(h:Told S){t:Tm}(ht:t∈S):val t=t.2:=by
 unfold Sm.val;rw[if_pos (h.nd t ht),jF (h.up t ht)];show (1-2*((0:Int)%2))*t.2=t.2
 omega
theorem Told.key {S:List Tm}(h:Told S){t:Tm}(ht:t∈S):key t=t.1:=(eW eD (Cc _) (h.up t ht)).symm
theorem yF {S:List Tm}(h:Told S):∀ (T B:List Tm),(∀ t∈T,t∈S)->(((B++T).map (·.1)).Nodup)->acc B T=B++T
 | [],B,_,_=>by simp[acc]
 | t :: T,B,hs,nd=>by
  have ht:=hs t Aa
  have nm:t.1∉B.map (·.1):=by
   rw[Bo,Da]at nd;intro m;exact nd.2.2 t.1 m t.1 (by simp) rfl
  have e:step B t=B++[t]:=by
   unfold step;rw[h.key ht,gF nm,h.val ht,Int.zero_add];unfold put;rw[if_neg nm]
  show acc (step B t) T=_
  rw[e,yF h T (B++[t]) (fun u hu=>hs u (Ac _ hu)) (by simpa using nd)]
  simp
theorem Told.same {S:List Tm}(h:Told S):aW S=S:=by
 unfold aW;rw[yF h S [] (fun _ z=>z) (by simpa using h.ks),Cq]
 unfold yN;have e:S.filter (fun p=>p.2 != 0)=S:=List.filter_eq_self.mpr fun t ht=>by simpa using h.nz t ht
 rw[e];exact(eW jG (Cc _) h.so).symm
end Sm
namespace Sm
open Srt
theorem aBn (a b:Nat):sgn (a+b)=sgn a*sgn b:=by
 unfold sgn;have ha:a%2=0\/a%2=1:=by omega
 have hb:b%2=0\/b%2=1:=by omega
 rcases ha with ha | ha<;>rcases hb with hb | hb
 · rw[show ((a:Int)%2)=0 by omega,show ((b:Int)%2)=0 by omega,show (((a+b:Nat):Int)%2)=0 by omega];decide
 · rw[show ((a:Int)%2)=0 by omega,show ((b:Int)%2)=1 by omega,show (((a+b:Nat):Int)%2)=1 by omega];decide
 · rw[show ((a:Int)%2)=1 by omega,show ((b:Int)%2)=0 by omega,show (((a+b:Nat):Int)%2)=1 by omega];decide
 · rw[show ((a:Int)%2)=1 by omega,show ((b:Int)%2)=1 by omega,show (((a+b:Nat):Int)%2)=0 by omega];decide
theorem xS:sgn 0=1:=rfl
theorem aGk (a:Nat):sgn a*sgn a=1:=by rcases lI a with h | h<;>rw[h]<;>rfl
def ovr (b:Int)(p:List Int):Nat:=(p.filter fun a=>decide (b<a)).length
def bS (p:List Int):List Int->Nat
 | []=>0
 | b :: q=>ovr b p+bS p q
theorem aH2 (b:Int)(p q:List Int):ovr b (p++q)=ovr b p+ovr b q:=by
 unfold ovr;rw[List.filter_append,An]
theorem aDt {b:Int}{p q:List Int}(h:p.Perm q):ovr b p=ovr b q:=(h.filter _).length_eq
theorem yJ (p q r:List Int):bS p (q++r)=bS p q+bS p r:=by
 induction q with
 | nil=>simp[bS]
 | cons b q ih=>simp only[Fm,bS,ih];omega
theorem mX {p p':List Int}(h:p.Perm p'):∀ q,bS p q=bS p' q
 | []=>rfl
 | b :: q=>by simp only[bS,aDt h,mX h q]
theorem vQ {q q':List Int}(h:q.Perm q')(p:List Int):bS p q=bS p q':=by
 induction h with
 | nil=>rfl
 | cons x _ ih=>simp only[bS,ih]
 | swap x y l=>simp only[bS];omega
 | trans _ _ i1 i2=>exact i1.trans i2
theorem yI (p q:List Int):∀ j,j<=p.length->fW (p++q) j=fW p j
 | 0,_=>rfl
 | j+1,h=>by
  show fW (p++q) j+_=fW p j+_
  rw[yI p q j (by omega),Er (by omega)]
  have e:(p++q).getD j 0=p.getD j 0:=by
   rw[Au,Au,Bv (by omega)]
  rw[e]
theorem xQ (p:List Int)(x:Int):inv (p++[x])=inv p+ovr x p:=by
 unfold inv;rw[An,Ck];show fW (p++[x]) p.length+_=_
 rw[yI p [x] p.length (Af _),Er (Af _),List.take_length]
 have e:(p++[x]).getD p.length 0=x:=by
  rw[Au,Bt (Af _)];simp
 rw[e];rfl
theorem aIx (p q:List Int):inv (p++q)=inv p+inv q+bS p q:=by
 have go:∀ n,∀ q:List Int,q.length=n->inv (p++q)=inv p+inv q+bS p q:=by
  intro n;induction n with
  | zero=>intro q h;rw[By.mp h,Ce];rfl
  | succ n ih =>
   intro q h;have hq:q≠[]:=fun z=>by rw[z]at h;simp at h
   rw[←Dt hq];generalize q.getLast hq=x
   have hl:q.dropLast.length=n:=by rw[List.length_dropLast];omega
   generalize q.dropLast=q' at hl
   rw[←Db,xQ,xQ,ih q' hl,aH2,yJ];show _=_+(_+_)+(_+(ovr x p+bS p []))
   show _=_+(_+_)+(_+(ovr x p+0))
   omega
 exact go q.length q rfl
def xs (p q:List Int):Int:=if ∀ x∈p,x∉q then sgn (bS p q) else 0
theorem aH7 {p p' q q':List Int}(h1:p.Perm p')(h2:q.Perm q'):xs p q=xs p' q':=by
 unfold xs;rw[mX h1 q,vQ h2 p']
 have e:(∀ x∈p,x∉q)↔∀ x∈p',x∉q':=by
  constructor
  · intro h x hx hq;exact h x (h1.mem_iff.mpr hx) (h2.mem_iff.mpr hq)
  · intro h x hx hq;exact h x (h1.mem_iff.mp hx) (h2.mem_iff.mp hq)
 by_cases z:∀ x∈p,x∉q
 · rw[if_pos z,if_pos (e.mp z)]
 · rw[if_neg z,if_neg fun w=>z (e.mpr w)]
theorem zM {p q:List Int}:(p++q).Nodup↔p.Nodup/\q.Nodup/\∀ x∈p,x∉q:=by
 rw[Da];constructor
 · exact fun⟨a,b,c⟩=>⟨a,b,fun x hx hq=>c x hx x hq rfl⟩
 · exact fun⟨a,b,c⟩=>⟨a,b,fun x hx y hy e=>c x hx (e▸hy)⟩
theorem aBt (p q:List Int):trn (p++q)=trn p*trn q*xs p q:=by
 unfold trn xs;by_cases h:(p++q).Nodup
 · obtain⟨h1,h2,h3⟩:=zM.mp h
   rw[if_pos h,if_pos h1,if_pos h2,if_pos h3,aIx,aBn,aBn]
 · rw[if_neg h]
   by_cases h1:p.Nodup
   · by_cases h2:q.Nodup
     · by_cases h3:∀ x∈p,x∉q
       · exact absurd (zM.mpr ⟨h1,h2,h3⟩) h
       · rw[if_neg h3,Fp]
     · rw[if_neg h2,Fp,Cn]
   · rw[if_neg h1,Cn,Cn]
theorem aEr (s t:Tm):val (s.1++t.1,s.2*t.2)=val s*val t*xs (key s) (key t):=by
 rw[fD,fD,fD,aH7 (fS s) (fS t)];show trn (s.1++t.1)*(s.2*t.2)=_
 rw[aBt];simp only[Ci,Int.mul_left_comm,Fq]
theorem nZ {p q:List Int}(h:p.Perm q):srt ix p=srt ix q:=eW eD ((dB p).trans h) (gR eD p)
theorem aFa (s t:Tm)(n:Int):key (s.1++t.1,n)=srt ix (key s++key t):=nZ ((fS s).symm.append (fS t).symm)
def lin (ts:List Tm)(g:List Int->Int):Int:=match ts with
 | []=>0
 | t :: ts=>val t*g (key t)+lin ts g
def eN (A:List Tm)(g:List Int->Int):Int:=match A with
 | []=>0
 | p :: A=>p.2*g p.1+eN A g
theorem aJm (a b:List Tm)(g:List Int->Int):lin (a++b) g=lin a g+lin b g:=by
 induction a with
 | nil=>simp[lin]
 | cons t a ih=>simp only[Fm,lin,ih];omega
theorem aGu (a b:List Tm)(g:List Int->Int):eN (a++b) g=eN a g+eN b g:=by
 induction a with
 | nil=>simp[eN]
 | cons t a ih=>simp only[Fm,eN,ih];omega
theorem aCf {a b:List Tm}(h:a.Perm b)(g:List Int->Int):eN a g=eN b g:=by
 induction h with
 | nil=>rfl
 | cons x _ ih=>simp only[eN,ih]
 | swap x y l=>simp only[eN];omega
 | trans _ _ i1 i2=>exact i1.trans i2
theorem aDg (A:List Tm)(g:List Int->Int):eN (A.filter fun p=>p.2 != 0) g=eN A g:=by
 induction A with
 | nil=>rfl
 | cons p A ih =>
  by_cases z:p.2=0
  · rw[Do (by simp[z]),ih];simp[eN,z]
  · rw[Dm (by simp[z])];simp only[eN,ih]
theorem aEx {g:List Int->Int}:∀ (A:List Tm) (k:List Int) (v:Int),(A.map (·.1)).Nodup->eN (put A k (look A k+v)) g=eN A g+v*g k:=by
 intro A k v nd;unfold put;by_cases m:k∈A.map (·.1)
 · rw[if_pos m]
   generalize hw:look A k+v=w
   have hv:v=w-look A k:=by omega
   subst hv;clear hw
   induction A with
   | nil=>cases m
   | cons p A ih =>
    obtain⟨n1,n2⟩:=Ca.mp (show (p.1 :: A.map (·.1)).Nodup from nd)
    by_cases z:p.1=k
    · have nk:k∉A.map (·.1):=fun q=>n1 (z▸q)
      have e:A.map (fun p=>if p.1=k then (p.1,w) else p)=A:=by
       have:∀ p∈A,(if p.1=k then (p.1,w) else p)=p:=fun q hq=>if_neg fun (h:q.1=k)=>nk (by rw[←h];exact List.mem_map_of_mem hq)
       exact(Dg this).trans (List.map_id' _)
      rw[Ap,if_pos z,e];simp only[eN,look,if_pos z,Int.sub_mul];rw[z];omega
    · have mk:k∈A.map (·.1):=(Ai.mp m).elim (fun h=>absurd h.symm z) id
      simp only[Ap,if_neg z,eN,look,ih n2 mk];omega
 · rw[if_neg m,aGu,gF m]
   simp[eN]
theorem yB {g:List Int->Int}:∀ (ts A:List Tm),(A.map (·.1)).Nodup->eN (acc A ts) g=eN A g+lin ts g
 | [],A,_=>by simp[acc,lin]
 | t :: ts,A,h=>by
  show eN (acc (step A t) ts) g=_
  rw[yB ts (step A t) (sT h)];unfold step;rw[aEx A (key t) (val t) h];simp only[lin];omega
theorem tJ (ts:List Tm)(g:List Int->Int):eN (aW ts) g=lin ts g:=by
 unfold aW yN;rw[aCf (dB _) g,aDg,yB ts [] Cy];simp[eN]
def ind (k:List Int):List Int->Int:=fun l=>if l=k then 1 else 0
def zD (ts:List Tm)(k:List Int):Int:=lin ts (ind k)
theorem aF4 {A:List Tm}(h:(A.map (·.1)).Nodup)(k:List Int):look A k=eN A (ind k):=by
 induction A with
 | nil=>rfl
 | cons p A ih =>
  obtain⟨n1,n2⟩:=Ca.mp (show (p.1 :: A.map (·.1)).Nodup from h)
  by_cases z:p.1=k
  · have:eN A (ind k)=0:=by rw[←ih n2,gF fun q=>n1 (z▸q)]
    simp[look,eN,ind,z,this]
  · simp[look,eN,ind,z,ih n2]
theorem iN (ts:List Tm):((aW ts).map (·.1)).Nodup:=by
 have n1:=gD ts [] Cy;unfold aW yN;have pm:=(dB (r:=px) ((acc [] ts).filter fun p=>p.2 != 0)).map (·.1);rw[pm.nodup_iff];exact List.Nodup.sublist ((Dx).map _) n1
theorem aIv {A:List Tm}{k:List Int}(h:k∈A.map (·.1)):(k,look A k)∈A:=by
 induction A with
 | nil=>cases h
 | cons p A ih =>
  by_cases z:p.1=k
  · simp only[look,if_pos z];exact Ai.mpr (.inl (by rw[←z]))
  · simp only[look,if_neg z]
    exact Ac _ (ih ((Ai.mp h).elim (fun q=>absurd q.symm z) id))
theorem jS (ts:List Tm)(p:Tm):p∈aW ts↔p.2=zD ts p.1/\p.2≠0:=by
 have lk:look (aW ts) p.1=zD ts p.1:=by rw[aF4 (iN ts),tJ];rfl
 constructor
 · intro h
   exact⟨by rw[←lk,mZ (iN ts) h],(qQ h).2⟩
 · intro ⟨h1,h2⟩
   have m:p.1∈(aW ts).map (·.1):=by
    by_cases q:p.1∈(aW ts).map (·.1)
    · exact q
    · exact absurd (h1.trans (lk.symm.trans (gF q))) h2
   have:=aIv m
   rw[lk,←h1]at this;exact this
theorem lT {α:Type}[BEq α][LawfulBEq α]{l m:List α}(h1:l.Nodup)(h2:m.Nodup)(h:∀ x,x∈l↔x∈m):l.Perm m:=by
 rw[Ev];intro x;by_cases z:x∈l
 · have a:=Dd.mp h1 x
   have b:=Dd.mp h2 x;have c:=List.count_pos_iff.mpr z;have d:=List.count_pos_iff.mpr ((h x).mp z);omega
 · rw[Bu z,Bu fun q=>z ((h x).mpr q)]
theorem kZ {A:List Tm}(h:(A.map (·.1)).Nodup):A.Nodup:=by
 have:=Bn.mp (show List.Pairwise (fun a b=>a≠b) (A.map (·.1)) from h)
 exact Ff (fun {a b} (h:a.1≠b.1) (e:a=b)=>h (by rw[e])) this
theorem aGa {a b:List Tm}(h:∀ k,zD a k=zD b k):aW a=aW b:=by
 have pm:(aW a).Perm (aW b):=lT (kZ (iN a)) (kZ (iN b)) fun p=>by rw[jS,jS,h]
 have:=eW jG pm (show (aW a).Pairwise fun x y=>px y x=false from gR jG _)
 rw[this];exact(eW jG (Cc _) (show (aW b).Pairwise fun x y=>px y x=false from gR jG _)).symm
theorem kL {a b:List Tm}(h:∀ g,lin a g=lin b g):aW a=aW b:=aGa fun k=>h (ind k)
theorem yE {t:Tm}(h:¬ t.1.Nodup):val t=0:=by unfold val;rw[if_neg h]
theorem pK {ts:List Tm}{k:List Int}(h:zD ts k≠0):∃ t∈ts,key t=k/\t.1.Nodup:=by
 induction ts with
 | nil=>exact absurd rfl h
 | cons t ts ih =>
  by_cases z:key t=k/\t.1.Nodup
  · exact⟨t,Aa,z⟩
  · have e:val t*ind k (key t)=0:=by
     by_cases q:key t=k
     · rw[yE fun n=>z ⟨q,n⟩,Cn]
     · unfold ind;rw[if_neg q,Fp]
    have:zD ts k≠0:=fun q=>h (by show val t*ind k (key t)+lin ts (ind k)=0;rw[e];unfold zD at q;rw[q];rfl)
    obtain⟨u,hu,q⟩:=ih this;exact⟨u,Ac _ hu,q⟩
theorem jX (ts:List Tm):Told (aW ts):=by
 have of:∀ p∈aW ts,∃ t∈ts,key t=p.1/\t.1.Nodup:=fun p hp=>by
  obtain⟨h1,h2⟩:=(jS ts p).mp hp;exact pK (h1▸h2)
 refine⟨fun p hp=>?_,fun p hp=>?_,iN ts,fun p hp=>(qQ hp).2,gR jG _⟩
 · obtain⟨t,_,e,_⟩:=of p hp
   rw[←e];exact gR eD _
 · obtain⟨t,_,e,n⟩:=of p hp
   rw[←e];exact(fS t).nodup_iff.mpr n
theorem Told.lin {S:List Tm}(h:Told S)(g:List Int->Int):lin S g=eN S g:=by
 have go:∀ T:List Tm,(∀ t∈T,t∈S)->Sm.lin T g=eN T g:=by
  intro T;induction T with
  | nil=>intro _;rfl
  | cons t T ih =>
   intro hs;simp only[Sm.lin,eN,h.val (hs t Aa),h.key (hs t Aa),ih fun u hu=>hs u (Ac _ hu)]
 exact go S fun _ z=>z
theorem mG (ts:List Tm)(g:List Int->Int):lin (aW ts) g=lin ts g:=by rw[(jX ts).lin g,tJ]
theorem wC (a:List Tm)(c:Int)(g:List Int->Int):lin (gG a c) g=lin a g*c:=by
 induction a with
 | nil=>simp[gG,lin]
 | cons t a ih =>
  have e:val (t.1,t.2*c)=val t*c:=by rw[fD,fD,Ci]
  show val (t.1,t.2*c)*g (key t)+lin (gG a c) g=(val t*g (key t)+lin a g)*c
  rw[ih,e,Int.add_mul,Ci,Ci,Fq c]
theorem aIp (s:Tm)(b:List Tm)(g:List Int->Int):lin (b.map fun t=>(s.1++t.1,s.2*t.2)) g=val s*lin b (fun l=>xs (key s) l*g (srt ix (key s++l))):=by
 induction b with
 | nil=>simp[lin]
 | cons t b ih =>
  simp only[Ap,lin,ih];rw[aEr,aFa,Int.mul_add];simp only[Ci]
theorem aGm (a b:List Tm)(g:List Int->Int):lin (bO a b) g=lin a fun k=>lin b fun l=>xs k l*g (srt ix (k++l)):=by
 induction a with
 | nil=>rfl
 | cons s a ih =>
  show lin ((b.map fun t=>(s.1++t.1,s.2*t.2))++bO a b) g=_
  rw[aJm,aIp,ih];rfl
end Sm
namespace Sm
open Srt
theorem aCb {a:List Tm}{f h:List Int->Int}(e:∀ t∈a,f (key t)=h (key t)):lin a f=lin a h:=by
 induction a with
 | nil=>rfl
 | cons t a ih=>simp only[lin,e t Aa,ih fun u hu=>e u (Ac _ hu)]
theorem aJs (a:List Tm)(f:List Int->Int)(c:Int):lin a (fun k=>f k*c)=lin a f*c:=by
 induction a with
 | nil=>simp[lin]
 | cons t a ih=>simp only[lin,ih,Int.add_mul,Ci]
def und (b:Int)(p:List Int):Nat:=(p.filter fun a=>decide (a<b)).length
def Deg (L:Nat)(a:List Tm):Prop:=∀ t∈a,t.1.length=L
end Sm
namespace Sm
open Srt
def fG (m:Nat):List Int:=(Bd m).map fun (i:Nat)=>(i:Int)
def aOb (m:Nat):Nat->List (List Int)
 | 0=>[[]]
 | r+1=>(aOb m r).flatMap fun w=>(fG m).map fun i=>w++[i]
def prd:List (List Int)->List Int->Int
 | r :: rs,x :: w=>r.getD x.toNat 0*prd rs w
 | _,_=>1
def vK {α:Type}(l:List α)(f:α->Int):Int:=match l with
 | []=>0
 | x :: l=>f x+vK l f
theorem aGh {α β:Type}(g:α->β)(l:List α)(f:β->Int):vK (l.map g) f=vK l fun x=>f (g x):=by
 induction l with
 | nil=>rfl
 | cons x l ih=>simp only[Ap,vK,ih]
theorem aAd {α:Type}{l:List α}{f g:α->Int}(h:∀ x∈l,f x=g x):vK l f=vK l g:=by
 induction l with
 | nil=>rfl
 | cons x l ih=>simp only[vK,h x Aa,ih fun y hy=>h y (Ac _ hy)]
theorem yU (ts:List Tm)(g:List Int->Int):lin ts g=vK ts fun t=>val t*g (key t):=by
 induction ts with
 | nil=>rfl
 | cons t ts ih=>simp only[lin,vK,ih]
theorem yS {m:Nat}:∀ {r:Nat} {w:List Int},w∈aOb m r↔w.length=r/\∀ x∈w,0<=x/\x<m
 | 0,w=>by
  constructor
  · intro h;rw[Ay.mp h];exact⟨rfl,fun x hx=>by cases hx⟩
  · intro h;rw[By.mp h.1];exact Ay.mpr rfl
 | r+1,w=>by
  have mr:∀ x:Int,x∈fG m↔0<=x/\x<m:=fun x=>by
   constructor
   · intro h;obtain⟨i,hi,rfl⟩:=Ar.mp h;have:=Co.mp hi;omega
   · intro h;exact Ar.mpr ⟨x.toNat,Co.mpr (by omega),by omega⟩
  constructor
  · intro h
    obtain⟨v,hv,h⟩:=Cv.mp h;obtain⟨i,hi,e⟩:=Ar.mp h;obtain⟨h1,h2⟩:=yS.mp hv;rw[←e];refine⟨by rw[An,h1];rfl,fun x hx=>?_⟩
    rcases Bg.mp hx with q | q
    · exact h2 x q
    · rw[Ay.mp q];exact(mr i).mp hi
  · intro ⟨h1,h2⟩
    have hw:w≠[]:=fun z=>by rw[z]at h1;simp at h1
    have hc:=Dt hw;refine Cv.mpr ⟨w.dropLast,yS.mpr ⟨by rw[List.length_dropLast];omega,fun x hx=>h2 x (List.dropLast_subset _ hx)⟩,Ar.mpr ⟨w.getLast hw,(mr _).mpr (h2 _ (List.getLast_mem hw)),hc⟩⟩
theorem lQ (m:Nat):(fG m).Nodup:=by
 show List.Pairwise (fun a b=>a≠b) (Fx _ _)
 rw[Bn];exact Ff (fun {a b} h e=>h (by omega)) (show List.Pairwise (fun a b=>a≠b) (Bd m) from List.nodup_range)
theorem tG {p:List Int}(up:p.Pairwise fun a b=>ix b a=false)(nd:p.Nodup):p.Pairwise (·<·):=by
 have both:=Gc up (show List.Pairwise (fun a b=>a≠b) p from nd)
 exact both.imp fun {a b} h=>by
  have h1:ix b a=false:=h.1;unfold ix at h1;have:=of_decide_eq_false h1
  have:=h.2
  omega
def aPp (p:List Int)(o:List Int):List Int:=o.map fun j=>p.getD j.toNat 0
theorem nF {m:Nat}{x:Int}:x∈fG m↔0<=x/\x<m:=by
 constructor
 · intro h;obtain⟨i,hi,rfl⟩:=Ar.mp h;have:=Co.mp hi;omega
 · intro h;exact Ar.mpr ⟨x.toNat,Co.mpr (by omega),by omega⟩
end Sm
namespace Sm
open Srt
def cut {α:Type}(k:Nat)(l:List α):List α:=l.take k++l.drop (k+1)
theorem aAk:∀ n,n<6->(fG n).Pairwise (·<·):=by decide +kernel
theorem aKf {p:List Int}(h:p.Pairwise (·<·)):p.Pairwise fun a b=>ix b a=false:=h.imp fun {a b} h=>decide_eq_false (by omega)
end Sm
namespace Sm
open PySem L2 Mir Srt
abbrev aB (ts:List Tm):D:=.lst (ts.map mkP)
def aBv (φ:Φ):Prop:=∀ ts:List Tm,Fit ts->φ [aB ts]=.ok ⟨.tmp,true,aB (aW ts)⟩
abbrev aAu (i:Nat):FE:=bW (dC (vE 0)) 2 [i] (.tp [.nm 0,.nm 1]) (bE (dO [vE 0,cC (vE 1) (vE 2)]))
theorem sV {p:List Int}{f:Bool}{r:Mir.Env}:vE 0 (some ⟨.shr,f,.tup (li p)⟩ :: r)=.ok ⟨.shr,true,.tup (li p)⟩:=by
 show R.ok (⟨.shr,f||(D.tup (li p)).imm,.tup (li p)⟩:Res)=_
 rw[aEc,Ez]
theorem aNh {i:Nat}{ρ:Mir.Env}{k:Int}{kd:Kd}{f f':Bool}{L:Nat}{a:List Tm}(ha:Sum L a)(hk:k.natAbs<=2^80)(h0:vE 0 ρ=.ok ⟨kd,f,aB a⟩)(hi:ρ[i]?=some (some ⟨.shr,f',.int k⟩)):aAu i ρ=.ok ⟨.tmp,true,aB (gG a k)⟩:=by
 have e:gG a k=a.map fun t=>(t.1,t.2*k):=rfl;have e2:aB (gG a k)=.lst (a.map fun t=>mkP (t.1,t.2*k)):=by rw[e];show D.lst (Fx mkP (Fx _ a))=_;rw[Bm];rfl
 rw[e2];refine wN (inj:=mkP) (xs:=a) (lG h0) (fun t ht=>?_) (by have:=ha.ln;rw[sizeLine_eq];omega)
 have env:dM 2 [i] ρ=[none,none,some ⟨.shr,f',.int k⟩]:=by simp[dM,hi]
 refine⟨[some ⟨.shr,f,.tup (li t.1)⟩,some ⟨.shr,f,.int t.2⟩,some ⟨.shr,f',.int k⟩],.shr,by rw[env];rfl,aJy ?_,by decide⟩
 refine(iB (k':=.shr) (fr':=true) (d':=.int (t.2*k)) sV (bM (k:=.shr) (fr:=f||(D.int t.2).imm) (k':=.shr) (fr':=f'||(D.int k).imm) rfl rfl (gJ (jU (Ak (ha.nb t ht) (Az (by decide) (by decide)))) (jU (Ak hk (Az (by decide) (by decide)))))) (by decide) (by decide)).trans rfl
theorem aIi {φ:Φ}(hφ:aBv φ){L:Nat}{a:List Tm}(ha:Sum L a){k:Int}(hk:k.natAbs<=2^80):cW 2 2 (bD (aC φ [aAu 1])) [aB a,.int k]=.ok ⟨.tmp,true,aB (aW (gG a k))⟩:=by
 have e0:aAu 1 [some ⟨.shr,false,aB a⟩,some ⟨.shr,false,.int k⟩]=.ok ⟨.tmp,true,aB (gG a k)⟩:=aNh (kd:=.shr) (f:=false) (f':=false) ha hk rfl rfl;have e1:aC φ [aAu 1] [some ⟨.shr,false,aB a⟩,some ⟨.shr,false,.int k⟩]=.ok ⟨.tmp,true,aB (aW (gG a k))⟩:=bR (rs:=[⟨.tmp,true,aB (gG a k)⟩]) (aD e0 bB) (hφ _ (ha.fitT hk));exact(dX rfl (fX e1)).trans rfl
theorem aAq {f g:FE}{ρ:Mir.Env}{k k':Kd}{fr fr':Bool}{p q:List Int}(h1:f ρ=.ok ⟨k,fr,.tup (li p)⟩)(h2:g ρ=.ok ⟨k',fr',.tup (li q)⟩)(hz:p.length+q.length<=1000):jP f g ρ=.ok ⟨.shr,fr&&fr',.tup (li (p++q))⟩:=by
 have c:(li p).length+(li q).length<=sizeLine:=by rw[Ab,Ab,sizeLine_eq];omega
 simp only[jP,h1,h2,R.ok_bind,asT,if_pos c,li,Bo]
end Sm
namespace Sm
open PySem L2 Mir Srt
abbrev yX (i j:Nat):FE:=bW (dC (vE 1)) 2 [i,j] (.tp [.nm 0,.nm 1]) (bE (dO [jP (vE 2) (vE 0),cC (vE 3) (vE 1)]))
def rS (s:Tm)(b:List Tm):List Tm:=b.map fun t=>(s.1++t.1,s.2*t.2)
theorem tD {n:Nat}(h:n<=2^240):n<2^1000:=jU (Ak h (Az (by decide) (by decide)))
theorem aFu {L K:Nat}{b:List Tm}(hb:Sum K b)(hL:L<=20)(s:Tm)(h1:s.1.length=L)(h2:s.2.natAbs<=2^240)(a0:Option Res)(x2:Option Res)(f3 f4 fb:Bool) :
 yX 3 4 [a0,some ⟨.shr,fb,aB b⟩,x2,some ⟨.shr,f3,.tup (li s.1)⟩,some ⟨.shr,f4,.int s.2⟩]=.ok ⟨.tmp,true,aB (rS s b)⟩:=by
 have e2:aB (rS s b)=.lst (b.map fun t=>mkP (s.1++t.1,s.2*t.2)):=by show D.lst (Fx mkP (Fx _ b))=_;rw[Bm];rfl
 rw[e2];refine wN (inj:=mkP) (xs:=b) (lG (k:=.shr) (fr:=fb||(aB b).imm) rfl) (fun t ht=>?_) (by have:=hb.ln;rw[sizeLine_eq];omega)
 refine⟨[some ⟨.shr,fb||(aB b).imm,.tup (li t.1)⟩,some ⟨.shr,fb||(aB b).imm,.int t.2⟩,some ⟨.shr,f3,.tup (li s.1)⟩,some ⟨.shr,f4,.int s.2⟩],.shr,rfl,aJy ?_,by decide⟩
 have v2:vE 2 [some ⟨.shr,fb||(aB b).imm,.tup (li t.1)⟩,some ⟨.shr,fb||(aB b).imm,.int t.2⟩,some ⟨.shr,f3,.tup (li s.1)⟩,some ⟨.shr,f4,.int s.2⟩]=.ok ⟨.shr,true,.tup (li s.1)⟩:=sV (p:=s.1) (f:=f3) (r:=[]);have hk:=hb.hL;refine(iB (k:=.shr) (fr:=true) (d:=.tup (li (s.1++t.1))) (k':=.shr) (fr':=true) (d':=.int (s.2*t.2)) (aAq v2 sV (by rw[h1,hb.sz t ht];omega)) (bM (k:=.shr) (fr:=f4||(D.int s.2).imm) (k':=.shr) (fr':=(fb||(aB b).imm)||(D.int t.2).imm) rfl rfl (gJ (tD h2) (tD (hb.nb t ht)))) (by decide) (by decide)).trans rfl
abbrev aKs (φ:Φ):FS :=
 (aL (aR 2 (bZ []))
 (aL (cV (dC (vE 0)) (.tp [.nm 3,.nm 4]) (wQ 2 (yX 3 4)))
 (bD (aC φ [vE 2]))))
theorem wV (a b:List Tm):(bO a b).length=a.length*b.length:=by
 induction a with
 | nil=>simp[bO]
 | cons x c ih =>
  show (rS x b++bO c b).length=_
  rw[An,ih,rS,Ab,Av,Fo,Nat.add_comm]
theorem tU {L K:Nat}{b:List Tm}(hb:Sum K b)(hL:L<=20)(A:D):∀ (a:List Tm),(∀ t∈a,t.1.length=L/\t.2.natAbs<=2^240)->∀ (acc:List Tm) (x3 x4:Option Res),acc.length+a.length*b.length<=1000 ->
 ∃ x3' x4',fZ (.tp [.nm 3,.nm 4]) (wQ 2 (yX 3 4)) false (a.map mkP) [some ⟨.shr,false,A⟩,some ⟨.shr,false,aB b⟩,some ⟨.own,true,aB acc⟩,x3,x4]=.nx [some ⟨.shr,false,A⟩,some ⟨.shr,false,aB b⟩,some ⟨.own,true,aB (acc++bO a b)⟩,x3',x4']
 | [],_,acc,x3,x4,_=>⟨x3,x4,by rw[show bO [] b=[] from rfl,Ce];rfl⟩
 | s :: a,h,acc,x3,x4,hz=>by
  rw[Av,Fo]at hz;obtain⟨h1,h2⟩:=h s Aa;have er:=aFu hb hL s h1 h2 (some ⟨.shr,false,A⟩) (some ⟨.own,true,aB acc⟩) false false false;have rl:(rS s b).length=b.length:=Ab _
  have ex:wQ 2 (yX 3 4) [some ⟨.shr,false,A⟩,some ⟨.shr,false,aB b⟩,some ⟨.own,true,aB acc⟩,some ⟨.shr,false,.tup (li s.1)⟩,some ⟨.shr,false,.int s.2⟩]=.nx [some ⟨.shr,false,A⟩,some ⟨.shr,false,aB b⟩,some ⟨.own,true,aB (acc++rS s b)⟩,some ⟨.shr,false,.tup (li s.1)⟩,some ⟨.shr,false,.int s.2⟩]:=by
   have o:rT 2 [some ⟨.shr,false,A⟩,some ⟨.shr,false,aB b⟩,some ⟨.own,true,aB acc⟩,some ⟨.shr,false,.tup (li s.1)⟩,some ⟨.shr,false,.int s.2⟩]=.ok (true,acc.map mkP):=rfl;have c:(acc.map mkP).length+((rS s b).map mkP).length<=sizeLine:=by rw[Ab,Ab,rl,sizeLine_eq];omega
   simp only[wQ,o,R.at,er,if_pos c];show RS.nx [_,_,some (⟨.own,true,.lst (acc.map mkP++(rS s b).map mkP)⟩:Res),_,_]=_
   rw[←Bo]
  obtain⟨x3',x4',ih⟩:=tU hb hL A a (fun t ht=>h t (Ac _ ht)) (acc++rS s b) (some ⟨.shr,false,.tup (li s.1)⟩) (some ⟨.shr,false,.int s.2⟩) (by rw[An,rl];omega)
  refine⟨x3',x4',?_⟩
  have bd:Tg.bind false (.tp [.nm 3,.nm 4]) (mkP s) [some ⟨.shr,false,A⟩,some ⟨.shr,false,aB b⟩,some ⟨.own,true,aB acc⟩,x3,x4]=.ok [some ⟨.shr,false,A⟩,some ⟨.shr,false,aB b⟩,some ⟨.own,true,aB acc⟩,some ⟨.shr,false,.tup (li s.1)⟩,some ⟨.shr,false,.int s.2⟩]:=rfl;simp only[Ap,fZ,bd,R.at,ex];refine ih.trans ?_
  rw[show bO (s :: a) b=rS s b++bO a b from rfl,Db]
theorem aNl {φ:Φ}(hφ:aBv φ){L K:Nat}{a b:List Tm}(ha:Sum L a)(hb:Sum K b):cW 2 5 (aKs φ) [aB a,aB b]=.ok ⟨.tmp,true,aB (aW (bO a b))⟩:=by
 have l1:=ha.ln;have l2:=hb.ln;have lm:a.length*b.length<=400:=Ak (Cb l1 l2) (by decide)
 have e1:aR 2 (bZ []) [some ⟨.shr,false,aB a⟩,some ⟨.shr,false,aB b⟩,none,none,none]=.nx [some ⟨.shr,false,aB a⟩,some ⟨.shr,false,aB b⟩,some ⟨.own,true,aB []⟩,none,none]:=rfl;obtain⟨x3,x4,l⟩:=tU hb ha.hL (aB a) a (fun t ht=>⟨ha.sz t ht,ha.nb t ht⟩) [] none none (by rw[Bp];omega)
 rw[Cq]at l;have e2:cV (dC (vE 0)) (.tp [.nm 3,.nm 4]) (wQ 2 (yX 3 4)) [some ⟨.shr,false,aB a⟩,some ⟨.shr,false,aB b⟩,some ⟨.own,true,aB []⟩,none,none]=.nx [some ⟨.shr,false,aB a⟩,some ⟨.shr,false,aB b⟩,some ⟨.own,true,aB (bO a b)⟩,x3,x4]:=(fT (fr:=false) (ds:=a.map mkP) rfl).trans l;have e3:aC φ [vE 2] [some ⟨.shr,false,aB a⟩,some ⟨.shr,false,aB b⟩,some ⟨.own,true,aB (bO a b)⟩,x3,x4]=.ok ⟨.tmp,true,aB (aW (bO a b))⟩:=bR (rs:=[⟨.own,true,aB (bO a b)⟩]) (aD rfl bB) (hφ _ (ha.fitP hb));exact(dX rfl ((aQ e1).trans ((aQ e2).trans (fX e3)))).trans rfl
end Sm
namespace Sm
open PySem L2 Mir Srt
theorem sm9 {x:Int}(h:x.natAbs<=1000000000):x.natAbs<2^1000:=aBz (M:=1000000000) (pV (by decide)) h
end Sm
namespace Sm
open PySem L2 Mir Srt
def dH (ns:List Int)(k:Nat):Int:=if k<ns.length then ns.getD k 0%2147483647 else 0
theorem qF (ns:List Int)(k:Nat):0<=dH ns k/\dH ns k<2147483647:=by
 unfold dH;split
 · exact⟨Fv _ (by decide),Fc _ (by decide)⟩
 · decide
abbrev aL4:FS:=(aL (ifS (bT (ltE (vE 1) (bY (vE 0))))
 (bD (dF (aX (vE 0) (vE 1)) (cE (.int 2147483647))))
 cI)
 (bD (cE (.int 0))))
theorem aFg (ns:List Int)(k:Nat):cW 2 2 aL4 [.lst (li ns),.int k]=.ok (sc (.int (dH ns k))):=by
 refine(dX (r:=sc (.int (dH ns k))) rfl ?_).trans rfl
 have t:ltE (vE 1) (bY (vE 0)) (stE 2 [.lst (li ns),.int k])=.ok (sc (.bl (decide ((k:Int)<(li ns).length)))):=fJ (i:=(k:Int)) (j:=((li ns).length:Int)) rfl (lN (ds:=li ns) rfl);by_cases h:k<ns.length
 · refine(zW (r:=sc (.int (dH ns k))) ?_)
   refine(aJz t).trans ?_
   rw[decide_eq_true (by simpa using h)]
   refine(if_pos rfl).trans ?_
   have e:=bM (C:=CP) (G:=fun i j=>i%j) (f:=aX (vE 0) (vE 1)) (g:=cE (.int 2147483647)) (ρ:=[some ⟨.shr,false,.lst (li ns)⟩,some ⟨.shr,false,.int k⟩]) (j:=2147483647) (aBh (ds:=li ns) (i:=k) (z:=ns.getD k 0) rfl rfl (uO h)) rfl (decide_eq_true (by decide))
   refine(oW e).trans ?_
   unfold dH;rw[if_pos h];rfl
 · refine(aQ (ρ1:=stE 2 [.lst (li ns),.int k]) ?_).trans ?_
   · refine(aJz t).trans ?_
     rw[decide_eq_false (by simpa using h)]
     rfl
   · unfold dH
     rw[if_neg h];rfl
abbrev S0 (ns:List Int):Option Res:=some ⟨.shr,false,.lst (li ns)⟩
abbrev iR (i:Int):Option Res:=some ⟨.shr,true,.int i⟩
abbrev oR (S:List Tm):Option Res:=some ⟨.own,true,aB S⟩
theorem aIo {φ:Φ}(hφ:∀ ns k,φ [.lst (li ns),.int (k:Nat)]=.ok (sc (.int (dH ns k))))(ns:List Int)(k:Nat)(r:List (Option Res)):aC φ [vE 0,cE (.int k)] (S0 ns :: r)=.ok ⟨.shr,true,.int (dH ns k)⟩:=jE (rs:=[⟨.shr,false,.lst (li ns)⟩,⟨.shr,true,.int k⟩]) (aD rfl (aD rfl bB)) (hφ ns k)
theorem qG (j:Nat):(sgn j).natAbs<=1:=by rcases lI j with z | z<;>rw[z]<;>decide
theorem aN9 {t:Tm}(ht:t.2.natAbs<=2^240)(j:Nat):(t.2*sgn j).natAbs<=2^240:=by
 rw[Di];exact Ak (Cb ht (qG j)) (by rw[Nat.mul_one];exact Af _)
end Sm
namespace Sm
open PySem L2 Mir Srt
theorem fN {tg:Tg}{b:FS}{fr:Bool}{d:D}{r:List D}{ρ ρ1 ρ2:Mir.Env}(h1:tg.bind fr d ρ=.ok ρ1)(h2:b ρ1=.nx ρ2):fZ tg b fr (d :: r) ρ=fZ tg b fr r ρ2:=by
 simp only[fZ,h1,R.at,h2]
end Sm
namespace Sm
open PySem L2 Mir Srt
theorem qV (S:List Tm):(aB S).pl 6=true:=by
 show (D.lst (S.map mkP)).pl 6=true
 simp only[D.pl];refine vD fun d hd=>?_
 obtain⟨t,_,rfl⟩:=Ar.mp hd;show (D.tup [.tup (li t.1),.int t.2]).pl 5=true
 simp[D.pl,D.pls,aK2]
end Sm
namespace Sm
open PySem L2 Mir Srt
def yA (k:List Int):Nat:=k.count 0+2*k.count 1+4*k.count 2+8*k.count 3+16*k.count 4
def aGt (n:Nat):Nat:=n%2+n/2%2+n/4%2+n/8%2+n/16%2
theorem zZ:∀ T,T<=5->((Bd 32).filter fun n=>aGt n==T).length<=10:=by decide +kernel
theorem aAl:∀ a,a<2->∀ b,b<2->∀ c,c<2->∀ d,d<2->∀ e,e<2->aGt (a+2*b+4*c+8*d+16*e)=a+b+c+d+e:=by decide +kernel
theorem aQ7 {ks:List (List Int)}{T:Nat}(nd:ks.Nodup)(hs:∀ k∈ks,k=srt ix k)(rg:∀ k∈ks,∀ x∈k,0<=x/\x<5)(n1:∀ k∈ks,k.Nodup)(ln:∀ k∈ks,k.length=T):ks.length<=10:=by
 have c1:∀ k∈ks,∀ x,k.count x<=1:=fun k hk x=>Dd.mp (n1 k hk) x;by_cases hT:T<=5
 · have inj:(ks.map yA).Nodup:=by
    show List.Pairwise (fun a b=>a≠b) (ks.map yA)
    rw[Bn];refine Eb (fun {a b} ha hb n e=>n ?_) nd
    have a0:=c1 a ha 0;have a1:=c1 a ha 1;have a2:=c1 a ha 2;have a3:=c1 a ha 3;have a4:=c1 a ha 4;have b0:=c1 b hb 0;have b1:=c1 b hb 1;have b2:=c1 b hb 2;have b3:=c1 b hb 3;have b4:=c1 b hb 4;unfold yA at e;have q0:a.count 0=b.count 0:=by omega
    have q1:a.count 1=b.count 1:=by omega
    have q2:a.count 2=b.count 2:=by omega
    have q3:a.count 3=b.count 3:=by omega
    have q4:a.count 4=b.count 4:=by omega
    have pm:a.Perm b:=by
     rw[Ev];intro x;by_cases hx:0<=x/\x<5
     · have hx:x=0\/x=1\/x=2\/x=3\/x=4:=by omega
       rcases hx with e | e | e | e | e<;>subst e<;>assumption
     · rw[Bu fun m=>hx (rg a ha x m),Bu fun m=>hx (rg b hb x m)]
    rw[hs a ha,hs b hb];exact eW eD ((dB a).trans pm) (gR eD a)
   have sub:∀ n∈ks.map yA,n∈(Bd 32).filter fun n=>aGt n==T:=by
    intro n hn;obtain⟨k,hk,rfl⟩:=Ar.mp hn;have a0:=c1 k hk 0;have a1:=c1 k hk 1;have a2:=c1 k hk 2;have a3:=c1 k hk 3;have a4:=c1 k hk 4;have s:=iS k (rg k hk);rw[ln k hk]at s;rw[Cr,Co,beq_iff_eq];unfold yA;rw[aAl _ (by omega) _ (by omega) _ (by omega) _ (by omega) _ (by omega)]
    omega
   have:=pA inj sub
   rw[Ab]at this;exact Ak this (zZ T hT)
 · cases ks with
   | nil=>exact Bz _
   | cons k r =>
    have a0:=c1 k Aa 0;have a1:=c1 k Aa 1;have a2:=c1 k Aa 2;have a3:=c1 k Aa 3;have a4:=c1 k Aa 4;have s:=iS k (rg k Aa);rw[ln k Aa]at s;omega
def Nb (B:Nat)(ts:List Tm):Prop:=∀ t∈ts,t.2.natAbs<=2^B
structure Five (T:Nat)(ts:List Tm):Prop where
 sz:∀ t∈ts,t.1.length=T
 rg:∀ t∈ts,∀ x∈t.1,0<=x/\x<5
theorem uZ {ts:List Tm}:∀ p∈aW ts,∃ t∈ts,key t=p.1/\t.1.Nodup:=fun p hp=>by
 obtain⟨h1,h2⟩:=(jS ts p).mp hp;exact pK (h1▸h2)
theorem Five.sum {T:Nat}{ts:List Tm}(h:Five T ts):Five T (aW ts)/\(aW ts).length<=10:=by
 have f:Five T (aW ts):=⟨fun p hp=>by
  obtain⟨t,ht,e,_⟩:=uZ p hp;rw[←e,uL];exact h.sz t ht,fun p hp x hx=>by
  obtain⟨t,ht,e,_⟩:=uZ p hp;rw[←e]at hx
  exact h.rg t ht x ((fS t).mem_iff.mp hx)⟩
 refine⟨f,?_⟩
 have told:=jX ts
 have:=aQ7 (ks:=(aW ts).map (·.1)) (T:=T) told.ks (fun k hk=>by
  obtain⟨p,hp,rfl⟩:=Ar.mp hk;exact eW eD (Cc _) (told.up p hp)) (fun k hk=>by
  obtain⟨p,hp,rfl⟩:=Ar.mp hk;exact f.rg p hp) (fun k hk=>by
  obtain⟨p,hp,rfl⟩:=Ar.mp hk;exact told.nd p hp) (fun k hk=>by
  obtain⟨p,hp,rfl⟩:=Ar.mp hk
  exact f.sz p hp)
 rw[Ab]at this;exact this
theorem aFl {ts:List Tm}{B c:Nat}(ln:ts.length<=2^c)(nb:Nb B ts):Nb (B+c) (aW ts):=fun p hp=>by
 have:=aGq ts [] (M:=0) (fun _ h=>nomatch h) nb p (qQ hp).1
 rw[Ew]at this;refine Ak this ?_
 rw[Fd,Nat.mul_comm];exact Nat.mul_le_mul_left _ ln
theorem Five.sumS {T:Nat}{ts:List Tm}(h:Five T ts){B c:Nat}(ln:ts.length<=2^c)(nb:Nb B ts)(hB:B+c<=240)(hT:T<=20):Sum T (aW ts):=by
 obtain⟨f,l⟩:=h.sum;exact⟨by omega,hT,f.sz,f.rg,(jX ts).nd,fun p hp=>Ak (aFl ln nb p hp) (Az (by decide) hB)⟩
theorem Five.prod {T S:Nat}{a b:List Tm}(ha:Five T a)(hb:Five S b):Five (T+S) (bO a b):=by
 have mem:∀ t∈bO a b,∃ u∈a,∃ v∈b,t=(u.1++v.1,u.2*v.2):=fun t ht=>by
  obtain⟨u,hu,h⟩:=Cv.mp ht;obtain⟨v,hv,e⟩:=Ar.mp h;exact⟨u,hu,v,hv,e.symm⟩
 refine⟨fun t ht=>?_,fun t ht x hx=>?_⟩
 · obtain⟨u,hu,v,hv,rfl⟩:=mem t ht
   rw[An,ha.sz u hu,hb.sz v hv]
 · obtain⟨u,hu,v,hv,rfl⟩:=mem t ht
   rcases Bg.mp hx with q | q
   · exact ha.rg u hu x q
   · exact hb.rg v hv x q
theorem aJo {a b:List Tm}{B C:Nat}(ha:Nb B a)(hb:Nb C b):Nb (B+C) (bO a b):=fun t ht=>by
 obtain⟨u,hu,h⟩:=Cv.mp ht;obtain⟨v,hv,e⟩:=Ar.mp h;rw[←e];show (u.2*v.2).natAbs<=_
 rw[Di,Fd];exact Cb (ha u hu) (hb v hv)
theorem Sum.five {L:Nat}{a:List Tm}(h:Sum L a):Five L a:=⟨h.sz,h.rg⟩
end Sm
namespace Sm
open PySem L2 Mir Srt
theorem mU {φ:Φ}{fs:FEs}{ρ:Mir.Env}{rs:List Res}{x:Xc}(h:evs fs ρ=.ok rs)(hφ:φ (rs.map (·.d))=.exc x):aC φ fs ρ=.exc x:=by
 simp only[aC,h,R.ok_bind,hφ,R.exc_bind]
theorem qK {f:FE}{ρ:Mir.Env}{x:Xc}(h:f ρ=.exc x):iD f ρ=.exc x ρ:=by simp only[iD,h,R.at]
abbrev aA4 (s:String):FS:=(ifS (orT (bT (ltE (vE 0) (cE (.int 1)))) (bT (gtE (vE 0) (cE (.int 5)))))
 (vC .BadCount [cE (.str s)])
 cI)
theorem aM6 {f g:FE}{ρ:Mir.Env}{k k':Kd}{fr fr':Bool}{b c:Bool}(h1:f ρ=.ok ⟨k,fr,.bl b⟩)(h2:g ρ=.ok ⟨k',fr',.bl c⟩):orT (bT f) (bT g) ρ=.ok (b||c):=by
 refine(fV (cY h1) fun _=>cY h2).trans ?_
 cases b<;>rfl
theorem aKd (m:Int):orT (bT (ltE (vE 0) (cE (.int 1)))) (bT (gtE (vE 0) (cE (.int 5)))) [some ⟨.shr,false,.int m⟩]=.ok (decide (m<1)||decide (5<m)) :=
 aM6 (fJ (G:=fun i j=>decide (i<j)) (k:=.shr) (fr:=true) (i:=m) (k':=.shr) (fr':=true) (j:=1) rfl rfl) (fJ (G:=fun i j=>decide (j<i)) (k:=.shr) (fr:=true) (i:=m) (k':=.shr) (fr':=true) (j:=5) rfl rfl)
theorem aEf {s:String}{m:Int}(h:(decide (m<1)||decide (5<m))=true):cW 1 1 (aA4 s) [.int m]=.exc ⟨.BadCount,[]⟩:=by
 refine uW (ρ:=[some ⟨.shr,false,.int m⟩]) rfl ((hE (aKd m)).trans ?_)
 rw[h];rfl
theorem aEk {s:String}{m:Int}(h:(decide (m<1)||decide (5<m))=false):cW 1 1 (aA4 s) [.int m]=.ok (sc .non):=by
 refine aLd (ρ:=[some ⟨.shr,false,.int m⟩]) rfl ((hE (aKd m)).trans ?_)
 rw[h];rfl
end Sm
namespace Sm
open PySem L2 Mir Srt
theorem aH1 {f:FE}{ρ:Mir.Env}{k:Kd}{fr:Bool}{ds:List D}(h:f ρ=.ok ⟨k,fr,.lst ds⟩):jH f ρ=.ok ⟨.tmp,fr,.lst ds⟩:=by simp only[jH,h,R.ok_bind,asS]
end Sm
namespace Sm
open PySem L2 Mir Srt
theorem aJb {f g h i:FE}{ρ:Mir.Env}{a b c d:Int}(h1:f ρ=.ok ⟨.shr,true,.int a⟩)(h2:g ρ=.ok ⟨.shr,true,.int b⟩)(h3:h ρ=.ok ⟨.shr,true,.int c⟩)(h4:i ρ=.ok ⟨.shr,true,.int d⟩):bZ [f,g,h,i] ρ=.ok ⟨.tmp,true,.lst (li [a,b,c,d])⟩:=by
 have hz:([D.int a,.int b,.int c,.int d]:List D).length<=sizeLine:=by show 4<=sizeLine;decide
 have e:evs [f,g,h,i] ρ=.ok [⟨.shr,true,.int a⟩,⟨.shr,true,.int b⟩,⟨.shr,true,.int c⟩,⟨.shr,true,.int d⟩]:=aD h1 (aD h2 (aD h3 (aD h4 bB)));have g':gives [⟨.shr,true,.int a⟩,⟨.shr,true,.int b⟩,⟨.shr,true,.int c⟩,⟨.shr,true,.int d⟩]=.ok (true,[.int a,.int b,.int c,.int d]):=rfl;simp only[bZ,e,R.ok_bind,g'];exact if_pos hz
end Sm
namespace Sm
open PySem L2 Mir Srt
def aP (m:Nat)(p:List Int):List Int:=(fG m).filter fun w=>!(p.any (·==w))
theorem aEs (p:List Int)(w:Int):(p.any (·==w))=true↔w∈p:=by
 rw[El];constructor
 · rintro⟨x,hx,e⟩;rw[←eq_of_beq e];exact hx
 · intro h;exact⟨w,h,beq_self_eq_true w⟩
theorem fR {m:Nat}{p:List Int}{w:Int}:w∈aP m p↔(0<=w/\w<m)/\w∉p:=by
 unfold aP;rw[Cr,nF];constructor
 · intro ⟨a,b⟩
   refine⟨a,fun h=>?_⟩
   rw[(aEs p w).mpr h]at b;cases b
 · intro ⟨a,b⟩
   refine⟨a,?_⟩
   cases q:p.any (·==w) with
   | true=>exact absurd ((aEs p w).mp q) b
   | false=>rfl
theorem aJh (m:Nat):(fG m).Pairwise fun a b=>ix b a=false:=by
 show List.Pairwise _ (Fx _ _)
 rw[Bn];exact Ff (fun {a b} (h:a<b)=>decide_eq_false (by omega)) (show List.Pairwise (·<·) (Bd m) from List.pairwise_lt_range)
theorem aAv (m:Nat)(p:List Int):(aP m p).Pairwise fun a b=>ix b a=false:=Fw Dx (aJh m)
theorem vO (m:Nat)(p:List Int):(aP m p).Nodup:=List.Nodup.sublist Dx (lQ m)
theorem aCz {m:Nat}{p:List Int}(nd:p.Nodup)(rg:∀ x∈p,0<=x/\x<(m:Int)):(p++aP m p).Perm (fG m):=by
 refine lT (zM.mpr ⟨nd,vO m p,fun x hx h=>(fR.mp h).2 hx⟩) (lQ m) fun x=>?_
 rw[Bg,fR,nF];constructor
 · rintro (h | h)
   · exact rg x h
   · exact h.1
 · intro h
   by_cases q:x∈p
   · exact .inl q
   · exact .inr ⟨h,q⟩
theorem pZ {m:Nat}{p:List Int}(nd:p.Nodup)(rg:∀ x∈p,0<=x/\x<(m:Int)):(aP m p).length=m-p.length:=by
 have:=(aCz nd rg).length_eq
 rw[An,show (fG m).length=m by simp[fG]]at this
 omega
theorem aF2 {m:Nat}{p q:List Int}(up:p.Pairwise fun a b=>ix b a=false)(uq:q.Pairwise fun a b=>ix b a=false)(np:p.Nodup)(nq:q.Nodup)(rp:∀ x∈p,0<=x/\x<(m:Int))(rq:∀ x∈q,0<=x/\x<(m:Int))(e:aP m p=aP m q):p=q:=by
 have pm:p.Perm q:=lT np nq fun x=>by
  constructor
  · intro h
    by_cases z:x∈q
    · exact z
    · have:x∈aP m q:=fR.mpr ⟨rp x h,z⟩
      rw[←e]at this;exact absurd h (fR.mp this).2
  · intro h
    by_cases z:x∈p
    · exact z
    · have:x∈aP m p:=fR.mpr ⟨rq x h,z⟩
      rw[e]at this;exact absurd h (fR.mp this).2
 rw[eW eD (Cc p) up,eW eD (Cc q) uq];exact nZ pm
theorem aEn {p q:List Int}(up:p.Pairwise fun a b=>ix b a=false)(np:p.Nodup)(uq:q.Pairwise fun a b=>ix b a=false)(nq:q.Nodup)(dj:∀ x∈p,x∉q):trn (p++q)=sgn (bS p q):=by
 rw[aBt];unfold trn xs;rw[if_pos np,if_pos nq,if_pos dj,jF up,jF uq,xS,Ct,Ct]
def ovT (m:Nat)(t:Tm):Tm:=(aP m t.1,t.2*sgn (bS t.1 (aP m t.1)))
def bL (m:Nat)(S:List Tm):List Tm:=S.map (ovT m)
theorem aFc {S:List Tm}(up:∀ t∈S,t.1.Pairwise fun a b=>ix b a=false)(nd:∀ t∈S,t.1.Nodup)(ks:(S.map (·.1)).Nodup)(nz:∀ t∈S,t.2≠0):aW S=srt px S:=by
 have vl:∀ t∈S,val t=t.2:=fun t ht=>by
  unfold val;rw[if_pos (nd t ht),jF (up t ht),xS,Ct]
 have ky:∀ t∈S,key t=t.1:=fun t ht=>(eW eD (Cc _) (up t ht)).symm
 have go:∀ (T B:List Tm),(∀ t∈T,t∈S)->((B++T).map (·.1)).Nodup->acc B T=B++T:=by
  intro T;induction T with
  | nil=>intro B _ _;simp[acc]
  | cons t T ih =>
   intro B hs hn;have ht:=hs t Aa
   have nm:t.1∉B.map (·.1):=by
    rw[Bo,Da]at hn;intro m;exact hn.2.2 t.1 m t.1 (by simp) rfl
   have e:step B t=B++[t]:=by
    unfold step;rw[ky t ht,gF nm,vl t ht,Int.zero_add];unfold put;rw[if_neg nm]
   show acc (step B t) T=_
   rw[e,ih (B++[t]) (fun u hu=>hs u (Ac _ hu)) (by simpa using hn)]
   simp
 unfold aW;rw[go S [] (fun _ z=>z) (by simpa using ks),Cq]
 unfold yN;have e:S.filter (fun p=>p.2 != 0)=S:=List.filter_eq_self.mpr fun t ht=>by simpa using nz t ht
 rw[e]
structure In (m L:Nat)(S:List Tm):Prop where
 sm:Sum L S
 td:Told S
 nb:Nb 240 S
 rg:∀ t∈S,∀ x∈t.1,0<=x/\x<(m:Int)
 m1:1<=m
 m5:m<=5
theorem In.over {m L:Nat}{S:List Tm}(h:In m L S):aW (bL m S)=srt px (bL m S):=by
 have mem:∀ u∈bL m S,∃ t∈S,u=ovT m t:=fun u hu=>by
  obtain⟨t,ht,e⟩:=Ar.mp hu;exact⟨t,ht,e.symm⟩
 refine aFc (fun u hu=>?_) (fun u hu=>?_) ?_ fun u hu=>?_
 · obtain⟨t,ht,rfl⟩:=mem u hu;exact aAv m t.1
 · obtain⟨t,ht,rfl⟩:=mem u hu;exact vO m t.1
 · unfold bL
   rw[Bm];show List.Pairwise (fun a b=>a≠b) (S.map fun t=>aP m t.1)
   rw[Bn];refine Eb (fun {s t} hs ht n e=>?_) (Bn.mp (show List.Pairwise (fun a b=>a≠b) (S.map (·.1)) from h.td.ks))
   exact n (aF2 (h.td.up s hs) (h.td.up t ht) (h.td.nd s hs) (h.td.nd t ht) (h.rg s hs) (h.rg t ht) e)
 · obtain⟨t,ht,rfl⟩:=mem u hu
   show t.2*sgn _≠0
   have:=h.td.nz t ht
   rcases lI (bS t.1 (aP m t.1)) with z | z<;>rw[z]<;>omega
theorem In.fit {m L:Nat}{S:List Tm}(h:In m L S):Fit (bL m S):=by
 have ln:(bL m S).length=S.length:=Ab _;have l1:=h.sm.ln;have h3:=wI (bL m S) [];rw[Bp,ln]at h3;have m5:=h.m5
 have mem:∀ u∈bL m S,∃ t∈S,u=ovT m t:=fun u hu=>by
  obtain⟨t,ht,e⟩:=Ar.mp hu;exact⟨t,ht,e.symm⟩
 have szs:∀ u∈bL m S,u.1.length=m-L:=fun u hu=>by
  obtain⟨t,ht,rfl⟩:=mem u hu;show (aP m t.1).length=_
  rw[pZ (h.td.nd t ht) (h.rg t ht),h.sm.sz t ht]
 refine⟨fun u hu=>by rw[szs u hu];omega,fun u hu=>?_,by omega,⟨m-L,szs⟩,by omega⟩
 obtain⟨t,ht,rfl⟩:=mem u hu;refine jU (Ak (?_:(t.2*sgn (bS t.1 (aP m t.1))).natAbs<=2^240) (Az (by decide) (by decide)))
 exact aN9 (h.sm.nb t ht) _
theorem aO9 {f g:FE}{ρ:Mir.Env}{k k':Kd}{fr fr':Bool}{i:Int}{p:List Int}(h1:f ρ=.ok ⟨k,fr,.int i⟩)(h2:g ρ=.ok ⟨k',fr',.tup (li p)⟩):inE true f g ρ=.ok (sc (.bl (!(p.any (·==i))))):=by
 simp only[inE,h1,h2,R.ok_bind,asI,asS,eK,if_true]
abbrev qR (i j:Nat):FE:=bW (eJ (vE i)) 1 [j] (.nm 0) (Mir.bIf (bT (inE true (vE 0) (vE 1))) (vE 0))
theorem aFv {ρ:Mir.Env}{i j m:Nat}{k:Kd}{fr f':Bool}{p:List Int}(h1:vE i ρ=.ok ⟨k,fr,.int m⟩)(h2:ρ[j]?=some (some ⟨.shr,f',.tup (li p)⟩))(hm:m<=1000):qR i j ρ=.ok ⟨.tmp,true,.lst (li (aP m p))⟩:=by
 have c:=kJ (it:=eJ (vE i)) (tg:=.nm 0) (b:=Mir.bIf (bT (inE true (vE 0) (vE 1))) (vE 0)) (fr:=true) (st:=true) (ρ:=ρ) (k:=1) (fs:=[j]) (inj:=D.int) (out:=D.int) (c:=fun w=>!(p.any (·==w))) (xs:=fG m)
  (by
   refine(uU h1 (by omega)).trans ?_
   rw[fG,Bm];rfl)
  (fun w _=>by
   have env:dM 1 [j] ρ=[none,some ⟨.shr,f',.tup (li p)⟩]:=by simp[dM,h2]
   refine⟨[some ⟨.shr,true,.int w⟩,some ⟨.shr,f',.tup (li p)⟩],.shr,by rw[env];rfl,?_,by decide⟩
   exact nJ (r:=⟨.shr,true,.int w⟩) (cY (aO9 (k:=.shr) (fr:=true) (k':=.shr) (fr':=f'||(D.tup (li p)).imm) rfl rfl)) fun _=>rfl)
  (by rw[show (fG m).length=m by simp[fG],sizeLine_eq];omega)
 exact c
abbrev aAm:FS:=(bD (lV (qR 0 1)))
theorem aNi {m:Nat}(hm:m<=5)(p:List Int):cW 2 2 aAm [.int m,.tup (li p)]=.ok ⟨.shr,true,.tup (li (aP m p))⟩:=by
 have e:qR 0 1 [some ⟨.shr,false,.int m⟩,some ⟨.shr,false,.tup (li p)⟩]=.ok ⟨.tmp,true,.lst (li (aP m p))⟩:=aFv (k:=.shr) (fr:=true) (f':=false) rfl rfl (by omega)
 have e2:aAm [some ⟨.shr,false,.int m⟩,some ⟨.shr,false,.tup (li p)⟩]=.rt ⟨.shr,true,.tup (li (aP m p))⟩:=oW (uP e);refine(dX (np:=2) (n:=2) (s:=aAm) (ds:=[.int m,.tup (li p)]) (r:=⟨.shr,true,.tup (li (aP m p))⟩) rfl e2).trans ?_
 simp only[Bool.true_or]
abbrev tob (φl φt:Φ):FS:=(aL (aR 5 (aC φl [vE 0,vE 3]))
 (jB 2 (dO [vE 5,cC (vE 4) (aC φt [jP (vE 3) (vE 5)])])))
abbrev aGs (φc φl φt φs:Φ):FS :=
 (aL (iD (aC φc [vE 0]))
 (aL (aR 2 (bZ []))
 (aL (cV (dC (vE 1)) (.tp [.nm 3,.nm 4]) (tob φl φt))
 (bD (aC φs [vE 2])))))
abbrev aE (m:Int)(B:D)(acc:List Tm)(x3 x4 x5:Option Res):Mir.Env:=[some ⟨.shr,false,.int m⟩,some ⟨.shr,false,B⟩,oR acc,x3,x4,x5]
theorem tV {φl φt:Φ}{m:Nat}(hl:∀ p:List Int,φl [.int m,.tup (li p)]=.ok ⟨.shr,true,.tup (li (aP m p))⟩)(ht:∀ p:List Int,p.length<64->φt [.tup (li p)]=.ok (sc (.int (trn p))))(B:D):∀ (S:List Tm),(∀ t∈S,t.1.length<=20/\t.2.natAbs<=2^240/\(aP m t.1).length<=20/\trn (t.1++aP m t.1)=sgn (bS t.1 (aP m t.1)))->∀ (acc:List Tm) (x3 x4 x5:Option Res),acc.length+S.length<=1000 ->
 ∃ y3 y4 y5,fZ (.tp [.nm 3,.nm 4]) (tob φl φt) false (S.map mkP) (aE m B acc x3 x4 x5)=.nx (aE m B (acc++bL m S) y3 y4 y5)
 | [],_,acc,x3,x4,x5,_=>⟨x3,x4,x5,by rw[show bL m []=[] from rfl,Ce];rfl⟩
 | t :: S,h,acc,x3,x4,x5,hz=>by
  rw[Av]at hz;obtain⟨h1,h2,h3,h4⟩:=h t Aa;have bd:Tg.bind false (.tp [.nm 3,.nm 4]) (mkP t) (aE m B acc x3 x4 x5)=.ok (aE m B acc (some ⟨.shr,false,.tup (li t.1)⟩) (some ⟨.shr,false,.int t.2⟩) x5):=rfl;have e1:aR 5 (aC φl [vE 0,vE 3]) (aE m B acc (some ⟨.shr,false,.tup (li t.1)⟩) (some ⟨.shr,false,.int t.2⟩) x5)=.nx (aE m B acc (some ⟨.shr,false,.tup (li t.1)⟩) (some ⟨.shr,false,.int t.2⟩) (some ⟨.shr,true,.tup (li (aP m t.1))⟩)):=set_shr (jE (rs:=[⟨.shr,true,.int m⟩,⟨.shr,false||(D.tup (li t.1)).imm,.tup (li t.1)⟩]) (aD rfl (aD rfl bB)) (hl t.1));have v3:vE 3 (aE m B acc (some ⟨.shr,false,.tup (li t.1)⟩) (some ⟨.shr,false,.int t.2⟩) (some ⟨.shr,true,.tup (li (aP m t.1))⟩))=.ok ⟨.shr,true,.tup (li t.1)⟩:=sV (p:=t.1) (f:=false) (r:=[])
  have v5:vE 5 (aE m B acc (some ⟨.shr,false,.tup (li t.1)⟩) (some ⟨.shr,false,.int t.2⟩) (some ⟨.shr,true,.tup (li (aP m t.1))⟩))=.ok ⟨.shr,true,.tup (li (aP m t.1))⟩:=sV (p:=aP m t.1) (f:=true) (r:=[])
  have e2:aC φt [jP (vE 3) (vE 5)] (aE m B acc (some ⟨.shr,false,.tup (li t.1)⟩) (some ⟨.shr,false,.int t.2⟩) (some ⟨.shr,true,.tup (li (aP m t.1))⟩))=.ok ⟨.shr,true,.int (sgn (bS t.1 (aP m t.1)))⟩:=by
   rw[←h4];exact jE (rs:=[⟨.shr,true&&true,.tup (li (t.1++aP m t.1))⟩]) (aD (aAq v3 v5 (by omega)) bB) (ht _ (by rw[An];omega))
  have e3:=iB v5 (bM (C:=CM) (G:=fun i j=>i*j) (f:=vE 4) (k:=.shr) (fr:=true) (i:=t.2) rfl e2 (gJ (tD h2) (aBz (M:=1) (pV (by decide)) (qG _)))) (by decide) (by decide)
  have ex:tob φl φt (aE m B acc (some ⟨.shr,false,.tup (li t.1)⟩) (some ⟨.shr,false,.int t.2⟩) x5)=.nx (aE m B (acc++[ovT m t]) (some ⟨.shr,false,.tup (li t.1)⟩) (some ⟨.shr,false,.int t.2⟩) (some ⟨.shr,true,.tup (li (aP m t.1))⟩)):=by
   refine(aQ e1).trans ?_
   refine(pQ (fr:=true) (ds:=acc.map mkP) rfl e3 (by decide) (by rw[Ab,sizeLine_eq];omega)).trans ?_
   show RS.nx [_,_,some (⟨.own,true,.lst (acc.map mkP++[mkP (ovT m t)])⟩:Res),_,_,_]=.nx [_,_,some (⟨.own,true,.lst ((acc++[ovT m t]).map mkP)⟩:Res),_,_,_]
   rw[Bo];rfl
  obtain⟨y3,y4,y5,ih⟩:=tV hl ht B S (fun u hu=>h u (Ac _ hu)) (acc++[ovT m t]) (some ⟨.shr,false,.tup (li t.1)⟩) (some ⟨.shr,false,.int t.2⟩) (some ⟨.shr,true,.tup (li (aP m t.1))⟩) (by rw[An,Ck];omega)
  refine⟨y3,y4,y5,(fN (r:=S.map mkP) bd ex).trans (ih.trans ?_)⟩
  rw[Db];rfl
theorem In.each {m L:Nat}{S:List Tm}(h:In m L S):∀ t∈S,t.1.length<=20/\t.2.natAbs<=2^240/\(aP m t.1).length<=20/\trn (t.1++aP m t.1)=sgn (bS t.1 (aP m t.1)):=fun t ht=>by
 have m5:=h.m5;refine⟨by rw[h.sm.sz t ht];exact h.sm.hL,h.sm.nb t ht,?_,aEn (h.td.up t ht) (h.td.nd t ht) (aAv m t.1) (vO m t.1) fun x hx q=>(fR.mp q).2 hx⟩
 rw[pZ (h.td.nd t ht) (h.rg t ht)];omega
theorem aKw {φc φl φt φs:Φ}(hc:∀ {m:Int},(decide (m<1)||decide (5<m))=false->φc [.int m]=.ok (sc .non)){m:Nat}(hl:∀ p:List Int,φl [.int m,.tup (li p)]=.ok ⟨.shr,true,.tup (li (aP m p))⟩)(ht:∀ p:List Int,p.length<64->φt [.tup (li p)]=.ok (sc (.int (trn p))))(hs:aBv φs){L:Nat}{S:List Tm}(h:In m L S) :
 cW 2 6 (aGs φc φl φt φs) [.int m,aB S]=.ok ⟨.tmp,true,aB (srt px (bL m S))⟩:=by
 have m1:=h.m1;have m5:=h.m5;have l1:=h.sm.ln;have e0:iD (aC φc [vE 0]) [some ⟨.shr,false,.int m⟩,some ⟨.shr,false,aB S⟩,none,none,none,none]=.nx [some ⟨.shr,false,.int m⟩,some ⟨.shr,false,aB S⟩,none,none,none,none]:=aH0 (jE (rs:=[⟨.shr,true,.int m⟩]) (aD rfl bB) (hc (by rw[decide_eq_false (by omega),decide_eq_false (by omega)];rfl)))
 have e1:aR 2 (bZ []) [some ⟨.shr,false,.int m⟩,some ⟨.shr,false,aB S⟩,none,none,none,none]=.nx (aE m (aB S) [] none none none):=rfl;obtain⟨y3,y4,y5,l⟩:=tV hl ht (aB S) S h.each [] none none none (by rw[Bp];omega)
 rw[Cq]at l;have e2:cV (dC (vE 1)) (.tp [.nm 3,.nm 4]) (tob φl φt) (aE m (aB S) [] none none none)=.nx (aE m (aB S) (bL m S) y3 y4 y5):=(fT (fr:=false) (ds:=S.map mkP) rfl).trans l
 have e3:aC φs [vE 2] (aE m (aB S) (bL m S) y3 y4 y5)=.ok ⟨.tmp,true,aB (srt px (bL m S))⟩:=by
  rw[←h.over];exact bR (rs:=[⟨.own,true,aB (bL m S)⟩]) (aD rfl bB) (hs _ h.fit)
 exact(dX rfl ((aQ e0).trans ((aQ e1).trans ((aQ e2).trans (fX e3))))).trans rfl
theorem aHv {φc φl φt φs:Φ}{m:Int}(hc:φc [.int m]=.exc ⟨.BadCount,[]⟩)(B:D):cW 2 6 (aGs φc φl φt φs) [.int m,B]=.exc ⟨.BadCount,[]⟩ :=
 uW (ρ:=[some ⟨.shr,false,.int m⟩,some ⟨.shr,false,B⟩,none,none,none,none]) rfl (aJr (qK (mU (rs:=[⟨.shr,true,.int m⟩]) (aD rfl bB) hc)))
end Sm
namespace Sm
open Srt
def iQ:Nat->List (List Int)
 | 0=>[[]]
 | m+1=>iQ m++(iQ m).map (·++[(m:Int)])
theorem wJ {m:Nat}:∀ {p:List Int},p.Pairwise (·<·)->(∀ x∈p,0<=x/\x<(m:Int))->p∈iQ m:=by
 induction m with
 | zero =>
  intro p _ h;cases p with
  | nil=>exact Ay.mpr rfl
  | cons x p=>have:=h x Aa;omega
 | succ m ih =>
  intro p up h;by_cases z:(m:Int)∈p
  · have hp:p≠[]:=fun e=>by rw[e]at z;cases z
    have hc:=Dt hp;have up':=up;rw[←hc,List.pairwise_append]at up';have lt:∀ x∈p.dropLast,x<p.getLast hp:=fun x hx=>up'.2.2 x hx _ (Ay.mpr rfl);have hl:=h _ (List.getLast_mem hp)
    have lm:p.getLast hp=(m:Int):=by
     rw[←hc]at z;rcases Bg.mp z with q | q
     · have:=lt _ q;omega
     · exact(Ay.mp q).symm
    refine Aw _ (Ar.mpr ⟨p.dropLast,ih up'.1 (fun x hx=>?_),?_⟩)
    · have h1:=h x (List.dropLast_subset _ hx)
      have h2:=lt x hx;omega
    · rw[←lm];exact hc
  · refine Dw _ (ih up fun x hx=>?_)
    have h1:=h x hx;have:x≠(m:Int):=fun e=>z (e▸hx)
    omega
theorem iC:∀ m,m<6->∀ k∈iQ m,k∈iQ 5:=by decide +kernel
theorem iV:∀ k∈iQ 5,trn k=1/\srt ix k=k:=by decide +kernel
def hc (x:Nat)(k:List Int):Int:=if (x:Int)∈k then sgn (und (x:Int) k) else 0
def hw (x:Nat)(k:List Int):List Int:=k.filter fun y=>!(y==(x:Int))
def In5 (S:List Tm):Prop:=∀ t∈S,t.1∈iQ 5
theorem In5.vk {S:List Tm}(h:In5 S){t:Tm}(ht:t∈S):val t=t.2/\key t=t.1:=by
 have q:=iV t.1 (h t ht);exact⟨by rw[fD,q.1,Ct],q.2⟩
theorem vU:∀ k∈iQ 5,∀ x∈k,0<=x/\x<(5:Int):=by decide +kernel
theorem In5.rg {S:List Tm}(h:In5 S):∀ t∈S,∀ x∈t.1,0<=x/\x<(5:Int):=fun t ht=>vU t.1 (h t ht)
def eq3 (a b c:Int×List Int):Bool:=(a.1==b.1+c.1)&&(let W:=if a.1=0 then (if b.1=0 then c.2 else b.2) else a.2;(a.1==0||a.2==W)&&(b.1==0||b.2==W)&&(c.1==0||c.2==W))
theorem aE5 {a b c:Int×List Int}(h:eq3 a b c=true)(g:List Int->Int):a.1*g a.2=b.1*g b.2+c.1*g c.2:=by
 unfold eq3 at h;simp only[Br,Bool.or_eq_true,beq_iff_eq]at h;obtain⟨e,⟨h1,h2⟩,h3⟩:=h;generalize (if a.1=0 then (if b.1=0 then c.2 else b.2) else a.2)=W at *
 have f:∀ q:Int×List Int,(q.1=0\/q.2=W)->q.1*g q.2=q.1*g W:=fun q z=>by
  rcases z with z | z
  · rw[z,Cn,Cn]
  · rw[z]
 rw[f a h1,f b h2,f c h3,e,Int.add_mul]
end Sm
namespace Sm
open Srt
theorem iM:aW []=[]:=rfl
def InM (m:Nat)(S:List Tm):Prop:=∀ t∈S,t.1∈iQ m
def oc (m:Nat)(k:List Int):Int:=sgn (bS k (aP m k))
theorem mY:∀ m,m<6->∀ k∈iQ m,aP m k∈iQ m:=by decide +kernel
theorem InM.i5 {m:Nat}(hm:m<6){S:List Tm}(h:InM m S):In5 S:=fun t ht=>iC m hm _ (h t ht)
theorem aJd {m:Nat}{S:List Tm}(h:∀ t∈S,key t∈iQ m):InM m (aW S):=fun p hp=>by
 obtain⟨h1,h2⟩:=(jS S p).mp hp;obtain⟨t,ht,k,_⟩:=pK (ts:=S) (k:=p.1) (by rw[←h1];exact h2)
 rw[←k];exact h t ht
theorem xT {m:Nat}(hm:m<6){S:List Tm}(h:InM m S):InM m (bL m S):=fun t ht=>by
 obtain⟨u,hu,rfl⟩:=Ar.mp ht;exact mY m hm u.1 (h u hu)
theorem InM.sum {m:Nat}(hm:m<6){S:List Tm}(h:InM m S):InM m (aW S):=aJd fun t ht=>by rw[((h.i5 hm).vk ht).2];exact h t ht
theorem mV {m:Nat}(hm:m<6)(g:List Int->Int){S:List Tm}(h:InM m S):lin (bL m S) g=lin S fun k=>oc m k*g (aP m k):=by
 rw[yU,yU];unfold bL;rw[aGh];refine aAd fun t ht=>?_
 have q:=(h.i5 hm).vk ht;have z:=iV _ (iC m hm _ (mY m hm t.1 (h t ht)))
 have e1:val (ovT m t)=t.2*oc m t.1:=by
  rw[fD];show trn (aP m t.1)*_=_
  rw[z.1,Ct];rfl
 have e2:key (ovT m t)=aP m t.1:=z.2;rw[e1,e2,q.1,q.2,Ci]
theorem ov2:∀ m,m<6->∀ k∈iQ m,eq3 (oc m k*oc m (aP m k),aP m (aP m k)) (sgn (k.length*(m-k.length)),k) (0,[])=true:=by decide +kernel
theorem aCv {m L:Nat}(hm:m<6){a:List Tm}(ha:InM m a)(dL:Deg L a):aW (bL m (aW (bL m a)))=aW (gG a (sgn (L*(m-L)))):=kL fun g=>by
 rw[mV hm g ((xT hm ha).sum hm),mG,mV hm _ ha,wC,←aJs];refine aCb fun t ht=>?_
 have e:=aE5 (ov2 m hm t.1 (ha t ht)) g;rw[Cn,Int.add_zero,dL t ht]at e;rw[((ha.i5 hm).vk ht).2,←Ci,e,Fq]
theorem ovw:∀ m,m<6->∀ k∈iQ m,∀ l∈iQ m,k.length=l.length->eq3 (oc m l*xs k (aP m l),srt ix (k++aP m l)) (ind k l,fG m) (0,[])=true:=by decide +kernel
end Sm
namespace Od
open PySem L2 Mir Srt Sm
abbrev ob:FS:=jB 3 (dO [jP (jP (aD8 (vE 4) (noO) (soO (vE 6))) (dO [vE 2])) (aD8 (vE 4) (soO (vE 6)) (noO)),cC (vE 5) (eU (cE (.int 1)) (cC (cE (.int 2)) (dF (eU (bY (vE 4)) (vE 6)) (cE (.int 2)))))])
end Od
namespace Od
open PySem L2 Mir Srt Sm
theorem aJq {f g:FE}{ρ:Mir.Env}{k k':Kd}{fr fr':Bool}{ds:List D}{i:Nat}{d:D}(h1:f ρ=.ok ⟨k,fr,.tup ds⟩)(h2:g ρ=.ok ⟨k',fr',.int i⟩)(h:ds[i]?=some d):aX f g ρ=.ok ⟨.shr,fr||d.imm,d⟩:=by
 simp only[aX,h1,h2,R.ok_bind,asS,asI,Mir.uS h]
theorem aPj {p:List Int}{i:Nat}(h:i<p.length):(li p)[i]?=some (.int (p.getD i 0)):=uO h
def pk (rows:List (List Int))(p:List Int)(o:Tm)(j:Nat):Int:=o.2*prd (rows.take j) ((aPp p o.1).take j)
def vk (rows:List (List Int))(p:List Int)(o:Tm)(j:Nat):Int:=(rows.getD j []).getD (p.getD (o.1.getD j 0).toNat 0).toNat 0
end Od
namespace Od
open PySem L2 Mir Srt Sm
def low (p:List Int):Nat:=if p=[] then 0 else (p.getD (p.length-1) 0+1).toNat
def aRa (lo n:Nat):List Int:=(Bd n).map fun (i:Nat)=>(lo:Int)+(i:Int)
def aPr (m:Nat)(p:List Int):List (List Int):=(aRa (low p) (m-low p)).map fun x=>p++[x]
def pls (m:Nat):Nat->List (List Int)
 | 0=>[[]]
 | k+1=>(pls m k).flatMap (aPr m)
structure Pl (m k:Nat)(p:List Int):Prop where
 ln:p.length=k
 up:p.Pairwise (·<·)
 rg:∀ x∈p,0<=x/\x<(m:Int)
theorem aGn {p:List Int}(up:p.Pairwise (·<·)):∀ x∈p,x<=p.getD (p.length-1) 0:=fun x hx=>by
 obtain⟨i,hi,e⟩:=List.mem_iff_getElem.mp hx;have hl:p.length-1<p.length:=by omega
 rw[Au,Ao hl,Option.getD_some,←e];by_cases z:i=p.length-1
 · subst z;exact Int.le_refl _
 · exact Int.le_of_lt (Cj.mp up i (p.length-1) hi hl (by omega))
theorem aNo {m k:Nat}{p:List Int}(P:Pl m k p):low p<=m/\∀ x∈p,x<(low p:Int):=by
 unfold low;by_cases z:p=[]
 · rw[if_pos z];exact⟨Bz _,fun x hx=>by rw[z]at hx;cases hx⟩
 · rw[if_neg z]
   have hl:0<p.length:=List.length_pos_iff.mpr z;have:=P.rg _ (Mir.yW (d:=0) (show p.length-1<p.length by omega))
   refine⟨by omega,fun x hx=>?_⟩
   have:=aGn P.up x hx
   omega
theorem aL2 {m k:Nat}{p:List Int}(P:Pl m k p):∀ q∈aPr m p,Pl m (k+1) q:=fun q hq=>by
 obtain⟨x,hx,rfl⟩:=Ar.mp hq;obtain⟨i,hi,rfl⟩:=Ar.mp hx;have hi:=Co.mp hi;obtain⟨l1,l2⟩:=aNo P;refine⟨by rw[An,P.ln];rfl,List.pairwise_append.mpr ⟨P.up,List.pairwise_singleton _ _,fun a ha b hb=>?_⟩,fun y hy=>?_⟩
 · rw[Ay.mp hb];have:=l2 a ha;omega
 · rcases Bg.mp hy with q | q
   · exact P.rg y q
   · rw[Ay.mp q];omega
theorem aM9 {m:Nat}:∀ {k:Nat},∀ p∈pls m k,Pl m k p:=by
 intro k;induction k with
 | zero=>intro p h;rw[Ay.mp h];exact⟨rfl,Cp,fun x hx=>by cases hx⟩
 | succ k ih =>
  intro p h;obtain⟨q,hq,h⟩:=Cv.mp h;exact aL2 (ih q hq) p h
theorem aBx:∀ m,m<=5->∀ k,k<=5->(pls m k).length<=10:=by decide +kernel
def tps (ps:List (List Int)):List D:=ps.map fun p=>.tup (li p)
end Od
namespace Od
open PySem L2 Mir Srt Sm
abbrev ab:FS:=(aL (aR 6 (cA (aOi (aD8 (vE 5) (soO (sA (cE (.int 1)))) (noO))) (aQv (gtE (bY (vE 5)) (cE (.int 0))))))
 (aR 4 (oJ (vE 4) (bW (qO (vE 6) (vE 0)) 1 [5] (.nm 0) (bE (jP (vE 1) (dO [vE 0])))))))
theorem aLg {f:FE}{ρ:Mir.Env}{k:Kd}{fr:Bool}{ds:List D}(h:f ρ=.ok ⟨k,fr,.tup ds⟩):lU f ρ=.ok ⟨true,fr,ds⟩:=by simp only[lU,h,R.ok_bind]
end Od
namespace Od
open PySem L2 Mir Srt Sm
abbrev lb (φb:Φ):FS:=(aL (aR 6 (aP8 (aC φb [vE 2,bW (lU (vE 5)) 1 [0] (.nm 0) (bE (aX (vE 1) (vE 0)))])))
 (jB 4 (bW (dC (vE 3)) 1 [6] (.nm 0) (bE (oK (vE 1) (vE 0) (cE (.int 0)))))))
abbrev hd (t:List (List Int))(s:Int)(x2:Option Res):Mir.Env:=[some ⟨.shr,false,.lst (lil t)⟩,some ⟨.shr,false,.int s⟩,x2,none,none,none,none]
end Od
namespace Od
open PySem L2 Mir Srt Sm
structure Sq (m B:Nat)(t:List (List Int)):Prop where
 m5:m<=5
 ln:t.length=m
 sz:∀ r∈t,r.length=m
 nb:∀ r∈t,∀ x∈r,x.natAbs<=2^B
 hB:(B+6)*m<=893
 hb:B<=887
section
variable {m B:Nat}{t:List (List Int)}
theorem Sq.e9 (T:Sq m B t){r:List Int}(hr:r∈t){x:Int}(hx:x∈r):x.natAbs<2^1000:=by
 have h:=T.hb;exact jU (Ak (T.nb r hr x hx) (Az (by decide) (by omega)))
end
theorem aAg {f:FE}{ρ:Mir.Env}{k:Kd}{fr:Bool}{ds:List D}(h:f ρ=.ok ⟨k,fr,.lst ds⟩):yQ f ρ=.ok (!ds.isEmpty):=by simp only[yQ,h,R.ok_bind,asS]
theorem aDm (ds:List D)(j:Nat)(h:j<=ds.length):nI ds none (some (j:Int))=ds.take j:=by
 unfold nI;rw[HT.yV,HT.vL];simp[Nat.min_eq_left h]
end Od
namespace Od
open PySem L2 Mir Srt Sm
abbrev sgE (f:FE):FE:=eU (cE (.int 1)) (cC (cE (.int 2)) (dF f (cE (.int 2))))
theorem aKc {f:FE}{ρ:Mir.Env}{k:Kd}{fr:Bool}{x:Nat}(h:f ρ=.ok ⟨k,fr,.int (x:Nat)⟩):sgE f ρ=.ok ⟨.shr,true,.int (sgn x)⟩:=by
 have h1:dF f (cE (.int 2)) ρ=.ok ⟨.shr,true,.int ((x:Int)%2)⟩:=bM h (k':=.shr) (fr':=true) (j:=2) rfl (mD (by decide))
 have h2:cC (cE (.int 2)) (dF f (cE (.int 2))) ρ=.ok ⟨.shr,true,.int (2*((x:Int)%2))⟩:=bM (k:=.shr) (fr:=true) (i:=2) rfl h1 (gJ (by decide) (Cf (show ((x:Int)%2).natAbs<=2 by omega) (by decide)))
 exact bM (C:=C0) (G:=fun i j=>i-j) (k:=.shr) (fr:=true) (i:=1) rfl h2 rfl
theorem aJx (x:Nat):(sgn x).natAbs<2^1000:=by
 have:(sgn x).natAbs<=1:=by rcases lI x with z | z<;>rw[z]<;>decide
 exact Cf this (by decide)
theorem aGf {f g:FE}{ρ:Mir.Env}{k k':Kd}{fr fr':Bool}{a b:Nat}(h1:f ρ=.ok ⟨k,fr,.int a⟩)(h2:g ρ=.ok ⟨k',fr',.int b⟩):cA f g ρ=.ok ⟨.shr,true,.int ((a+b:Nat):Int)⟩ :=
 (bM (C:=C0) (G:=fun i j=>i+j) h1 h2 rfl).trans (by rw[Int.natCast_add];rfl)
end Od
namespace Od
open PySem L2 Mir Srt Sm
structure L9 (m:Nat)(b:List (List Int)):Prop where
 m1:1<=m
 m5:m<=10
 ln:b.length=m
 sz:∀ r∈b,r.length=m
 nb:∀ r∈b,∀ x∈r,x.natAbs<2^1000
theorem Sq.l9 {m B:Nat}{t:List (List Int)}(T:Sq m B t)(m1:1<=m):L9 m t:=⟨m1,by have:=T.m5;omega,T.ln,T.sz,fun r hr x hx=>T.e9 hr hx⟩
end Od
namespace Od
open PySem L2 Mir Srt Sm
structure G (m L B:Nat)(S:List Tm):Prop where
 i:Sm.In m L S
 nb:Nb B S
section
variable {m L K B C:Nat}{a b S:List Tm}
theorem aNd {ts:List Tm}(h:∀ t∈ts,∀ x∈t.1,0<=x/\x<(m:Int)):∀ p∈aW ts,∀ x∈p.1,0<=x/\x<(m:Int):=fun p hp x hx=>by
 obtain⟨t,ht,k,_⟩:=uZ p hp;rw[←k]at hx;exact h t ht x ((fS t).mem_iff.mp hx)
theorem aDs {ts:List Tm}{c:Nat}(sz:∀ t∈ts,t.1.length=L)(rg:∀ t∈ts,∀ x∈t.1,0<=x/\x<(m:Int))(ln:ts.length<=2^c)(nb:Nb B ts)(hB:B+c<=240)(hT:L<=20)(m1:1<=m)(m5:m<=5):G m L (B+c) (aW ts):=by
 have s:=Five.sumS (T:=L) (ts:=ts) ⟨sz,fun t ht x hx=>by have:=rg t ht x hx;omega⟩ ln nb hB hT
 exact⟨⟨s,jX ts,s.nb,aNd rg,m1,m5⟩,aFl ln nb⟩
theorem G.inM (h:G m L B S):InM m S:=fun t ht=>wJ (tG (h.i.td.up t ht) (h.i.td.nd t ht)) (h.i.rg t ht)
theorem G.deg (h:G m L B S):Deg L S:=h.i.sm.sz
theorem G.le (h:G m L B S)(c:B<=C):G m L C S:=⟨h.i,fun t ht=>Ak (h.nb t ht) (Az (by decide) c)⟩
theorem G.prod (ha:G m L B a)(hb:G m K C b)(hT:L+K<=20)(hB:B+C+9<=240):G m (L+K) (B+C+9) (aW (bO a b)):=by
 refine aDs (Five.prod ha.i.sm.five hb.i.sm.five).sz (fun t ht x hx=>?_) ?_ (aJo ha.nb hb.nb) hB hT ha.i.m1 ha.i.m5
 · obtain⟨u,hu,q⟩:=Cv.mp ht
   obtain⟨v,hv,rfl⟩:=Ar.mp q;exact(Bg.mp hx).elim (ha.i.rg u hu x) (hb.i.rg v hv x)
 · rw[wV]
   exact Ak (Cb ha.i.sm.ln hb.i.sm.ln) (by decide)
theorem G.tim (ha:G m L B a){k:Int}(hk:k.natAbs<=1)(hB:B+5<=240):G m L (B+5) (aW (gG a k)):=by
 have l1:=ha.i.sm.ln
 have mem:∀ u∈gG a k,∃ t∈a,u=(t.1,t.2*k):=fun u hu=>by
  obtain⟨t,ht,e⟩:=Ar.mp hu;exact⟨t,ht,e.symm⟩
 refine aDs (fun u hu=>?_) (fun u hu=>?_) (by unfold gG;rw[Ab];exact Ak l1 (by decide)) (fun u hu=>?_) hB ha.i.sm.hL ha.i.m1 ha.i.m5
 · obtain⟨t,ht,rfl⟩:=mem u hu;exact ha.i.sm.sz t ht
 · obtain⟨t,ht,rfl⟩:=mem u hu;exact ha.i.rg t ht
 · obtain⟨t,ht,rfl⟩:=mem u hu
   show (t.2*k).natAbs<=_
   rw[Di];exact Ak (Cb (ha.nb t ht) hk) (by omega)
structure Rw (m:Nat)(r:List Int):Prop where
 ln:r.length=m
 nb:∀ x∈r,x.natAbs<=9
theorem Rw.at {r:List Int}(h:Rw m r)(k:Nat):(r.getD k 0).natAbs<=2^4:=by
 by_cases z:k<r.length
 · exact Ak (h.nb _ (Mir.yW z)) (by decide)
 · rw[Au,Cl (by omega)];decide
theorem G.over (ha:G m L B a)(hB:B+5<=240):G m (m-L) (B+5) (aW (bL m a)):=by
 have l1:=ha.i.sm.ln;have m5:=ha.i.m5
 have mem:∀ u∈bL m a,∃ t∈a,u=ovT m t:=fun u hu=>by
  obtain⟨t,ht,e⟩:=Ar.mp hu;exact⟨t,ht,e.symm⟩
 refine aDs (fun u hu=>?_) (fun u hu x hx=>?_) (by unfold bL;rw[Ab];exact Ak l1 (by decide)) (fun u hu=>?_) hB (by omega) ha.i.m1 ha.i.m5
 · obtain⟨t,ht,rfl⟩:=mem u hu
   show (aP m t.1).length=_
   rw[pZ (ha.i.td.nd t ht) (ha.i.rg t ht),ha.i.sm.sz t ht]
 · obtain⟨t,ht,rfl⟩:=mem u hu
   exact(fR.mp hx).1
 · obtain⟨t,ht,rfl⟩:=mem u hu
   show (t.2*sgn _).natAbs<=_
   rw[Di];have:=Cb (ha.nb t ht) (qG (bS t.1 (aP m t.1)))
   rw[Nat.mul_one]at this;exact this
end
theorem aDh {m:Nat}(hm:m<6)(w:Int):aW [(fG m,w)]=if w=0 then [] else [(fG m,w)]:=by
 have z:=iV _ (iC m hm _ (wJ (m:=m) (aAk m hm) fun x hx=>nF.mp hx));by_cases q:w=0
 · rw[if_pos q,q]
   rw[←iM];refine kL fun g=>?_
   show val (fG m,0)*_+0=0
   rw[fD,Fp,Cn];rfl
 · rw[if_neg q]
   refine Told.same ⟨?_,?_,?_,?_,?_⟩
   all_goals first
    | (intro t ht;rw[Ay.mp ht];first | exact aKf (aAk m hm) | exact lQ m | exact q)
    | simp
end Od
namespace Od
open PySem L2 Mir Srt Sm
theorem aI5 {f:FE}{ρ:Mir.Env}{k:Kd}{fr:Bool}{p:List Int}(h:f ρ=.ok ⟨k,fr,.lst (li p)⟩)(hz:p.length<64):jR f ρ=.ok ⟨.tmp,true,.lst (li (srt ix p))⟩:=by
 simp only[jR,h,R.ok_bind,asS,eK,if_pos hz]
theorem aBo {f:FE}{ρ:Mir.Env}{k:Kd}{fr:Bool}{ds:List D}(h:f ρ=.ok ⟨k,fr,.tup ds⟩):jH f ρ=.ok ⟨.tmp,fr,.lst ds⟩:=by simp only[jH,h,R.ok_bind,asS]
theorem aFf {f:FE}{ρ:Mir.Env}{k:Kd}{fr:Bool}{p:List Int}(h:f ρ=.ok ⟨k,fr,.lst (li p)⟩)(hz:p.length<1000):tY f ρ=.ok (sc (.int (gS p))):=by
 simp only[tY,h,R.ok_bind,asL,eK,if_pos hz]
theorem aEt {a k:FE}{ρ:Mir.Env}{A:List Tm}{q:List Int}{kd kd':Kd}{fr fr':Bool}(h1:a ρ=.ok ⟨kd,fr,dK A⟩)(h2:k ρ=.ok ⟨kd',fr',.tup (li q)⟩)(hq:q∈A.map (·.1)):eV a k ρ=.ok ⟨.shr,true,.int (look A q)⟩:=by
 simp only[eV,h1,R.ok_bind,dK,h2,asK,eK,mH,if_pos hq,D.imm,Ez]
abbrev qE (A B:D)(T:List Tm)(x3 x4 x5 x6 x7 x8 x9 x10:Option Res):Mir.Env:=[some ⟨.shr,false,A⟩,some ⟨.shr,false,B⟩,some ⟨.own,true,dK T⟩,x3,x4,x5,x6,x7,x8,x9,x10]
abbrev ivb:FS:=aR 8 (cA (vE 8) (bY (bW (dC (uM (vE 7) (noO) (soO (vE 9)))) 1 [7,9] (.nm 0) (Mir.bIf (bT (gtE (vE 0) (aX (vE 1) (vE 2)))) (vE 0)))))
abbrev pin:FS:=(aL (aR 8 (cE (.int 0)))
 (aL (cV (eJ (bY (vE 7))) (.nm 9) ivb)
 (aL (aR 10 (lV (jR (vE 7))))
 (mB 2 (vE 10) (cA (oK (vE 2) (vE 10) (cE (.int 0))) (cC (cC (vE 4) (vE 6)) (sgE (vE 8))))))))
abbrev pbd:FS:=(aL (aR 7 (oJ (jH (vE 3)) (jH (vE 5))))
 (ifS (bT (eqE (tY (vE 7)) (bY (vE 7)))) pin cI))
abbrev wB:FS :=
 (aL (aR 2 (pS))
 (aL (cV (dC (vE 0)) (.tp [.nm 3,.nm 4]) (cV (dC (vE 1)) (.tp [.nm 5,.nm 6]) pbd))
 (mO 7 (bD (lB (zP 2 1 (.nm 0) (Mir.bIf (bT (neE (eV (vE 1) (vE 0)) (cE (.int 0)))) (dO [vE 0,eV (vE 1) (vE 0)]))))))))
abbrev wR (f:Bool)(w:List Int):Option Res:=some ⟨.own,f,.lst (li w)⟩
theorem aIj (A B:D)(T:List Tm)(x3 x4 x5 x6 x10:Option Res){w:List Int}(hw:w.length<64)(f7:Bool){j:Nat}(hj:j<w.length) :
 ivb (qE A B T x3 x4 x5 x6 (wR f7 w) (iR (fW w j:Nat)) (iR j) x10)=.nx (qE A B T x3 x4 x5 x6 (wR f7 w) (iR (fW w (j+1):Nat)) (iR j) x10):=by
 have s:uM (vE 7) noO (soO (vE 9)) (qE A B T x3 x4 x5 x6 (wR f7 w) (iR (fW w j:Nat)) (iR j) x10)=.ok ⟨.tmp,f7||(D.lst (li w)).imm,.lst (li (w.take j))⟩:=by
  refine(aMr (k:=.own) (fr:=f7||(D.lst (li w)).imm) (ds:=li w) (a:=none) (b:=some (j:Int)) rfl rfl rfl).trans ?_
  rw[aDm _ _ (by rw[Ab];omega),show (li w).take j=li (w.take j) from List.map_take.symm]
 have c:bW (dC (uM (vE 7) noO (soO (vE 9)))) 1 [7,9] (.nm 0) (Mir.bIf (bT (gtE (vE 0) (aX (vE 1) (vE 2)))) (vE 0)) (qE A B T x3 x4 x5 x6 (wR f7 w) (iR (fW w j:Nat)) (iR j) x10)=.ok ⟨.tmp,true,.lst (((w.take j).filter fun b=>decide (w.getD j 0<b)).map .int)⟩:=by
  refine kJ (inj:=D.int) (out:=D.int) (xs:=w.take j) (lG s) (fun v _=>⟨[some ⟨.shr,f7||(D.lst (li w)).imm,.int v⟩,wR f7 w,iR j],.shr,rfl,?_,by decide⟩) (by rw[Dj,sizeLine_eq];omega)
  have i1:aX (vE 1) (vE 2) [some ⟨.shr,f7||(D.lst (li w)).imm,.int v⟩,wR f7 w,iR j]=.ok ⟨.shr,_,.int (w.getD j 0)⟩:=eZ (k:=.own) (fr:=f7||(D.lst (li w)).imm) (k':=.shr) (fr':=true) (i:=j) (ds:=li w) rfl rfl (aPj hj);refine nJ (r:=⟨.shr,true,.int v⟩) (c:=decide (w.getD j 0<v)) (cY (fJ (G:=fun i j=>decide (j<i)) (k:=.shr) (fr:=(f7||(D.lst (li w)).imm)||true) (i:=v) rfl i1)) fun _=>?_
  show (R.ok (⟨.shr,(f7||(D.lst (li w)).imm)||true,.int v⟩:Res):R Res)=_
  rw[Ez]
 have l:bY (bW (dC (uM (vE 7) noO (soO (vE 9)))) 1 [7,9] (.nm 0) (Mir.bIf (bT (gtE (vE 0) (aX (vE 1) (vE 2)))) (vE 0))) (qE A B T x3 x4 x5 x6 (wR f7 w) (iR (fW w j:Nat)) (iR j) x10)=.ok ⟨.shr,true,.int (((w.take j).filter fun b=>decide (w.getD j 0<b)).length:Nat)⟩:=by
  refine(lN c).trans ?_
  rw[Ab];rfl
 refine(set_shr (i:=8) (aGf (k:=.shr) (fr:=true) (a:=fW w j) rfl l)).trans ?_
 rfl
theorem aH5 (A B:D)(T:List Tm)(x3 x4 x5 x6 x10:Option Res){w:List Int}(hw:w.length<64)(f7:Bool):∀ (r j:Nat) (x9:Option Res),j+r=w.length ->
 ∃ y9,fZ (.nm 9) ivb true ((List.range' j r).map fun (i:Nat)=>.int (i:Int)) (qE A B T x3 x4 x5 x6 (wR f7 w) (iR (fW w j:Nat)) x9 x10)=.nx (qE A B T x3 x4 x5 x6 (wR f7 w) (iR (fW w (j+r):Nat)) y9 x10):=by
 intro r;induction r with
 | zero=>intro j x9 _;exact⟨x9,rfl⟩
 | succ r ih =>
  intro j x9 h;obtain⟨y9,e⟩:=ih (j+1) (iR j) (by omega)
  refine⟨y9,?_⟩
  have bd:Tg.bind true (.nm 9) (.int (j:Int)) (qE A B T x3 x4 x5 x6 (wR f7 w) (iR (fW w j:Nat)) x9 x10)=.ok (qE A B T x3 x4 x5 x6 (wR f7 w) (iR (fW w j:Nat)) (iR j) x10):=rfl;rw[List.range'_succ,Ap];refine(fN bd (aIj A B T x3 x4 x5 x6 x10 hw f7 (by omega))).trans (e.trans ?_)
  rw[show j+1+r=j+(r+1) by omega]
def stp (T:List Tm)(t:Tm):List Tm:=if t.1.Nodup then step T t else T
theorem aA3 (T:List Tm)(t:Tm):(stp T t).length<=T.length+1:=by
 unfold stp;split
 · exact vH _ _ _
 · omega
theorem vS:∀ (ts T:List Tm),ts.foldl stp T=acc T (ts.filter fun t=>decide t.1.Nodup)
 | [],T=>rfl
 | t :: ts,T=>by
  rw[Ft,vS ts];unfold stp;by_cases z:t.1.Nodup
  · rw[if_pos z,Dm (by simpa using z)];rfl
  · rw[if_neg z,Do (by simpa using z)]
theorem aCw (ts:List Tm):aW (ts.filter fun t=>decide t.1.Nodup)=aW ts:=kL fun g=>by
 induction ts with
 | nil=>rfl
 | cons t ts ih =>
  by_cases z:t.1.Nodup
  · rw[Dm (by simpa using z)]
    simp only[lin,ih]
  · rw[Do (by simpa using z),ih]
    simp only[lin];rw[yE z,Cn,Int.zero_add]
structure Tk (t:Tm):Prop where
 ln:t.1.length<30
 nb:t.2.natAbs<=2^240
theorem aMy (A B:D)(T:List Tm)(hT:T.length<1000){s t:Tm}(hs:Tk s)(ht:Tk t)(f3 f4 f5 f6:Bool)(x7 x8 x9 x10:Option Res) :
 ∃ y7 y8 y9 y10,pbd (qE A B T (some ⟨.shr,f3,.tup (li s.1)⟩) (some ⟨.shr,f4,.int s.2⟩) (some ⟨.shr,f5,.tup (li t.1)⟩) (some ⟨.shr,f6,.int t.2⟩) x7 x8 x9 x10)=.nx (qE A B (stp T (s.1++t.1,s.2*t.2)) (some ⟨.shr,f3,.tup (li s.1)⟩) (some ⟨.shr,f4,.int s.2⟩) (some ⟨.shr,f5,.tup (li t.1)⟩) (some ⟨.shr,f6,.int t.2⟩) y7 y8 y9 y10):=by
 have l1:=hs.ln;have l2:=ht.ln;have hw:(s.1++t.1).length<64:=by rw[An];omega
 obtain⟨f7,e1⟩:∃ f7,aR 7 (oJ (jH (vE 3)) (jH (vE 5))) (qE A B T (some ⟨.shr,f3,.tup (li s.1)⟩) (some ⟨.shr,f4,.int s.2⟩) (some ⟨.shr,f5,.tup (li t.1)⟩) (some ⟨.shr,f6,.int t.2⟩) x7 x8 x9 x10)=.nx (qE A B T (some ⟨.shr,f3,.tup (li s.1)⟩) (some ⟨.shr,f4,.int s.2⟩) (some ⟨.shr,f5,.tup (li t.1)⟩) (some ⟨.shr,f6,.int t.2⟩) (wR f7 (s.1++t.1)) x8 x9 x10):=by
  have g1:=aBo (f:=vE 3) (ρ:=qE A B T (some ⟨.shr,f3,.tup (li s.1)⟩) (some ⟨.shr,f4,.int s.2⟩) (some ⟨.shr,f5,.tup (li t.1)⟩) (some ⟨.shr,f6,.int t.2⟩) x7 x8 x9 x10) (k:=.shr) (fr:=f3||(D.tup (li s.1)).imm) (ds:=li s.1) rfl;have g2:=aBo (f:=vE 5) (ρ:=qE A B T (some ⟨.shr,f3,.tup (li s.1)⟩) (some ⟨.shr,f4,.int s.2⟩) (some ⟨.shr,f5,.tup (li t.1)⟩) (some ⟨.shr,f6,.int t.2⟩) x7 x8 x9 x10) (k:=.shr) (fr:=f5||(D.tup (li t.1)).imm) (ds:=li t.1) rfl;have cz:(li s.1).length+(li t.1).length<=sizeLine:=by rw[Ab,Ab,sizeLine_eq];omega
  have c:oJ (jH (vE 3)) (jH (vE 5)) (qE A B T (some ⟨.shr,f3,.tup (li s.1)⟩) (some ⟨.shr,f4,.int s.2⟩) (some ⟨.shr,f5,.tup (li t.1)⟩) (some ⟨.shr,f6,.int t.2⟩) x7 x8 x9 x10)=.ok ⟨.tmp,(f3||(D.tup (li s.1)).imm)&&(f5||(D.tup (li t.1)).imm),.lst (li (s.1++t.1))⟩:=by
   simp only[oJ,g1,g2,R.ok_bind,asL,if_pos cz,li,Bo]
  exact⟨_,iG c⟩
 generalize hW:s.1++t.1=w at *
 have ln:∀ x8 x9 x10,bY (vE 7) (qE A B T (some ⟨.shr,f3,.tup (li s.1)⟩) (some ⟨.shr,f4,.int s.2⟩) (some ⟨.shr,f5,.tup (li t.1)⟩) (some ⟨.shr,f6,.int t.2⟩) (wR f7 w) x8 x9 x10)=.ok ⟨.shr,true,.int (w.length:Nat)⟩:=fun x8 x9 x10=>by
  refine(lN (k:=.own) (fr:=f7||(D.lst (li w)).imm) (ds:=li w) rfl).trans ?_
  rw[Ab];rfl
 have c:=cY (vF (aFf (f:=vE 7) (ρ:=qE A B T (some ⟨.shr,f3,.tup (li s.1)⟩) (some ⟨.shr,f4,.int s.2⟩) (some ⟨.shr,f5,.tup (li t.1)⟩) (some ⟨.shr,f6,.int t.2⟩) (wR f7 w) x8 x9 x10) (k:=.own) (fr:=f7||(D.lst (li w)).imm) rfl (by omega)) (ln x8 x9 x10))
 by_cases nd:w.Nodup
 · have q:(gS w:Int)=(w.length:Int):=by
    have h1:=vW w;have h2:¬ gS w<w.length:=fun z=>(oZ w).mp z nd;omega
   rw[decide_eq_true q]at c;obtain⟨y9,lp⟩:=aH5 A B T (some ⟨.shr,f3,.tup (li s.1)⟩) (some ⟨.shr,f4,.int s.2⟩) (some ⟨.shr,f5,.tup (li t.1)⟩) (some ⟨.shr,f6,.int t.2⟩) x10 hw f7 w.length 0 x9 (by omega)
   rw[Ew]at lp;have e2:aR 8 (cE (.int 0)) (qE A B T (some ⟨.shr,f3,.tup (li s.1)⟩) (some ⟨.shr,f4,.int s.2⟩) (some ⟨.shr,f5,.tup (li t.1)⟩) (some ⟨.shr,f6,.int t.2⟩) (wR f7 w) x8 x9 x10)=.nx (qE A B T (some ⟨.shr,f3,.tup (li s.1)⟩) (some ⟨.shr,f4,.int s.2⟩) (some ⟨.shr,f5,.tup (li t.1)⟩) (some ⟨.shr,f6,.int t.2⟩) (wR f7 w) (iR (fW w 0:Nat)) x9 x10):=rfl
   have e3:cV (eJ (bY (vE 7))) (.nm 9) ivb (qE A B T (some ⟨.shr,f3,.tup (li s.1)⟩) (some ⟨.shr,f4,.int s.2⟩) (some ⟨.shr,f5,.tup (li t.1)⟩) (some ⟨.shr,f6,.int t.2⟩) (wR f7 w) (iR (fW w 0:Nat)) x9 x10)=.nx (qE A B T (some ⟨.shr,f3,.tup (li s.1)⟩) (some ⟨.shr,f4,.int s.2⟩) (some ⟨.shr,f5,.tup (li t.1)⟩) (some ⟨.shr,f6,.int t.2⟩) (wR f7 w) (iR (inv w:Nat)) y9 x10):=by
    refine(fT (uU (ln _ _ _) (by omega))).trans ?_
    rw[List.range_eq_range'];exact lp
   have e4:aR 10 (lV (jR (vE 7))) (qE A B T (some ⟨.shr,f3,.tup (li s.1)⟩) (some ⟨.shr,f4,.int s.2⟩) (some ⟨.shr,f5,.tup (li t.1)⟩) (some ⟨.shr,f6,.int t.2⟩) (wR f7 w) (iR (inv w:Nat)) y9 x10)=.nx (qE A B T (some ⟨.shr,f3,.tup (li s.1)⟩) (some ⟨.shr,f4,.int s.2⟩) (some ⟨.shr,f5,.tup (li t.1)⟩) (some ⟨.shr,f6,.int t.2⟩) (wR f7 w) (iR (inv w:Nat)) y9 (some ⟨.shr,true,.tup (li (srt ix w))⟩)) :=
    set_shr (uP (aI5 (k:=.own) (fr:=f7||(D.lst (li w)).imm) rfl hw))
   obtain⟨f8,e5⟩:=aD7 (a:=vE 2) (k:=vE 10) (x:=cE (.int 0)) (ρ:=qE A B T (some ⟨.shr,f3,.tup (li s.1)⟩) (some ⟨.shr,f4,.int s.2⟩) (some ⟨.shr,f5,.tup (li t.1)⟩) (some ⟨.shr,f6,.int t.2⟩) (wR f7 w) (iR (inv w:Nat)) y9 (some ⟨.shr,true,.tup (li (srt ix w))⟩)) (A:=T) (q:=srt ix w) (kd:=.own) (kd':=.shr) (kd'':=.shr) (fr:=true) (fr':=true) (fr'':=true) rfl rfl rfl;have m1:cC (vE 4) (vE 6) (qE A B T (some ⟨.shr,f3,.tup (li s.1)⟩) (some ⟨.shr,f4,.int s.2⟩) (some ⟨.shr,f5,.tup (li t.1)⟩) (some ⟨.shr,f6,.int t.2⟩) (wR f7 w) (iR (inv w:Nat)) y9 (some ⟨.shr,true,.tup (li (srt ix w))⟩))=.ok ⟨.shr,true,.int (s.2*t.2)⟩:=bM (C:=CM) (G:=fun i j=>i*j) (k:=.shr) (fr:=f4||true) (i:=s.2) (k':=.shr) (fr':=f6||true) (j:=t.2) rfl rfl (gJ (tD hs.nb) (tD ht.nb))
   have m2:=bM (C:=CM) (G:=fun i j=>i*j) m1 (Od.aKc (f:=vE 8) (k:=.shr) (fr:=true) (x:=inv w) rfl) (gJ (by
    rw[Di]
    exact jU (Ak (Cb hs.nb ht.nb) (by rw[←Fd];exact Az (by decide) (by decide)))) (aJx _))
   have m3:=bM (C:=C0) (G:=fun i j=>i+j) e5 m2 rfl;have e6:=aBr (fr:=true) (i:=2) (k:=vE 10) (f:=cA (oK (vE 2) (vE 10) (cE (.int 0))) (cC (cC (vE 4) (vE 6)) (sgE (vE 8)))) (ρ:=qE A B T (some ⟨.shr,f3,.tup (li s.1)⟩) (some ⟨.shr,f4,.int s.2⟩) (some ⟨.shr,f5,.tup (li t.1)⟩) (some ⟨.shr,f6,.int t.2⟩) (wR f7 w) (iR (inv w:Nat)) y9 (some ⟨.shr,true,.tup (li (srt ix w))⟩)) (v:=look T (srt ix w)+s.2*t.2*sgn (inv w)) (kd:=.shr) (A:=T) (q:=srt ix w) (kd':=.shr) (fr':=true) rfl m3 (by decide) rfl (by rw[sizeLine_eq];omega)
   have v:val (w,s.2*t.2)=s.2*t.2*sgn (inv w):=by
    rw[fD];show trn w*_=_
    unfold trn;rw[if_pos nd,Fq]
   have z:stp T (w,s.2*t.2)=put T (srt ix w) (look T (srt ix w)+s.2*t.2*sgn (inv w)):=by
    unfold stp;rw[if_pos nd];show put T (key (w,s.2*t.2)) (look T (key (w,s.2*t.2))+val (w,s.2*t.2))=_
    rw[v];rfl
   have e7:ifS (bT (eqE (tY (vE 7)) (bY (vE 7)))) pin cI (qE A B T (some ⟨.shr,f3,.tup (li s.1)⟩) (some ⟨.shr,f4,.int s.2⟩) (some ⟨.shr,f5,.tup (li t.1)⟩) (some ⟨.shr,f6,.int t.2⟩) (wR f7 w) x8 x9 x10)=.nx (qE A B (stp T (w,s.2*t.2)) (some ⟨.shr,f3,.tup (li s.1)⟩) (some ⟨.shr,f4,.int s.2⟩) (some ⟨.shr,f5,.tup (li t.1)⟩) (some ⟨.shr,f6,.int t.2⟩) (wR f7 w) (iR (inv w:Nat)) y9 (some ⟨.shr,true,.tup (li (srt ix w))⟩)):=by
    rw[hE c,if_pos rfl,z];exact(aQ e2).trans ((aQ e3).trans ((aQ e4).trans e6))
   exact⟨_,_,_,_,(aQ e1).trans e7⟩
 · have q:(gS w:Int)≠(w.length:Int):=by
    have:=(oZ w).mpr nd
    omega
   rw[decide_eq_false q]at c;have z:stp T (w,s.2*t.2)=T:=if_neg nd;rw[z];exact⟨_,_,_,_,(aQ e1).trans ((hE c).trans rfl)⟩
end Od
namespace Od
open PySem L2 Mir Srt Sm
abbrev pT (f:Bool)(t:Tm):Option Res:=some ⟨.shr,f,.tup (li t.1)⟩
abbrev pN (f:Bool)(t:Tm):Option Res:=some ⟨.shr,f,.int t.2⟩
theorem aN6 (A B:D){s:Tm}(hs:Tk s)(f3 f:Bool):∀ (ts T:List Tm) (x5 x6 x7 x8 x9 x10:Option Res),(∀ t∈ts,Tk t)->T.length+ts.length<=900 ->
 ∃ y5 y6 y7 y8 y9 y10,fZ (.tp [.nm 5,.nm 6]) pbd f (ts.map mkP) (qE A B T (pT f3 s) (pN f3 s) x5 x6 x7 x8 x9 x10)=.nx (qE A B ((ts.map fun t=>(s.1++t.1,s.2*t.2)).foldl stp T) (pT f3 s) (pN f3 s) y5 y6 y7 y8 y9 y10)
 | [],T,x5,x6,x7,x8,x9,x10,_,_=>⟨x5,x6,x7,x8,x9,x10,rfl⟩
 | t :: ts,T,x5,x6,x7,x8,x9,x10,h,hz=>by
  rw[Av]at hz;obtain⟨y7,y8,y9,y10,e⟩:=aMy A B T (by omega) hs (h t Aa) f3 f3 f f x7 x8 x9 x10
  have sl:=aA3 T (s.1++t.1,s.2*t.2);obtain⟨z5,z6,z7,z8,z9,z10,ih⟩:=aN6 A B hs f3 f ts (stp T (s.1++t.1,s.2*t.2)) (pT f t) (pN f t) y7 y8 y9 y10 (fun u hu=>h u (Ac _ hu)) (by omega)
  have bd:Tg.bind f (.tp [.nm 5,.nm 6]) (mkP t) (qE A B T (pT f3 s) (pN f3 s) x5 x6 x7 x8 x9 x10)=.ok (qE A B T (pT f3 s) (pN f3 s) (pT f t) (pN f t) x7 x8 x9 x10):=rfl;exact⟨z5,z6,z7,z8,z9,z10,(fN (r:=ts.map mkP) bd e).trans ih⟩
theorem xD (ts:List Tm):∀ T:List Tm,(ts.foldl stp T).length<=T.length+ts.length:=by
 induction ts with
 | nil=>intro T;exact Af _
 | cons t ts ih =>
  intro T;have h1:=ih (stp T t);have h2:=aA3 T t;rw[Ft,Av];omega
theorem aJ9 (A:D){b:List Tm}(hb:∀ t∈b,Tk t)(f3:Bool):∀ (a T:List Tm) (x3 x4 x5 x6 x7 x8 x9 x10:Option Res),(∀ t∈a,Tk t)->T.length+a.length*b.length<=900 ->
 ∃ y3 y4 y5 y6 y7 y8 y9 y10,fZ (.tp [.nm 3,.nm 4]) (cV (dC (vE 1)) (.tp [.nm 5,.nm 6]) pbd) f3 (a.map mkP) (qE A (aB b) T x3 x4 x5 x6 x7 x8 x9 x10)=.nx (qE A (aB b) ((bO a b).foldl stp T) y3 y4 y5 y6 y7 y8 y9 y10)
 | [],T,x3,x4,x5,x6,x7,x8,x9,x10,_,_=>⟨x3,x4,x5,x6,x7,x8,x9,x10,rfl⟩
 | s :: a,T,x3,x4,x5,x6,x7,x8,x9,x10,h,hz=>by
  rw[Av,Fo]at hz;obtain⟨y5,y6,y7,y8,y9,y10,e⟩:=aN6 A (aB b) (h s Aa) f3 (false||(aB b).imm) b T x5 x6 x7 x8 x9 x10 hb (by omega)
  have fl:=xD (b.map fun t=>(s.1++t.1,s.2*t.2)) T;rw[Ab]at fl;obtain⟨z3,z4,z5,z6,z7,z8,z9,z10,ih⟩:=aJ9 A hb f3 a ((b.map fun t=>(s.1++t.1,s.2*t.2)).foldl stp T) (pT f3 s) (pN f3 s) y5 y6 y7 y8 y9 y10 (fun u hu=>h u (Ac _ hu)) (by omega)
  have bd:Tg.bind f3 (.tp [.nm 3,.nm 4]) (mkP s) (qE A (aB b) T x3 x4 x5 x6 x7 x8 x9 x10)=.ok (qE A (aB b) T (pT f3 s) (pN f3 s) x5 x6 x7 x8 x9 x10):=rfl;have e':cV (dC (vE 1)) (.tp [.nm 5,.nm 6]) pbd (qE A (aB b) T (pT f3 s) (pN f3 s) x5 x6 x7 x8 x9 x10)=.nx (qE A (aB b) ((b.map fun t=>(s.1++t.1,s.2*t.2)).foldl stp T) (pT f3 s) (pN f3 s) y5 y6 y7 y8 y9 y10):=(fT (lG (k:=.shr) (fr:=false||(aB b).imm) (ds:=b.map mkP) rfl)).trans e;refine⟨z3,z4,z5,z6,z7,z8,z9,z10,(fN (r:=a.map mkP) bd e').trans (ih.trans ?_)⟩
  rw[show bO (s :: a) b=(b.map fun t=>(s.1++t.1,s.2*t.2))++bO a b by unfold bO;rw[List.flatMap_cons],List.foldl_append]
abbrev kfb:FB:=Mir.bIf (bT (neE (eV (vE 1) (vE 0)) (cE (.int 0)))) (dO [vE 0,eV (vE 1) (vE 0)])
theorem sW:∀ T:List Tm,D.imms (T.map fun p=>D.int p.2)=true
 | []=>rfl
 | t :: T=>sW T
theorem aLf {T:List Tm}(nd:(T.map (·.1)).Nodup)(hz:T.length<=1000)(A B:D)(x3 x4 x5 x6 x7 x8 x9 x10:Option Res):zP 2 1 (.nm 0) kfb (qE A B T x3 x4 x5 x6 x7 x8 x9 x10)=.ok ⟨.tmp,true,.lst ((T.filter fun t=>t.2 != 0).map mkP)⟩:=by
 have c:hG (.nm 0) kfb false [none,some ⟨.shr,false,dK T⟩] (T.map fun t=>nH t.1)=.ok (true,(T.filter fun t=>t.2 != 0).map mkP):=by
  refine nV T fun t ht=>⟨[some ⟨.shr,false,.tup (li t.1)⟩,some ⟨.shr,false,dK T⟩],.shr,rfl,?_,by decide⟩
  have v0:vE 0 [some ⟨.shr,false,.tup (li t.1)⟩,some ⟨.shr,false,dK T⟩]=.ok ⟨.shr,true,.tup (li t.1)⟩:=sV;have g:eV (vE 1) (vE 0) [some ⟨.shr,false,.tup (li t.1)⟩,some ⟨.shr,false,dK T⟩]=.ok ⟨.shr,true,.int (look T t.1)⟩:=aEt (kd:=.shr) (fr:=false||(dK T).imm) rfl v0 (Ar.mpr ⟨t,ht,rfl⟩);rw[mZ nd ht]at g;exact nJ (r:=⟨.shr,true,mkP t⟩) (c:=t.2 != 0) (cY (pF (k':=.shr) (fr':=true) (j:=0) g rfl)) fun _=>iB (k:=.shr) (fr:=true) (d:=.tup (li t.1)) v0 g (by decide) (by decide)
 have l:(T.map (·.1)).length<=sizeLine:=by rw[Ab,sizeLine_eq];omega
 show (hG (.nm 0) kfb false [none,some ⟨.shr,false,dK T⟩] ((T.map (·.1)).map nH) >>= fun y=>if D.imms (T.map fun p=>D.int p.2)=true/\(T.map (·.1)).length<=sizeLine/\y.1=true then R.ok (⟨.tmp,true,.lst y.2⟩:Res) else .stk)=_
 rw[Bm,show (nH∘fun (t:Tm)=>t.1)=fun t=>nH t.1 from rfl,c,R.ok_bind,if_pos ⟨sW T,l,rfl⟩]
theorem aG2 {L K:Nat}{a b:List Tm}(ha:Sum L a)(hb:Sum K b)(h5:L+K<=20)(sm:(aW (bO a b)).length<64):cW 2 11 wB [aB a,aB b]=.ok ⟨.tmp,true,aB (aW (bO a b))⟩:=by
 have hL:=ha.hL;have hK:=hb.hL;have ka:∀ t∈a,Tk t:=fun t ht=>⟨by rw[ha.sz t ht];omega,ha.nb t ht⟩
 have kb:∀ t∈b,Tk t:=fun t ht=>⟨by rw[hb.sz t ht];omega,hb.nb t ht⟩
 have mm:=Cb ha.ln hb.ln;have e1:aR 2 pS [some ⟨.shr,false,aB a⟩,some ⟨.shr,false,aB b⟩,none,none,none,none,none,none,none,none,none]=.nx (qE (aB a) (aB b) [] none none none none none none none none):=rfl;obtain⟨y3,y4,y5,y6,y7,y8,y9,y10,l⟩:=aJ9 (aB a) kb (false||(aB a).imm) a [] none none none none none none none none ka (by rw[Bp];omega)
 have e2:cV (dC (vE 0)) (.tp [.nm 3,.nm 4]) (cV (dC (vE 1)) (.tp [.nm 5,.nm 6]) pbd) (qE (aB a) (aB b) [] none none none none none none none none)=.nx (qE (aB a) (aB b) ((bO a b).foldl stp []) y3 y4 y5 y6 y7 y8 y9 y10):=(fT (lG (k:=.shr) (fr:=false||(aB a).imm) (ds:=a.map mkP) rfl)).trans l;have fl:=xD (bO a b) [];rw[Bp,wV]at fl
 have so:aW (bO a b)=srt px (((bO a b).foldl stp []).filter fun t=>t.2 != 0):=by
  rw[←aCw,vS];rfl
 have nd:(((bO a b).foldl stp []).map (·.1)).Nodup:=by rw[vS];exact gD _ [] Cy
 rw[so,wL]at sm;rw[so];generalize (bO a b).foldl stp []=T at *
 have e3:∀ x7,bD (lB (zP 2 1 (.nm 0) kfb)) (qE (aB a) (aB b) T y3 y4 y5 y6 x7 y8 y9 y10)=.rt ⟨.tmp,true,aB (srt px (T.filter fun t=>t.2 != 0))⟩:=fun x7=>by
  have k:=aLf nd (by omega) (aB a) (aB b) y3 y4 y5 y6 x7 y8 y9 y10
  refine fX ?_
  simp only[lB,k,R.ok_bind,asL,pH,if_pos sm]
 have e4:mO 7 (bD (lB (zP 2 1 (.nm 0) kfb))) (qE (aB a) (aB b) T y3 y4 y5 y6 y7 y8 y9 y10)=.rt ⟨.tmp,true,aB (srt px (T.filter fun t=>t.2 != 0))⟩:=by
  cases y7 with
  | none=>exact e3 none
  | some e=>exact e3 (some ⟨.shr,e.fr,e.d⟩)
 have g:wB (stE 11 [aB a,aB b])=.rt ⟨.tmp,true,aB (srt px (T.filter fun t=>t.2 != 0))⟩:=(aQ e1).trans ((aQ e2).trans e4);exact(dX (np:=2) (n:=11) (s:=wB) (ds:=[aB a,aB b]) rfl g).trans rfl
end Od
namespace Od
open PySem L2 Mir Srt Sm
theorem uK:∀ m,m<6->∀ k∈iQ m,k.length<=m:=by decide +kernel
theorem G.ne_len {m L B:Nat}{S:List Tm}(g:G m L B S)(h:S≠[]):L<=m:=by
 have m5:=g.i.m5;cases S with
 | nil=>exact absurd rfl h
 | cons t S =>
  have a:=uK m (by omega) t.1 (g.inM t Aa)
  rw[g.i.sm.sz t Aa]at a;exact a
theorem aBu {m:Nat}(hm:m<6){p:List Int}(hp:p∈iQ m):aW (bO [(p,1)] [(aP m p,1)])=[(fG m,sgn (bS p (aP m p)))]:=by
 have e:aW (bO [(p,1)] [(aP m p,1)])=aW [(fG m,sgn (bS p (aP m p)))]:=kL fun g=>by
  have h5:=iC m hm p hp;have q:=aE5 (ovw m hm p hp p hp rfl) g;have z:=iV _ (iC m hm _ (wJ (m:=m) (aAk m hm) fun x hx=>nF.mp hx));have l5:=iV _ (iC m hm _ (mY m hm p hp));rw[aGm];have k1:=iV p h5;show val (p,1)*(val (aP m p,1)*(xs (srt ix p) (srt ix (aP m p))*g (srt ix (srt ix p++srt ix (aP m p))))+0)+0=val (fG m,sgn (bS p (aP m p)))*g (srt ix (fG m))+0
  rw[fD,fD,fD,k1.2,l5.2,z.2];show trn p*1*(trn (aP m p)*1*_+0)+0=trn (fG m)*_*_+0
  rw[k1.1,l5.1,z.1];have i1:ind p p=1:=if_pos rfl;rw[i1,Cn,Int.add_zero,Ct]at q;have s2:=aGk (bS p (aP m p))
  have q2:xs p (aP m p)*g (srt ix (p++aP m p))=sgn (bS p (aP m p))*g (fG m):=by
   rw[←q];show _=sgn (bS p (aP m p))*(sgn (bS p (aP m p))*xs p (aP m p)*g (srt ix (p++aP m p)))
   rw[←Ci,←Ci,s2,Ct]
  rw[q2];show 1*1*(1*1*(sgn (bS p (aP m p))*g (fG m))+0)+0=1*sgn (bS p (aP m p))*g (fG m)+0
  rw[Ct,Ct,Ct,Ct];omega
 rw[e,aDh hm,if_neg];rcases lI (bS p (aP m p)) with z | z<;>rw[z]<;>decide
abbrev obd (φp:Φ):FS:=(aL (aR 5 (lV (qR 0 3)))
 (jB 2 (dO [vE 5,cC (vE 4) (aX (aX (aC φp [bZ [dO [vE 3,cE (.int 1)]],bZ [dO [vE 5,cE (.int 1)]]]) (cE (.int 0))) (cE (.int 1)))])))
abbrev vB (φp:Φ):FS :=
 (aL (aR 2 (bZ []))
 (aL (mO 1 (cV (dC (vE 1)) (.tp [.nm 3,.nm 4]) (obd φp)))
 (bD (lB (vE 2)))))
abbrev wO (φp:Φ):Prop:=∀ {L K:Nat} {a b:List Tm},Sum L a->Sum K b->L+K<=20->(aW (bO a b)).length<64->φp [aB a,aB b]=.ok ⟨.tmp,true,aB (aW (bO a b))⟩
abbrev vEv (m:Nat)(B:D)(acc:List Tm)(x3 x4 x5:Option Res):Mir.Env:=[some ⟨.shr,false,.int m⟩,some ⟨.shr,false,B⟩,oR acc,x3,x4,x5]
theorem yR {f:FE}{ρ:Mir.Env}{k:Kd}{p:List Int}(h:f ρ=.ok ⟨k,true,.tup (li p)⟩)(hk:k≠.own):bZ [dO [f,cE (.int 1)]] ρ=.ok ⟨.tmp,true,aB [(p,1)]⟩:=by
 have t:=iB h (k':=.shr) (fr':=true) (d':=.int 1) (g:=cE (.int 1)) rfl hk (by decide)
 have hz:([D.tup [.tup (li p),.int 1]]:List D).length<=sizeLine:=by show 1<=sizeLine;decide
 have ev:=aD t bB;simp only[bZ,ev,R.ok_bind,gives,Res.give,reduceCtorEq,if_false];exact if_pos hz
theorem aA9 {m:Nat}{p:List Int}(nd:p.Nodup)(hl:p.length<=20)(rg:∀ x∈p,0<=x/\x<(5:Int)):Sum p.length [(p,1)]:=by
 refine⟨by simp,hl,?_,?_,?_,?_⟩
 all_goals (intro t ht;rw[Ay.mp ht])
 · exact rg
 · exact nd
 · exact Nat.one_le_two_pow
theorem aG1 {φp:Φ}(hp:wO φp){m:Nat}(m5:m<=5)(B:D)(acc:List Tm)(ha:acc.length<1000){t:Tm}(ht:t.1∈iQ m)(nb:t.2.natAbs<=2^240)(f:Bool)(x5:Option Res) :
 ∃ y5,obd φp (vEv m B acc (pT f t) (pN f t) x5)=.nx (vEv m B (acc++[ovT m t]) (pT f t) (pN f t) y5):=by
 have h5:=iC m (by omega) _ ht
 have l5:=iC m (by omega) _ (mY m (by omega) _ ht)
 have lm:=uK m (by omega) _ ht
 have ll:=uK m (by omega) _ (mY m (by omega) _ ht)
 have nd:∀ k∈iQ 5,k.Nodup:=by decide +kernel
 have e1:aR 5 (lV (qR 0 3)) (vEv m B acc (pT f t) (pN f t) x5)=.nx (vEv m B acc (pT f t) (pN f t) (some ⟨.shr,true,.tup (li (aP m t.1))⟩)):=set_shr (uP (aFv (k:=.shr) (fr:=true) (f':=f) rfl rfl (by omega)))
 have v3:vE 3 (vEv m B acc (pT f t) (pN f t) (some ⟨.shr,true,.tup (li (aP m t.1))⟩))=.ok ⟨.shr,true,.tup (li t.1)⟩:=by
  show (R.ok (⟨.shr,f||(D.tup (li t.1)).imm,.tup (li t.1)⟩:Res):R Res)=_
  rw[aEc,Ez]
 have c:=bR (φ:=φp) (fs:=[bZ [dO [vE 3,cE (.int 1)]],bZ [dO [vE 5,cE (.int 1)]]]) (aD (yR v3 (by decide)) (aD (yR (f:=vE 5) (k:=.shr) (p:=aP m t.1) rfl (by decide)) bB)) (hp (aA9 (m:=m) (nd _ h5) (by omega) (vU _ h5)) (aA9 (m:=m) (nd _ l5) (by omega) (vU _ l5)) (by omega) (by rw[aBu (by omega) ht];simp))
 rw[aBu (by omega) ht]at c
 have a1:=eZ c (g:=cE (.int 0)) (k':=.shr) (fr':=true) (i:=0) rfl (d:=.tup [.tup (li (fG m)),.int (sgn (bS t.1 (aP m t.1)))]) rfl;have a2:=aJq (g:=cE (.int 1)) a1 (k':=.shr) (fr':=true) (i:=1) rfl (d:=.int (sgn (bS t.1 (aP m t.1)))) rfl;have mu:=bM (C:=CM) (G:=fun i j=>i*j) (f:=vE 4) (k:=.shr) (fr:=f||true) (i:=t.2) rfl a2 (gJ (tD nb) (aJx _));have tp:=iB (f:=vE 5) (k:=.shr) (fr:=true) (d:=.tup (li (aP m t.1))) rfl mu (by decide) (by decide)
 have ap:=pQ (i:=2) (f:=dO [vE 5,cC (vE 4) (aX (aX (aC φp [bZ [dO [vE 3,cE (.int 1)]],bZ [dO [vE 5,cE (.int 1)]]]) (cE (.int 0))) (cE (.int 1)))]) (ρ:=vEv m B acc (pT f t) (pN f t) (some ⟨.shr,true,.tup (li (aP m t.1))⟩)) (fr:=true) (ds:=acc.map mkP) rfl tp (by decide) (by rw[Ab,sizeLine_eq];omega)
 refine⟨some ⟨.shr,true,.tup (li (aP m t.1))⟩,(aQ e1).trans (ap.trans ?_)⟩
 have q:(acc++[ovT m t]).map mkP=acc.map mkP++[.tup [.tup (li (aP m t.1)),.int (t.2*sgn (bS t.1 (aP m t.1)))]]:=by rw[Bo];rfl
 show RS.nx [_,_,some (⟨.own,true&&true,.lst (acc.map mkP++[.tup [.tup (li (aP m t.1)),.int (t.2*sgn (bS t.1 (aP m t.1)))]])⟩:Res),_,_,_]=RS.nx [_,_,some (⟨.own,true,.lst ((acc++[ovT m t]).map mkP)⟩:Res),_,_,_]
 rw[q];rfl
theorem aAo {φp:Φ}(hp:wO φp){m:Nat}(m5:m<=5)(B:D)(f:Bool):∀ (S acc:List Tm) (x3 x4 x5:Option Res),(∀ t∈S,t.1∈iQ m/\t.2.natAbs<=2^240)->acc.length+S.length<=900 ->
 ∃ y3 y4 y5,fZ (.tp [.nm 3,.nm 4]) (obd φp) f (S.map mkP) (vEv m B acc x3 x4 x5)=.nx (vEv m B (acc++bL m S) y3 y4 y5)
 | [],acc,x3,x4,x5,_,_=>⟨x3,x4,x5,by rw[show acc++bL m []=acc from Ce _];rfl⟩
 | t :: S,acc,x3,x4,x5,h,hz=>by
  rw[Av]at hz;have h0:=h t Aa;obtain⟨y5,e⟩:=aG1 hp m5 B acc (by omega) h0.1 h0.2 f x5
  obtain⟨z3,z4,z5,ih⟩:=aAo hp m5 B f S (acc++[ovT m t]) (pT f t) (pN f t) y5 (fun u hu=>h u (Ac _ hu)) (by rw[An,Ck];omega)
  have bd:Tg.bind f (.tp [.nm 3,.nm 4]) (mkP t) (vEv m B acc x3 x4 x5)=.ok (vEv m B acc (pT f t) (pN f t) x5):=rfl;refine⟨z3,z4,z5,(fN (r:=S.map mkP) bd e).trans (ih.trans ?_)⟩
  rw[Db];rfl
theorem aJv {φp:Φ}(hp:wO φp){m L B:Nat}{S:List Tm}(g:G m L B S):cW 2 6 (vB φp) [.int m,aB S]=.ok ⟨.tmp,true,aB (aW (bL m S))⟩:=by
 have l1:=g.i.sm.ln;have e1:aR 2 (bZ []) [some ⟨.shr,false,.int m⟩,some ⟨.shr,false,aB S⟩,none,none,none,none]=.nx (vEv m (aB S) [] none none none):=rfl;obtain⟨y3,y4,y5,l⟩:=aAo hp g.i.m5 (aB S) false S [] none none none (fun t ht=>⟨g.inM t ht,g.i.sm.nb t ht⟩) (by rw[Bp];omega)
 rw[Cq]at l;have e2:mO 1 (cV (dC (vE 1)) (.tp [.nm 3,.nm 4]) (obd φp)) (vEv m (aB S) [] none none none)=.nx (vEv m (aB S) (bL m S) y3 y4 y5):=(aE7 (e:=⟨.shr,false,aB S⟩) rfl).trans ((fT (fr:=false) (ds:=S.map mkP) rfl).trans l);have sm:(bL m S).length<64:=by unfold bL;rw[Ab];omega
 have e3:bD (lB (vE 2)) (vEv m (aB S) (bL m S) y3 y4 y5)=.rt ⟨.tmp,true,aB (aW (bL m S))⟩:=by
  refine fX ?_
  have v:vE 2 (vEv m (aB S) (bL m S) y3 y4 y5)=.ok ⟨.own,true,aB (bL m S)⟩:=rfl;simp only[lB,v,R.ok_bind,asL,pH,if_pos sm];rw[g.i.over]
 have h:vB φp (stE 6 [.int m,aB S])=.rt ⟨.tmp,true,aB (aW (bL m S))⟩:=(aQ e1).trans ((aQ e2).trans e3);exact(dX (np:=2) (n:=6) (s:=vB φp) (ds:=[.int m,aB S]) rfl h).trans rfl
def lK (m L:Nat)(S:List Tm):List Tm:=aW (gG (aW (bL m S)) (sgn (L*(m-L))))
abbrev lX (φo φt:Φ):FS :=
 (aL (aR 2 (aC φo [vE 0,vE 1]))
 (aL (ifS (eF (yQ (vE 1)))
  (bD (vE 2))
  cI)
 (aL (aR 3 (bY (aX (aX (vE 1) (cE (.int 0))) (cE (.int 0)))))
 (bD (aC φt [vE 2,sgE (cC (vE 3) (eU (vE 0) (vE 3)))])))))
theorem aG9 {φo φt:Φ}{m L B:Nat}{S:List Tm}(g:G m L B S)(ho:φo [.int m,aB S]=.ok ⟨.tmp,true,aB (aW (bL m S))⟩)(ht:φt [aB (aW (bL m S)),.int (sgn (L*(m-L)))]=.ok ⟨.tmp,true,aB (lK m L S)⟩) :
 cW 2 4 (lX φo φt) [.int m,aB S]=.ok ⟨.tmp,true,aB (lK m L S)⟩:=by
 have m5:=g.i.m5;have e1:aR 2 (aC φo [vE 0,vE 1]) [some ⟨.shr,false,.int m⟩,some ⟨.shr,false,aB S⟩,none,none]=.nx [some ⟨.shr,false,.int m⟩,some ⟨.shr,false,aB S⟩,oR (aW (bL m S)),none]:=iG (bR (rs:=[⟨.shr,true,.int m⟩,⟨.shr,false||(aB S).imm,aB S⟩]) (aD rfl (aD rfl bB)) ho);have t:eF (yQ (vE 1)) [some ⟨.shr,false,.int m⟩,some ⟨.shr,false,aB S⟩,oR (aW (bL m S)),none]=.ok (!(!(S.map mkP).isEmpty)):=oV (aAg (k:=.shr) (fr:=false||(aB S).imm) (ds:=S.map mkP) rfl);cases hS:S with
 | nil =>
  rw[hS]at t e1
  have u:lK m L []=[]:=by
   unfold lK;rw[show bL m []=[] from rfl,iM,show gG [] (sgn (L*(m-L)))=[] from rfl,iM]
  rw[show aW (bL m [])=[] by rw[show bL m []=[] from rfl,iM]]at e1 t
  have h:lX φo φt (stE 4 [.int m,aB []])=.rt ⟨.tmp,true,aB (lK m L [])⟩:=by
   rw[u];exact(aQ e1).trans (zW ((hE t).trans rfl))
  exact(dX (np:=2) (n:=4) (s:=lX φo φt) (ds:=[.int m,aB []]) rfl h).trans rfl
 | cons q r =>
  have lm:=g.ne_len (by rw[hS];exact List.cons_ne_nil _ _)
  have ql:q.1.length=L:=g.i.sm.sz q (by rw[hS];exact Aa)
  rw[←hS]
  have e2:ifS (eF (yQ (vE 1))) (bD (vE 2)) cI [some ⟨.shr,false,.int m⟩,some ⟨.shr,false,aB S⟩,oR (aW (bL m S)),none]=.nx [some ⟨.shr,false,.int m⟩,some ⟨.shr,false,aB S⟩,oR (aW (bL m S)),none]:=by
   rw[hE t,hS];rfl
  have a1:aX (vE 1) (cE (.int 0)) [some ⟨.shr,false,.int m⟩,some ⟨.shr,false,aB S⟩,oR (aW (bL m S)),none]=.ok ⟨.shr,_,.tup [.tup (li q.1),.int q.2]⟩:=eZ (k:=.shr) (fr:=false||(aB S).imm) (k':=.shr) (fr':=true) (i:=0) (ds:=S.map mkP) rfl rfl (by rw[hS];rfl)
  have a2:=aJq (g:=cE (.int 0)) a1 (k':=.shr) (fr':=true) (i:=0) rfl (d:=.tup (li q.1)) rfl
  have l3:bY (aX (aX (vE 1) (cE (.int 0))) (cE (.int 0))) [some ⟨.shr,false,.int m⟩,some ⟨.shr,false,aB S⟩,oR (aW (bL m S)),none]=.ok ⟨.shr,true,.int (L:Nat)⟩:=by
   refine(oU a2).trans ?_
   rw[Ab,ql];rfl
  have e3:aR 3 (bY (aX (aX (vE 1) (cE (.int 0))) (cE (.int 0)))) [some ⟨.shr,false,.int m⟩,some ⟨.shr,false,aB S⟩,oR (aW (bL m S)),none]=.nx [some ⟨.shr,false,.int m⟩,some ⟨.shr,false,aB S⟩,oR (aW (bL m S)),iR (L:Nat)]:=set_shr l3;have d1:eU (vE 0) (vE 3) [some ⟨.shr,false,.int m⟩,some ⟨.shr,false,aB S⟩,oR (aW (bL m S)),iR (L:Nat)]=.ok ⟨.shr,true,.int ((m-L:Nat):Int)⟩:=(bM (C:=C0) (G:=fun i j=>i-j) (k:=.shr) (fr:=true) (i:=(m:Int)) (k':=.shr) (fr':=true) (j:=(L:Int)) rfl rfl rfl).trans (by rw[Int.natCast_sub lm];rfl)
  have d2:cC (vE 3) (eU (vE 0) (vE 3)) [some ⟨.shr,false,.int m⟩,some ⟨.shr,false,aB S⟩,oR (aW (bL m S)),iR (L:Nat)]=.ok ⟨.shr,true,.int ((L*(m-L):Nat):Int)⟩:=(bM (C:=CM) (G:=fun i j=>i*j) (k:=.shr) (fr:=true) (i:=(L:Int)) rfl d1 (gJ (sm9 (by omega)) (sm9 (by omega)))).trans (by rw[Int.natCast_mul];rfl)
  have e4:bD (aC φt [vE 2,sgE (cC (vE 3) (eU (vE 0) (vE 3)))]) [some ⟨.shr,false,.int m⟩,some ⟨.shr,false,aB S⟩,oR (aW (bL m S)),iR (L:Nat)]=.rt ⟨.tmp,true,aB (lK m L S)⟩:=fX (bR (rs:=[⟨.own,true,aB (aW (bL m S))⟩,⟨.shr,true,.int (sgn (L*(m-L)))⟩]) (aD rfl (aD (Od.aKc d2) bB)) ht);have h:lX φo φt (stE 4 [.int m,aB S])=.rt ⟨.tmp,true,aB (lK m L S)⟩:=(aQ e1).trans ((aQ e2).trans ((aQ e3).trans e4));exact(dX (np:=2) (n:=4) (s:=lX φo φt) (ds:=[.int m,aB S]) rfl h).trans rfl
theorem zT {m L B:Nat}{S:List Tm}(g:G m L B S)(hs:aW S=S):aW (bL m (lK m L S))=S:=by
 have m5:=g.i.m5;conv=>rhs;rw[←hs]
 refine kL fun h=>?_
 have i1:InM m (aW (bL m S)):=(xT (by omega) g.inM).sum (by omega)
 have i2:InM m (gG (aW (bL m S)) (sgn (L*(m-L)))):=fun t ht=>by
  obtain⟨u,hu,rfl⟩:=Ar.mp ht;exact i1 u hu
 have o:∀ f,lin (aW (bL m (aW (bL m S)))) f=lin S f*sgn (L*(m-L)):=fun f=>by
  rw[aCv (by omega) g.inM g.deg,mG,wC]
 unfold lK;rw[mV (by omega) h (i2.sum (by omega)),mG,wC]
 have o1:=o h;rw[mG,mV (by omega) h i1]at o1
 rw[o1,Ci,aGk,Int.mul_one]
end Od
namespace Od
open PySem L2 Mir Srt Sm
theorem aJ4 {f:FE}{ρ:Mir.Env}{k:Kd}{fr:Bool}{ds:List D}(h:f ρ=.ok ⟨k,fr,.tup ds⟩):eE .tuple f ρ=.ok (sc (.bl true)):=by simp only[eE,h,R.ok_bind];rfl
theorem aMu {f g:FE}{ρ:Mir.Env}{k k':Kd}{fr fr':Bool}{p q:List Int}(h1:f ρ=.ok ⟨k,fr,.tup (li p)⟩)(h2:g ρ=.ok ⟨k',fr',.tup (li q)⟩):zH f g ρ=.ok (sc (.bl (!HT.cT p q))):=by simp only[zH,h1,h2,R.ok_bind,eK]
theorem aEe {f:FE}{ρ:Mir.Env}{fr:Bool}{t:Tm}{ρ':Mir.Env}(h:f ρ=.ok ⟨.shr,fr,mkP t⟩)(b:Tg.bind fr (.tp [.nm 4,.nm 5]) (mkP t) ρ=.ok ρ'):aCd (.tp [.nm 4,.nm 5]) f ρ=.nx ρ':=by
 have g:(⟨.shr,fr,mkP t⟩:Res).give=.ok ⟨.shr,fr,mkP t⟩:=rfl;simp only[aCd,h,R.at,g,b]
abbrev plb:FS:=(aL (ifS (orT (eF (bT (eE .int (vE 7)))) (orT (bT (eE .bool (vE 7))) (orT (bT (leE (vE 7) (vE 6))) (bT (geE (vE 7) (vE 1))))))
 (bD (cE (.bl false)))
 cI)
 (aR 6 (vE 7)))
abbrev isb:FS:=(aL (ifS (orT (eF (bT (eE .tuple (aX (vE 0) (vE 3))))) (orT (bT (neE (bY (aX (vE 0) (vE 3))) (cE (.int 2)))) (eF (bT (eE .tuple (aX (aX (vE 0) (vE 3)) (cE (.int 0))))))))
 (bD (cE (.bl false)))
 cI)
 (aL (aCd (.tp [.nm 4,.nm 5]) (aX (vE 0) (vE 3)))
 (aL (ifS (orT (bT (neE (bY (vE 4)) (vE 2))) (orT (eF (bT (eE .int (vE 5)))) (orT (bT (eE .bool (vE 5))) (bT (eqE (vE 5) (cE (.int 0)))))))
  (bD (cE (.bl false)))
  cI)
 (aL (aR 6 (sA (cE (.int 1))))
 (aL (cV (lU (vE 4)) (.nm 7) plb)
 (ifS (wM (bT (gtE (vE 3) (cE (.int 0)))) (bT (zH (aX (aX (vE 0) (eU (vE 3) (cE (.int 1)))) (cE (.int 0))) (vE 4))))
  (bD (cE (.bl false)))
  cI))))))
abbrev aAa:FS :=
 (aL (ifS (eF (bT (eE .list (vE 0))))
  (bD (cE (.bl false)))
  cI)
 (aL (cV (eJ (bY (vE 0))) (.nm 3) isb)
 (bD (cE (.bl true)))))
abbrev uE' (S:List Tm)(m:Nat)(z:Int)(x3 x4 x5 x6 x7:Option Res):Mir.Env:=[some ⟨.shr,false,aB S⟩,some ⟨.shr,false,.int m⟩,some ⟨.shr,false,.int z⟩,x3,x4,x5,x6,x7]
theorem aBa (S:List Tm)(m:Nat)(z:Int)(x3 x4 x5:Option Res)(f:Bool):∀ (p:List Int) (a:Int) (f6:Bool) (x7:Option Res),p.Pairwise (·<·)->(∀ x∈p,a<x/\x<(m:Int)) ->
 ∃ y6 y7,fZ (.nm 7) plb f (li p) (uE' S m z x3 x4 x5 (some ⟨.shr,f6,.int a⟩) x7)=.nx (uE' S m z x3 x4 x5 y6 y7)
 | [],a,f6,x7,_,_=>⟨_,_,rfl⟩
 | x :: p,a,f6,x7,up,h=>by
  obtain⟨u1,u2⟩:=Ee.mp up;have hx:=h x Aa;obtain⟨y6,y7,ih⟩:=aBa S m z x3 x4 x5 f p x (f||(D.int x).imm) (some ⟨.shr,f,.int x⟩) u2 fun y hy=>⟨u1 y hy,(h y (Ac _ hy)).2⟩;have bd:Tg.bind f (.nm 7) (.int x) (uE' S m z x3 x4 x5 (some ⟨.shr,f6,.int a⟩) x7)=.ok (uE' S m z x3 x4 x5 (some ⟨.shr,f6,.int a⟩) (some ⟨.shr,f,.int x⟩)):=rfl;have c1:eF (bT (eE .int (vE 7))) (uE' S m z x3 x4 x5 (some ⟨.shr,f6,.int a⟩) (some ⟨.shr,f,.int x⟩))=.ok false:=rfl;have c2:bT (eE .bool (vE 7)) (uE' S m z x3 x4 x5 (some ⟨.shr,f6,.int a⟩) (some ⟨.shr,f,.int x⟩))=.ok false:=rfl
  have c3:bT (leE (vE 7) (vE 6)) (uE' S m z x3 x4 x5 (some ⟨.shr,f6,.int a⟩) (some ⟨.shr,f,.int x⟩))=.ok (decide (x<=a)):=cY (fJ (G:=fun i j=>decide (i<=j)) (k:=.shr) (fr:=f||(D.int x).imm) (i:=x) (k':=.shr) (fr':=f6||(D.int a).imm) (j:=a) rfl rfl);have c4:bT (geE (vE 7) (vE 1)) (uE' S m z x3 x4 x5 (some ⟨.shr,f6,.int a⟩) (some ⟨.shr,f,.int x⟩))=.ok (decide ((m:Int)<=x)):=cY (fJ (G:=fun i j=>decide (j<=i)) (k:=.shr) (fr:=f||(D.int x).imm) (i:=x) (k':=.shr) (fr':=true) (j:=(m:Int)) rfl rfl);rw[decide_eq_false (by omega)]at c3 c4
  have t:=(fV c1 fun _=>(fV c2 fun _=>(fV c3 fun _=>c4).trans rfl).trans rfl).trans (rfl:(if false=true then (R.ok true:R Bool) else .ok false)=.ok false)
  have e:plb (uE' S m z x3 x4 x5 (some ⟨.shr,f6,.int a⟩) (some ⟨.shr,f,.int x⟩))=.nx (uE' S m z x3 x4 x5 (some ⟨.shr,f||(D.int x).imm,.int x⟩) (some ⟨.shr,f,.int x⟩)):=(aQ ((hE t).trans rfl)).trans rfl;exact⟨y6,y7,(fN (r:=li p) bd e).trans ih⟩
theorem aHa {S:List Tm}(td:Told S){j:Nat}(hj:j+1<S.length):HT.cT (S[j]).1 (S[j+1]).1=true:=by
 have h1:=Cj.mp td.so j (j+1) (by omega) hj (by omega)
 have h2:=Cj.mp (Bn.mp (show List.Pairwise (fun a b=>a≠b) (S.map (·.1)) from td.ks)) j (j+1) (by omega) hj (by omega)
 have h3:lx (S[j+1]).1 (S[j]).1=false:=by
  have:(if (S[j+1]).1=(S[j]).1 then decide ((S[j+1]).2<(S[j]).2) else lx (S[j+1]).1 (S[j]).1)=false:=h1
  rw[if_neg (Ne.symm h2)]at this;exact this
 cases q:HT.cT (S[j]).1 (S[j+1]).1 with
 | true=>rfl
 | false=>exact absurd (nU.tri q h3) h2
theorem aIe {m L B:Nat}{S:List Tm}(g:G m L B S){z:Int}(hz:(L:Int)=z){k:Nat}(hk:k<S.length)(x4 x5 x6 x7:Option Res) :
 ∃ y4 y5 y6 y7,isb (uE' S m z (iR k) x4 x5 x6 x7)=.nx (uE' S m z (iR k) y4 y5 y6 y7):=by
 have ml:=g.i.m5;have ln:=g.i.sm.ln;have mt:S[k]∈S:=List.getElem_mem hk;have sk:(S.map mkP)[k]?=some (mkP S[k]):=by rw[As,Ao hk];rfl
 obtain⟨fr,a1⟩:∃ fr,∀ x4 x5 x6 x7,aX (vE 0) (vE 3) (uE' S m z (iR k) x4 x5 x6 x7)=.ok ⟨.shr,fr,mkP S[k]⟩:=⟨_,fun _ _ _ _=>eZ (k:=.shr) (fr:=false||(aB S).imm) (k':=.shr) (fr':=true) (i:=k) (ds:=S.map mkP) rfl rfl sk⟩;have a2:∀ x4 x5 x6 x7,aX (aX (vE 0) (vE 3)) (cE (.int 0)) (uE' S m z (iR k) x4 x5 x6 x7)=.ok ⟨.shr,_,.tup (li (S[k]).1)⟩:=fun x4 x5 x6 x7=>aJq (a1 x4 x5 x6 x7) (k':=.shr) (fr':=true) (i:=0) rfl rfl;have c1:eF (bT (eE .tuple (aX (vE 0) (vE 3)))) (uE' S m z (iR k) x4 x5 x6 x7)=.ok (!true):=oV (cY (aJ4 (a1 x4 x5 x6 x7)));have c2:bT (neE (bY (aX (vE 0) (vE 3))) (cE (.int 2))) (uE' S m z (iR k) x4 x5 x6 x7)=.ok false:=(cY (pF (oU (a1 x4 x5 x6 x7)) (k':=.shr) (fr':=true) (j:=2) rfl)).trans rfl
 have c3:eF (bT (eE .tuple (aX (aX (vE 0) (vE 3)) (cE (.int 0))))) (uE' S m z (iR k) x4 x5 x6 x7)=.ok (!true):=oV (cY (aJ4 (a2 x4 x5 x6 x7)));have t1:=(fV c1 fun _=>(fV c2 fun _=>c3).trans rfl).trans (rfl:(if (!true)=true then (R.ok true:R Bool) else .ok false)=.ok false)
 have e1:ifS (orT (eF (bT (eE .tuple (aX (vE 0) (vE 3))))) (orT (bT (neE (bY (aX (vE 0) (vE 3))) (cE (.int 2)))) (eF (bT (eE .tuple (aX (aX (vE 0) (vE 3)) (cE (.int 0)))))))) (bD (cE (.bl false))) cI (uE' S m z (iR k) x4 x5 x6 x7)=.nx (uE' S m z (iR k) x4 x5 x6 x7):=(hE t1).trans rfl;have e2:aCd (.tp [.nm 4,.nm 5]) (aX (vE 0) (vE 3)) (uE' S m z (iR k) x4 x5 x6 x7)=.nx (uE' S m z (iR k) (pT fr S[k]) (pN fr S[k]) x6 x7):=aEe (a1 x4 x5 x6 x7) rfl
 have l4:bY (vE 4) (uE' S m z (iR k) (pT fr S[k]) (pN fr S[k]) x6 x7)=.ok ⟨.shr,true,.int (L:Nat)⟩:=by
  refine(oU (k:=.shr) (fr:=fr||(D.tup (li (S[k]).1)).imm) (ds:=li (S[k]).1) rfl).trans ?_
  rw[Ab,g.i.sm.sz _ mt];rfl
 have d1:bT (neE (bY (vE 4)) (vE 2)) (uE' S m z (iR k) (pT fr S[k]) (pN fr S[k]) x6 x7)=.ok (!decide ((L:Int)=z)):=cY (pF l4 (k':=.shr) (fr':=true) (j:=z) rfl);have d2:eF (bT (eE .int (vE 5))) (uE' S m z (iR k) (pT fr S[k]) (pN fr S[k]) x6 x7)=.ok false:=rfl;have d3:bT (eE .bool (vE 5)) (uE' S m z (iR k) (pT fr S[k]) (pN fr S[k]) x6 x7)=.ok false:=rfl;have d4:bT (eqE (vE 5) (cE (.int 0))) (uE' S m z (iR k) (pT fr S[k]) (pN fr S[k]) x6 x7)=.ok (decide ((S[k]).2=0)):=cY (vF (k:=.shr) (fr:=fr||(D.int (S[k]).2).imm) (i:=(S[k]).2) rfl (k':=.shr) (fr':=true) (j:=0) rfl);rw[decide_eq_true hz]at d1;rw[decide_eq_false (g.i.td.nz _ mt)]at d4
 have t2:=(fV d1 fun _=>(fV d2 fun _=>(fV d3 fun _=>d4).trans rfl).trans rfl).trans (rfl:(if (!true)=true then (R.ok true:R Bool) else .ok false)=.ok false)
 have e3:ifS (orT (bT (neE (bY (vE 4)) (vE 2))) (orT (eF (bT (eE .int (vE 5)))) (orT (bT (eE .bool (vE 5))) (bT (eqE (vE 5) (cE (.int 0))))))) (bD (cE (.bl false))) cI (uE' S m z (iR k) (pT fr S[k]) (pN fr S[k]) x6 x7)=.nx (uE' S m z (iR k) (pT fr S[k]) (pN fr S[k]) x6 x7):=(hE t2).trans rfl;have e4:aR 6 (sA (cE (.int 1))) (uE' S m z (iR k) (pT fr S[k]) (pN fr S[k]) x6 x7)=.nx (uE' S m z (iR k) (pT fr S[k]) (pN fr S[k]) (some ⟨.shr,true,.int (-1)⟩) x7):=rfl;obtain⟨y6,y7,lp⟩:=aBa S m z (iR k) (pT fr S[k]) (pN fr S[k]) (fr||(D.tup (li (S[k]).1)).imm) (S[k]).1 (-1) true x7 (tG (g.i.td.up _ mt) (g.i.td.nd _ mt)) fun x hx=>by have:=g.i.rg _ mt x hx;omega
 have e5:cV (lU (vE 4)) (.nm 7) plb (uE' S m z (iR k) (pT fr S[k]) (pN fr S[k]) (some ⟨.shr,true,.int (-1)⟩) x7)=.nx (uE' S m z (iR k) (pT fr S[k]) (pN fr S[k]) y6 y7):=(fT (aLg (k:=.shr) (fr:=fr||(D.tup (li (S[k]).1)).imm) (ds:=li (S[k]).1) rfl)).trans lp;have h1:bT (gtE (vE 3) (cE (.int 0))) (uE' S m z (iR k) (pT fr S[k]) (pN fr S[k]) y6 y7)=.ok (decide ((0:Int)<(k:Int))):=cY (fJ (G:=fun i j=>decide (j<i)) (k:=.shr) (fr:=true) (i:=(k:Int)) (k':=.shr) (fr':=true) (j:=0) rfl rfl)
 have t3:wM (bT (gtE (vE 3) (cE (.int 0)))) (bT (zH (aX (aX (vE 0) (eU (vE 3) (cE (.int 1)))) (cE (.int 0))) (vE 4))) (uE' S m z (iR k) (pT fr S[k]) (pN fr S[k]) y6 y7)=.ok false:=by
  by_cases q:k=0
  · rw[decide_eq_false (by omega)]at h1
    exact(aAz (r:=.ok false) h1 fun w=>by cases w).trans rfl
  · obtain⟨j,rfl⟩:∃ j,k=j+1:=⟨k-1,by omega⟩
    rw[decide_eq_true (by omega)]at h1
    have sb:eU (vE 3) (cE (.int 1)) (uE' S m z (iR ((j+1:Nat):Int)) (pT fr S[j+1]) (pN fr S[j+1]) y6 y7)=.ok ⟨.shr,true,.int (j:Nat)⟩:=(bM (C:=C0) (G:=fun i j=>i-j) (k:=.shr) (fr:=true) (i:=((j+1:Nat):Int)) (k':=.shr) (fr':=true) (j:=1) rfl rfl rfl).trans (by rw[show ((j+1:Nat):Int)-1=(j:Int) by omega];rfl)
    have b1:aX (vE 0) (eU (vE 3) (cE (.int 1))) (uE' S m z (iR ((j+1:Nat):Int)) (pT fr S[j+1]) (pN fr S[j+1]) y6 y7)=.ok ⟨.shr,_,mkP (S[j]'(by omega))⟩:=eZ (k:=.shr) (fr:=false||(aB S).imm) (i:=j) (ds:=S.map mkP) rfl sb (by rw[As,Ao (show j<S.length by omega)];rfl)
    have b2:=aJq (g:=cE (.int 0)) b1 (k':=.shr) (fr':=true) (i:=0) rfl (d:=.tup (li (S[j]'(by omega)).1)) rfl
    have b3:=cY (aMu b2 (g:=vE 4) (k':=.shr) (fr':=fr||(D.tup (li (S[j+1]).1)).imm) (q:=(S[j+1]).1) rfl);rw[aHa g.i.td hk]at b3;exact(aAz h1 fun _=>b3).trans rfl
 exact⟨_,_,y6,y7,(aQ e1).trans ((aQ e2).trans ((aQ e3).trans ((aQ e4).trans ((aQ e5).trans ((hE t3).trans rfl)))))⟩
theorem aA2 {m L B:Nat}{S:List Tm}(g:G m L B S){z:Int}(hz:S≠[]->(L:Int)=z):∀ (ks:List Nat) (x3 x4 x5 x6 x7:Option Res),(∀ k∈ks,k<S.length) ->
 ∃ y3 y4 y5 y6 y7,fZ (.nm 3) isb true (ks.map fun (k:Nat)=>.int (k:Int)) (uE' S m z x3 x4 x5 x6 x7)=.nx (uE' S m z y3 y4 y5 y6 y7)
 | [],x3,x4,x5,x6,x7,_=>⟨x3,x4,x5,x6,x7,rfl⟩
 | k :: ks,x3,x4,x5,x6,x7,h=>by
  have hk:=h k Aa;obtain⟨y4,y5,y6,y7,e⟩:=aIe g (hz fun q=>by rw[q]at hk;simp at hk) hk x4 x5 x6 x7
  obtain⟨w3,w4,w5,w6,w7,ih⟩:=aA2 g hz ks (iR k) y4 y5 y6 y7 fun j hj=>h j (Ac _ hj);have bd:Tg.bind true (.nm 3) (.int (k:Int)) (uE' S m z x3 x4 x5 x6 x7)=.ok (uE' S m z (iR k) x4 x5 x6 x7):=rfl;exact⟨w3,w4,w5,w6,w7,(fN (r:=ks.map fun (k:Nat)=>.int (k:Int)) bd e).trans ih⟩
theorem aLj {m L B:Nat}{S:List Tm}(g:G m L B S){z:Int}(hz:S≠[]->(L:Int)=z):cW 3 8 aAa [aB S,.int m,.int z]=.ok (sc (.bl true)):=by
 have ln:=g.i.sm.ln;have e1:ifS (eF (bT (eE .list (vE 0)))) (bD (cE (.bl false))) cI (uE' S m z none none none none none)=.nx (uE' S m z none none none none none):=rfl;obtain⟨y3,y4,y5,y6,y7,l⟩:=aA2 g hz (Bd S.length) none none none none none fun k hk=>Co.mp hk
 have l0:bY (vE 0) (uE' S m z none none none none none)=.ok ⟨.shr,true,.int (S.length:Nat)⟩:=by
  refine(lN (k:=.shr) (fr:=false||(aB S).imm) (ds:=S.map mkP) rfl).trans ?_
  rw[Ab];rfl
 have e2:cV (eJ (bY (vE 0))) (.nm 3) isb (uE' S m z none none none none none)=.nx (uE' S m z y3 y4 y5 y6 y7):=(fT (uU l0 (by omega))).trans l
 have h:aAa (stE 8 [aB S,.int m,.int z])=.rt ⟨.shr,true,.bl true⟩:=(aQ e1).trans ((aQ e2).trans rfl);exact(dX (np:=3) (n:=8) (s:=aAa) (ds:=[aB S,.int m,.int z]) rfl h).trans rfl
end Od
namespace Od
open PySem L2 Mir Srt Sm
abbrev sv:FE:=cA (cC (cE (.int 2)) (vE 3)) (cE (.int 1))
abbrev nbd:FS:=(aL (aR 6 (cA (cC (vE 5) (vE 5)) (cC (cE (.int 3)) (vE 5))))
 (aL (ifS (bT (ltE (vE 5) (bY (vE 0))))
  (aR 6 (aX (vE 0) (vE 5)))
  cI)
 (aL (aR 7 (eU (dF (vE 6) sv) (vE 3)))
 (aL (ifS (bT (eqE (dF (rY (vE 6) sv) (cE (.int 3))) (cE (.int 0))))
  (aR 7 (cE (.int 0)))
  cI)
 (jB 4 (vE 7))))))
abbrev aAi:FS :=
 (aL (aR 4 (bZ []))
 (aL (cV (qO (vE 1) (cA (vE 1) (vE 2))) (.nm 5) nbd)
 (bD (vE 4))))
abbrev mE' (ns:List Int)(st c:Nat)(acc:List Int)(x5 x6 x7:Option Res):Mir.Env:=[S0 ns,some ⟨.shr,false,.int st⟩,some ⟨.shr,false,.int c⟩,some ⟨.shr,false,.int 3⟩,some ⟨.own,true,.lst (li acc)⟩,x5,x6,x7]
theorem aC6 (ns:List Int)(st c:Nat)(acc:List Int)(ha:acc.length<1000){k:Nat}(hk:k<1000)(x6 x7:Option Res):∃ v:Int,v.natAbs<=3/\∃ y6 y7,nbd (mE' ns st c acc (iR k) x6 x7)=.nx (mE' ns st c (acc++[v]) (iR k) y6 y7):=by
 have m1:cC (vE 5) (vE 5) (mE' ns st c acc (iR k) x6 x7)=.ok ⟨.shr,true,.int ((k:Int)*(k:Int))⟩:=bM (k:=.shr) (fr:=true) (i:=(k:Int)) (k':=.shr) (fr':=true) (j:=(k:Int)) rfl rfl (gJ (sm9 (by omega)) (sm9 (by omega)))
 have m2:cC (cE (.int 3)) (vE 5) (mE' ns st c acc (iR k) x6 x7)=.ok ⟨.shr,true,.int (3*(k:Int))⟩:=bM (k:=.shr) (fr:=true) (i:=3) (k':=.shr) (fr':=true) (j:=(k:Int)) rfl rfl (gJ (sm9 (by decide)) (sm9 (by omega)))
 have e1:aR 6 (cA (cC (vE 5) (vE 5)) (cC (cE (.int 3)) (vE 5))) (mE' ns st c acc (iR k) x6 x7)=.nx (mE' ns st c acc (iR k) (iR ((k:Int)*(k:Int)+3*(k:Int))) x7):=set_shr (bM (C:=C0) (G:=fun i j=>i+j) m1 m2 rfl)
 have l0:bY (vE 0) (mE' ns st c acc (iR k) (iR ((k:Int)*(k:Int)+3*(k:Int))) x7)=.ok ⟨.shr,true,.int (ns.length:Nat)⟩:=by
  refine(lN (k:=.shr) (fr:=false||(D.lst (li ns)).imm) (ds:=li ns) rfl).trans ?_
  rw[Ab];rfl
 have c2:bT (ltE (vE 5) (bY (vE 0))) (mE' ns st c acc (iR k) (iR ((k:Int)*(k:Int)+3*(k:Int))) x7)=.ok (decide ((k:Int)<(ns.length:Int))):=cY (fJ (G:=fun i j=>decide (i<j)) (k:=.shr) (fr:=true) (i:=(k:Int)) rfl l0)
 obtain⟨r,f6,e2⟩:∃ (r:Int) (f6:Bool),ifS (bT (ltE (vE 5) (bY (vE 0)))) (aR 6 (aX (vE 0) (vE 5))) cI (mE' ns st c acc (iR k) (iR ((k:Int)*(k:Int)+3*(k:Int))) x7)=.nx (mE' ns st c acc (iR k) (some ⟨.shr,f6,.int r⟩) x7):=by
  by_cases z:(k:Int)<(ns.length:Int)
  · rw[decide_eq_true z]at c2
    have a:aX (vE 0) (vE 5) (mE' ns st c acc (iR k) (iR ((k:Int)*(k:Int)+3*(k:Int))) x7)=.ok ⟨.shr,_,.int (ns.getD k 0)⟩:=eZ (k:=.shr) (fr:=false||(D.lst (li ns)).imm) (k':=.shr) (fr':=true) (i:=k) (ds:=li ns) rfl rfl (uO (by omega))
    exact⟨_,_,(hE c2).trans (set_shr a)⟩
  · rw[decide_eq_false z]at c2
    exact⟨_,_,(hE c2).trans rfl⟩
 have v6:∀ x7,vE 6 (mE' ns st c acc (iR k) (some ⟨.shr,f6,.int r⟩) x7)=.ok ⟨.shr,f6||(D.int r).imm,.int r⟩:=fun _=>rfl
 have s7:∀ x7,sv (mE' ns st c acc (iR k) (some ⟨.shr,f6,.int r⟩) x7)=.ok ⟨.shr,true,.int 7⟩:=fun x7=>by
  have m3:cC (cE (.int 2)) (vE 3) (mE' ns st c acc (iR k) (some ⟨.shr,f6,.int r⟩) x7)=.ok ⟨.shr,true,.int (2*3)⟩:=bM (k:=.shr) (fr:=true) (i:=2) (k':=.shr) (fr':=true) (j:=3) rfl rfl (gJ (sm9 (by decide)) (sm9 (by decide)))
  exact(bM (C:=C0) (G:=fun i j=>i+j) m3 (k':=.shr) (fr':=true) (j:=1) rfl rfl).trans rfl
 have md:dF (vE 6) sv (mE' ns st c acc (iR k) (some ⟨.shr,f6,.int r⟩) x7)=.ok ⟨.shr,true,.int (r%7)⟩:=bM (v6 _) (s7 _) (mD (by decide))
 have e3:aR 7 (eU (dF (vE 6) sv) (vE 3)) (mE' ns st c acc (iR k) (some ⟨.shr,f6,.int r⟩) x7)=.nx (mE' ns st c acc (iR k) (some ⟨.shr,f6,.int r⟩) (iR (r%7-3))):=set_shr (bM (C:=C0) (G:=fun i j=>i-j) md (k':=.shr) (fr':=true) (j:=3) rfl rfl);have fd:rY (vE 6) sv (mE' ns st c acc (iR k) (some ⟨.shr,f6,.int r⟩) (iR (r%7-3)))=.ok ⟨.shr,true,.int (r/7)⟩:=bM (v6 _) (s7 _) (aJ3 (by decide) (by decide))
 have m9:dF (rY (vE 6) sv) (cE (.int 3)) (mE' ns st c acc (iR k) (some ⟨.shr,f6,.int r⟩) (iR (r%7-3)))=.ok ⟨.shr,true,.int (r/7%3)⟩:=bM fd (k':=.shr) (fr':=true) (j:=3) rfl (mD (by decide))
 have c4:=cY (vF m9 (g:=cE (.int 0)) (k':=.shr) (fr':=true) (j:=0) rfl)
 obtain⟨v,hv,e4⟩:∃ v:Int,v.natAbs<=3/\ifS (bT (eqE (dF (rY (vE 6) sv) (cE (.int 3))) (cE (.int 0)))) (aR 7 (cE (.int 0))) cI (mE' ns st c acc (iR k) (some ⟨.shr,f6,.int r⟩) (iR (r%7-3)))=.nx (mE' ns st c acc (iR k) (some ⟨.shr,f6,.int r⟩) (iR v)):=by
  by_cases z:r/7%3=0
  · rw[decide_eq_true z]at c4
    exact⟨0,by decide,(hE c4).trans rfl⟩
  · rw[decide_eq_false z]at c4
    exact⟨r%7-3,by omega,(hE c4).trans rfl⟩
 have e5:jB 4 (vE 7) (mE' ns st c acc (iR k) (some ⟨.shr,f6,.int r⟩) (iR v))=.nx (mE' ns st c (acc++[v]) (iR k) (some ⟨.shr,f6,.int r⟩) (iR v)):=by
  refine(pQ (i:=4) (fr:=true) (ds:=li acc) (k:=.shr) (fr':=true) (d:=.int v) rfl rfl (by decide) (by rw[Ab,sizeLine_eq];omega)).trans ?_
  show RS.nx [_,_,_,_,some (⟨.own,true&&true,.lst (li acc++[.int v])⟩:Res),_,_,_]=RS.nx [_,_,_,_,some (⟨.own,true,.lst (li (acc++[v]))⟩:Res),_,_,_]
  rw[show li (acc++[v])=li acc++[.int v] by unfold li;rw[Bo];rfl]
  rfl
 exact⟨v,hv,_,_,(aQ e1).trans ((aQ e2).trans ((aQ e3).trans ((aQ e4).trans e5)))⟩
theorem sQ (ns:List Int)(st c:Nat):∀ (n k:Nat) (acc:List Int) (x5 x6 x7:Option Res),k+n<1000->acc.length+n<1000 ->
 ∃ (L:List Int) (y5 y6 y7:Option Res),L.length=n/\(∀ v∈L,v.natAbs<=3)/\fZ (.nm 5) nbd true (mT (k:Int) n) (mE' ns st c acc x5 x6 x7)=.nx (mE' ns st c (acc++L) y5 y6 y7)
 | 0,k,acc,x5,x6,x7,_,_=>⟨[],x5,x6,x7,rfl,fun v hv=>(by cases hv),by rw[Ce];rfl⟩
 | n+1,k,acc,x5,x6,x7,h1,h2=>by
  obtain⟨v,hv,y6,y7,e⟩:=aC6 ns st c acc (by omega) (k:=k) (by omega) x6 x7
  obtain⟨L,z5,z6,z7,l1,l2,ih⟩:=sQ ns st c n (k+1) (acc++[v]) (iR k) y6 y7 (by omega) (by rw[An,Ck];omega)
  have bd:Tg.bind true (.nm 5) (.int (k:Int)) (mE' ns st c acc x5 x6 x7)=.ok (mE' ns st c acc (iR k) x6 x7):=rfl;refine⟨v :: L,z5,z6,z7,by rw[Av,l1],fun w hw=>(Ai.mp hw).elim (fun q=>q▸hv) (l2 w),?_⟩
  rw[aCa];refine(fN bd e).trans ?_
  rw[show ((k:Int)+1)=((k+1:Nat):Int) by omega]
  refine ih.trans ?_
  rw[Db];rfl
theorem aMg (ns:List Int){st c:Nat}(h:st+c<500):∃ L:List Int,L.length=c/\(∀ v∈L,v.natAbs<=3)/\cW 4 8 aAi [.lst (li ns),.int st,.int c,.int 3]=.ok ⟨.tmp,true,.lst (li L)⟩:=by
 obtain⟨L,y5,y6,y7,l1,l2,l⟩:=sQ ns st c c st [] none none none (by omega) (by rw[Bp];omega)
 rw[Cq]at l;refine⟨L,l1,l2,?_⟩
 have e1:aR 4 (bZ []) [S0 ns,some ⟨.shr,false,.int st⟩,some ⟨.shr,false,.int c⟩,some ⟨.shr,false,.int 3⟩,none,none,none,none]=.nx (mE' ns st c [] none none none):=rfl;have e2:cV (qO (vE 1) (cA (vE 1) (vE 2))) (.nm 5) nbd (mE' ns st c [] none none none)=.nx (mE' ns st c L y5 y6 y7):=(fT (aIb (lo:=(st:Int)) (m:=c) (x:=⟨.shr,true,.int st⟩) (y:=⟨.shr,true,.int ((st:Int)+(c:Int))⟩) rfl rfl (bM (C:=C0) (G:=fun i j=>i+j) (k:=.shr) (fr:=true) (i:=(st:Int)) (k':=.shr) (fr':=true) (j:=(c:Int)) rfl rfl rfl) rfl (by omega) (by omega))).trans l
 have g:aAi (stE 8 [.lst (li ns),.int st,.int c,.int 3])=.rt ⟨.tmp,true,.lst (li L)⟩:=(aQ e1).trans ((aQ e2).trans (aI3 (f:=vE 4) (fr:=true) rfl));exact(dX (np:=4) (n:=8) (s:=aAi) (ds:=[.lst (li ns),.int st,.int c,.int 3]) rfl g).trans rfl
theorem aMj:∀ m,m<6->∀ z,z<6->(pls m z).Pairwise fun a b=>HT.cT a b=true:=by decide +kernel
def drw (m z:Nat)(L:List Int):List Tm:=((pls m z).zip L).filter fun t=>t.2 != 0
theorem aOz {m z:Nat}(m1:1<=m)(m5:m<=5)(hz:z<=m){L:List Int}(hl:L.length=(pls m z).length)(nb:∀ v∈L,v.natAbs<=3):G m z 2 (drw m z L):=by
 have mem:∀ t∈drw m z L,t.1∈pls m z/\t.2∈L/\t.2≠0:=fun t ht=>by
  obtain⟨h1,h2⟩:=Cr.mp ht;have:=Et (a:=t.1) (b:=t.2) h1
  exact⟨this.1,this.2,by simpa using h2⟩
 have few:=aBx m m5 z (by omega)
 have ln:(drw m z L).length<=10:=Ak (List.length_filter_le _ _) (by rw[List.length_zip];omega)
 have kp:(drw m z L).map (·.1)=(drw m z L).map (·.1):=rfl
 have srt1:((pls m z).zip L).Pairwise fun a b=>HT.cT a.1 b.1=true:=by
  have h:=aMj m (by omega) z (by omega)
  have e:((pls m z).zip L).map (·.1)=pls m z:=List.map_fst_zip (by omega)
  rw[←e]at h;exact Bn.mp h
 have srt2:(drw m z L).Pairwise fun a b=>HT.cT a.1 b.1=true:=Fw Dx srt1;have pl:∀ t∈drw m z L,Pl m z t.1:=fun t ht=>aM9 _ (mem t ht).1
 have irr:∀ p:List Int,HT.cT p p=false:=fun p=>by
  cases q:HT.cT p p with
  | false=>rfl
  | true =>
   have h:HT.cT p p=false:=nU.asy (show lx p p=true from q)
   rw[q]at h;cases h
 have nbd:Nb 2 (drw m z L):=fun t ht=>Ak (nb _ (mem t ht).2.1) (by decide)
 have td:Told (drw m z L):=by
  refine⟨fun t ht=>aKf (pl t ht).up,fun t ht=>(pl t ht).up.imp fun {a b} h e=>by omega,?_,fun t ht=>(mem t ht).2.2,?_⟩
  · show List.Pairwise (fun a b=>a≠b) _
    rw[Bn];exact srt2.imp fun {a b} h e=>by rw[e,irr]at h;cases h
  · refine srt2.imp fun {a b} h=>?_
    show (if b.1=a.1 then decide (b.2<a.2) else lx b.1 a.1)=false
    rw[if_neg (fun e=>by rw[e,irr]at h;cases h)]
    exact nU.asy h
 refine⟨⟨⟨by omega,by omega,fun t ht=>(pl t ht).ln,fun t ht x hx=>by have:=(pl t ht).rg x hx;omega,td.nd,fun t ht=>Ak (nbd t ht) (Az (by decide) (by decide))⟩,td,fun t ht=>Ak (nbd t ht) (Az (by decide) (by decide)),fun t ht=>(pl t ht).rg,m1,m5⟩,nbd⟩
end Od
namespace N66
open PySem L2 Mir Srt Sm Od
theorem aF0 (p:List Int)(hp:p.length<64):dZ [.tup (li p)]=.ok (sc (.int (trn p))):=aNf p (by omega)
theorem pR:aBv eI:=fun ts F=>aE0 (φ:=dZ) aF0 F
theorem cn {m:Int}(h:(decide (m<1)||decide (5<m))=true):cK [.int m]=.exc ⟨.BadCount,[]⟩:=aEf h
theorem cy {m:Int}(h:(decide (m<1)||decide (5<m))=false):cK [.int m]=.ok (sc .non):=aEk h
section
variable {m L K B C:Nat}{a b:List Tm}
theorem aRb (ha:G m L B a)(hb:G m K C b):eA [aB a,aB b]=.ok ⟨.tmp,true,aB (aW (bO a b))⟩:=aNl pR ha.i.sm hb.i.sm
theorem aOn (ha:G m L B a){k:Int}(hk:k.natAbs<=1):kX [aB a,.int k]=.ok ⟨.tmp,true,aB (aW (gG a k))⟩:=aIi pR ha.i.sm (Ak hk (by decide))
theorem xI (ha:G m L B a):aG [.int m,aB a]=.ok ⟨.tmp,true,aB (aW (bL m a))⟩:=by
 rw[ha.i.over];exact aKw (φc:=cK) (φl:=iX) (φt:=dZ) (φs:=eI) cy (fun p=>aNi ha.i.m5 p) aF0 pR ha.i
theorem aKj {n:Int}(h:(decide (n<1)||decide (5<n))=true)(A:D):aG [.int n,A]=.exc ⟨.BadCount,[]⟩:=aHv (φc:=cK) (cn h) A
theorem aKo:wO bG:=fun ha hb h5 sm=>aG2 ha hb h5 sm
theorem aGo (g:G m L B a):bA [.int m,aB a]=.ok ⟨.tmp,true,aB (aW (bL m a))⟩:=aJv (φp:=bG) aKo g
theorem aPo (g:G m L B a)(hB:B+5<=240):cO [.int m,aB a]=.ok ⟨.tmp,true,aB (lK m L a)⟩:=aG9 (φo:=aG) (φt:=kX) g (xI g) (aOn (g.over hB) (qG _))
theorem aNw (g:G m L B a){z:Int}(hz:a≠[]->(L:Int)=z):cX [aB a,.int m,.int z]=.ok (sc (.bl true)):=aLj g hz
end
def crs (m z y:Nat)(a b:List Tm):List Tm:=aW (bO (aW (bL m a)) (aW (bL m b)))
theorem aKk {m z y:Nat}{a b:List Tm}(ha:G m z 2 a)(hb:G m y 2 b):G m (m-z+(m-y)) 23 (crs m z y a b):=by
 have:=ha.i.m5
 exact(ha.over (by decide)).prod (hb.over (by decide)) (by omega) (by decide)
theorem aOg {m z y:Nat}{a b:List Tm}(ha:G m z 2 a)(hb:G m y 2 b):bX [.int m,aB a,aB b]=.ok ⟨.tmp,true,aB (lK m (m-z+(m-y)) (crs m z y a b))⟩:=by
 have o1:aC aG [vE 0,vE 1] [some ⟨.shr,false,.int m⟩,some ⟨.shr,false,aB a⟩,some ⟨.shr,false,aB b⟩]=.ok ⟨.tmp,true,aB (aW (bL m a))⟩:=bR (rs:=[⟨.shr,true,.int m⟩,⟨.shr,false||(aB a).imm,aB a⟩]) (aD rfl (aD rfl bB)) (xI ha);have o2:aC aG [vE 0,vE 2] [some ⟨.shr,false,.int m⟩,some ⟨.shr,false,aB a⟩,some ⟨.shr,false,aB b⟩]=.ok ⟨.tmp,true,aB (aW (bL m b))⟩:=bR (rs:=[⟨.shr,true,.int m⟩,⟨.shr,false||(aB b).imm,aB b⟩]) (aD rfl (aD rfl bB)) (xI hb);have p:=bR (φ:=eA) (aD o1 (aD o2 bB)) (aRb (ha.over (by decide)) (hb.over (by decide)))
 have u:=bR (φ:=cO) (fs:=[vE 0,aC eA [aC aG [vE 0,vE 1],aC aG [vE 0,vE 2]]]) (aD (r:=⟨.shr,true,.int m⟩) rfl (aD p bB)) (aPo (aKk ha hb) (by decide))
 exact(dX (np:=3) (n:=3) (s:=kR) (ds:=[.int m,aB a,aB b]) rfl (fX u)).trans rfl
theorem aGd {f:FE}{fs:FEs}{ρ:Mir.Env}{x:Xc}(h:f ρ=.exc x):evs (f :: fs) ρ=.exc x:=by simp only[evs,h,R.exc_bind]
theorem aDu {f g:FE}{fs:FEs}{ρ:Mir.Env}{r:Res}{x:Xc}(h1:f ρ=.ok r)(h:g ρ=.exc x):evs (f :: g :: fs) ρ=.exc x:=by simp only[evs,h1,h,R.ok_bind,R.exc_bind]
theorem tW {φ:Φ}{fs:FEs}{ρ:Mir.Env}{x:Xc}(h:evs fs ρ=.exc x):aC φ fs ρ=.exc x:=by simp only[aC,h,R.exc_bind]
theorem aHh {f:FE}{ρ:Mir.Env}{x:Xc}(h:f ρ=.exc x):bD f ρ=.exc x ρ:=by simp only[bD,h,R.at]
theorem aNy {n:Int}(h:(decide (n<1)||decide (5<n))=true)(A:D):bX [.int n,A,A]=.exc ⟨.BadCount,[]⟩:=by
 have o1:aC aG [vE 0,vE 1] [some ⟨.shr,false,.int n⟩,some ⟨.shr,false,A⟩,some ⟨.shr,false,A⟩]=.exc ⟨.BadCount,[]⟩:=Sm.mU (rs:=[⟨.shr,true,.int n⟩,⟨.shr,false||A.imm,A⟩]) (aD rfl (aD rfl bB)) (aKj h A);have o2:aC eA [aC aG [vE 0,vE 1],aC aG [vE 0,vE 2]] [some ⟨.shr,false,.int n⟩,some ⟨.shr,false,A⟩,some ⟨.shr,false,A⟩]=.exc ⟨.BadCount,[]⟩:=tW (aGd o1);have v0:vE 0 [some ⟨.shr,false,.int n⟩,some ⟨.shr,false,A⟩,some ⟨.shr,false,A⟩]=.ok ⟨.shr,true,.int n⟩:=rfl;have o3:aC cO [vE 0,aC eA [aC aG [vE 0,vE 1],aC aG [vE 0,vE 2]]] [some ⟨.shr,false,.int n⟩,some ⟨.shr,false,A⟩,some ⟨.shr,false,A⟩]=.exc ⟨.BadCount,[]⟩:=tW (aDu v0 o2)
 have e:kR (stE 3 [.int n,A,A])=.exc ⟨.BadCount,[]⟩ [some ⟨.shr,false,.int n⟩,some ⟨.shr,false,A⟩,some ⟨.shr,false,A⟩]:=aHh o3;exact uW (np:=3) (n:=3) (s:=kR) (ds:=[.int n,A,A]) rfl e
theorem aNz:dI [.exc .BadCount []]=.ok ⟨.tmp,true,.lst [.str "count"]⟩:=by kernel_rfl
theorem aPk {n:Int}(h:(decide (n<1)||decide (5<n))=true)(w:Int):bU [.int w,.int n,.lst []]=.ok ⟨.tmp,true,.lst [.str "count"]⟩:=by
 have c:bT (eqE (vE 0) (cE (.int 0))) [some ⟨.shr,false,.int w⟩,some ⟨.shr,false,.int n⟩,some ⟨.shr,false,.lst []⟩,some (sc .non),none]=.ok (decide (w=0)):=cY (vF (k:=.shr) (fr:=true) (i:=w) rfl (k':=.shr) (fr':=true) (j:=0) rfl)
 have b:ifS (bT (eqE (vE 0) (cE (.int 0)))) (iD (aC bX [vE 1,vE 2,vE 2])) (iD (aC aG [vE 1,vE 2])) [some ⟨.shr,false,.int w⟩,some ⟨.shr,false,.int n⟩,some ⟨.shr,false,.lst []⟩,some (sc .non),none]=.exc ⟨.BadCount,[]⟩ [some ⟨.shr,false,.int w⟩,some ⟨.shr,false,.int n⟩,some ⟨.shr,false,.lst []⟩,some (sc .non),none]:=by
  by_cases z:w=0
  · rw[decide_eq_true z]at c
    exact(hE c).trans (qK (Sm.mU (rs:=[⟨.shr,true,.int n⟩,⟨.shr,false||(D.lst []).imm,.lst []⟩,⟨.shr,false||(D.lst []).imm,.lst []⟩]) (aD rfl (aD rfl (aD rfl bB))) (aNy h _)))
  · rw[decide_eq_false z]at c
    exact(hE c).trans (qK (Sm.mU (rs:=[⟨.shr,true,.int n⟩,⟨.shr,false||(D.lst []).imm,.lst []⟩]) (aD rfl (aD rfl bB)) (aKj h _)))
 have t:aGp 3 4 (ifS (bT (eqE (vE 0) (cE (.int 0)))) (iD (aC bX [vE 1,vE 2,vE 2])) (iD (aC aG [vE 1,vE 2]))) [some ⟨.shr,false,.int w⟩,some ⟨.shr,false,.int n⟩,some ⟨.shr,false,.lst []⟩,some (sc .non),none]=.nx [some ⟨.shr,false,.int w⟩,some ⟨.shr,false,.int n⟩,some ⟨.shr,false,.lst []⟩,some (sc (.exc .BadCount [])),none]:=by simp only[aGp,b];rfl
 have e1:aR 3 (cE .non) [some ⟨.shr,false,.int w⟩,some ⟨.shr,false,.int n⟩,some ⟨.shr,false,.lst []⟩,none,none]=.nx [some ⟨.shr,false,.int w⟩,some ⟨.shr,false,.int n⟩,some ⟨.shr,false,.lst []⟩,some (sc .non),none]:=rfl;have e3:bD (aC dI [vE 3]) [some ⟨.shr,false,.int w⟩,some ⟨.shr,false,.int n⟩,some ⟨.shr,false,.lst []⟩,some (sc (.exc .BadCount [])),none]=.rt ⟨.tmp,true,.lst [.str "count"]⟩:=fX (bR (rs:=[⟨.shr,true,.exc .BadCount []⟩]) (aD rfl bB) aNz);exact(dX (np:=3) (n:=5) (s:=mR) (ds:=[.int w,.int n,.lst []]) rfl ((aQ e1).trans ((aQ t).trans e3))).trans rfl
theorem aOu {m z:Nat}(m1:1<=m)(m5:m<=5)(hz:z<=m):∃ k,(k=.shr\/k=.tmp)/\cG [.int m,.int z]=.ok ⟨k,true,.lst (tps (pls m z))⟩:=by
 by_cases q:z=0
 · subst q
   refine⟨.tmp,.inr rfl,?_⟩
   rcases (by omega:m=1\/m=2\/m=3\/m=4\/m=5) with rfl | rfl | rfl | rfl | rfl
   all_goals kernel_rfl
 · refine⟨.shr,.inl rfl,?_⟩
   rcases (by omega:m=1\/m=2\/m=3\/m=4\/m=5) with rfl | rfl | rfl | rfl | rfl
   all_goals rcases (by omega:z=0\/z=1\/z=2\/z=3\/z=4\/z=5) with rfl | rfl | rfl | rfl | rfl | rfl
   all_goals first
    | omega
    | kernel_rfl
end N66
namespace N66
open PySem L2 Mir Srt Sm Od
abbrev G1 (ns:List Int)(x1 x2 x3 x4 x5 x6 x7 x8 x9 x10 x11 x12:Option Res):Mir.Env:=[S0 ns,x1,x2,x3,x4,x5,x6,x7,x8,x9,x10,x11,x12]
abbrev sR (f:Bool)(l:List (List Tm)):Option Res:=some ⟨.own,f,.lst (l.map aB)⟩
theorem pJ (ns:List Int)(k:Nat)(r:List (Option Res)):aC aN [vE 0,cE (.int k)] (S0 ns :: r)=.ok ⟨.shr,true,.int (dH ns k)⟩:=aIo (φ:=aN) (fun ns k=>aFg ns k) ns k r
abbrev lbd:FS:=(aL (aR 4 (aC cG [vE 1,dF (aC aN [vE 0,cA (cE (.int 1)) (vE 3)]) (cA (vE 1) (cE (.int 1)))]))
 (aL (aR 5 (aC cP [vE 0,cA (cE (.int 3)) (cC (cE (.int 20)) (vE 3)),bY (vE 4),cE (.int 3)]))
 (jB 2 (bW (zF (vE 4) (vE 5)) 2 [] (.tp [.nm 0,.nm 1]) (Mir.bIf (bT (neE (vE 1) (cE (.int 0)))) (dO [vE 0,vE 1]))))))
abbrev lE0 (ns:List Int)(m:Nat)(l:List (List Tm))(x3 x4 x5:Option Res):Mir.Env:=G1 ns (iR m) (sR true l) x3 x4 x5 none none none none none none none
theorem aFb (ns:List Int){m:Nat}(m1:1<=m)(m5:m<=5){k:Nat}(hk:k<2){z:Nat}(hz:z<=m)(ez:dH ns (1+k)%((m:Int)+1)=(z:Int))(l:List (List Tm))(ll:l.length<5)(x4 x5:Option Res) :
 ∃ a,G m z 2 a/\∃ y4 y5,lbd (lE0 ns m l (iR k) x4 x5)=.nx (lE0 ns m (l++[a]) (iR k) y4 y5):=by
 have ad:cA (cE (.int 1)) (vE 3) (lE0 ns m l (iR k) x4 x5)=.ok ⟨.shr,true,.int ((1+k:Nat):Int)⟩:=aGf (a:=1) (k:=.shr) (fr:=true) (k':=.shr) (fr':=true) rfl rfl;have ce:aC aN [vE 0,cA (cE (.int 1)) (vE 3)] (lE0 ns m l (iR k) x4 x5)=.ok ⟨.shr,true,.int (dH ns (1+k))⟩:=jE (rs:=[⟨.shr,false,.lst (li ns)⟩,⟨.shr,true,.int ((1+k:Nat):Int)⟩]) (aD rfl (aD ad bB)) (aFg ns (1+k));have m1':cA (vE 1) (cE (.int 1)) (lE0 ns m l (iR k) x4 x5)=.ok ⟨.shr,true,.int ((m:Int)+1)⟩:=bM (k:=.shr) (fr:=true) (i:=(m:Int)) (k':=.shr) (fr':=true) (j:=1) rfl rfl rfl
 have md:dF (aC aN [vE 0,cA (cE (.int 1)) (vE 3)]) (cA (vE 1) (cE (.int 1))) (lE0 ns m l (iR k) x4 x5)=.ok ⟨.shr,true,.int (z:Nat)⟩:=by
  rw[←ez];exact bM ce m1' (mD (by omega))
 obtain⟨kk,hkk,ec⟩:=aOu m1 m5 hz;have c:=uT (φ:=cG) (fs:=[vE 1,dF (aC aN [vE 0,cA (cE (.int 1)) (vE 3)]) (cA (vE 1) (cE (.int 1)))]) (rs:=[⟨.shr,true,.int m⟩,⟨.shr,true,.int z⟩]) (aD rfl (aD md bB)) ec
 obtain⟨k2,e1⟩:∃ k2,aR 4 (aC cG [vE 1,dF (aC aN [vE 0,cA (cE (.int 1)) (vE 3)]) (cA (vE 1) (cE (.int 1)))]) (lE0 ns m l (iR k) x4 x5)=.nx (lE0 ns m l (iR k) (some ⟨k2,true,.lst (tps (pls m z))⟩) x5)/\(k2=.shr\/k2=.own):=by
  rcases hkk with q | q<;>subst q
  · exact⟨.shr,set_shr c,.inl rfl⟩
  · exact⟨.own,iG c,.inr rfl⟩
 obtain⟨e1,hk2⟩:=e1;have few:=aBx m m5 z (by omega)
 have v4:∀ x5,vE 4 (lE0 ns m l (iR k) (some ⟨k2,true,.lst (tps (pls m z))⟩) x5)=.ok ⟨k2,true,.lst (tps (pls m z))⟩:=fun x5=>by
  rcases hk2 with q | q<;>subst q<;>rfl
 have l4:bY (vE 4) (lE0 ns m l (iR k) (some ⟨k2,true,.lst (tps (pls m z))⟩) x5)=.ok ⟨.shr,true,.int ((pls m z).length:Nat)⟩:=by
  refine(lN (v4 _)).trans ?_
  rw[show (tps (pls m z)).length=(pls m z).length from Ab _];rfl
 have m2:cC (cE (.int 20)) (vE 3) (lE0 ns m l (iR k) (some ⟨k2,true,.lst (tps (pls m z))⟩) x5)=.ok ⟨.shr,true,.int ((20*k:Nat):Int)⟩:=(bM (C:=CM) (G:=fun i j=>i*j) (k:=.shr) (fr:=true) (i:=20) (k':=.shr) (fr':=true) (j:=(k:Int)) rfl rfl (gJ (sm9 (by decide)) (sm9 (by omega)))).trans (by rw[Int.natCast_mul];rfl)
 obtain⟨L,L1,L2,L3⟩:=aMg ns (st:=3+20*k) (c:=(pls m z).length) (by omega)
 have e2:aR 5 (aC cP [vE 0,cA (cE (.int 3)) (cC (cE (.int 20)) (vE 3)),bY (vE 4),cE (.int 3)]) (lE0 ns m l (iR k) (some ⟨k2,true,.lst (tps (pls m z))⟩) x5)=.nx (lE0 ns m l (iR k) (some ⟨k2,true,.lst (tps (pls m z))⟩) (some ⟨.own,true,.lst (li L)⟩)) :=
  iG (bR (φ:=cP) (rs:=[⟨.shr,false,.lst (li ns)⟩,⟨.shr,true,.int ((3+20*k:Nat):Int)⟩,⟨.shr,true,.int ((pls m z).length:Nat)⟩,⟨.shr,true,.int 3⟩]) (aD rfl (aD (aGf (a:=3) (k:=.shr) (fr:=true) rfl m2) (aD l4 (aD rfl bB)))) L3)
 have zs:aB3 (tps (pls m z)) (li L)=((pls m z).zip L).map mkP:=by
  unfold aB3 tps li;rw[List.zipWith_map,List.zip,List.map_zipWith];rfl
 obtain⟨st,it⟩:∃ st,zF (vE 4) (vE 5) (lE0 ns m l (iR k) (some ⟨k2,true,.lst (tps (pls m z))⟩) (some ⟨.own,true,.lst (li L)⟩))=.ok ⟨st,true,((pls m z).zip L).map mkP⟩:=by
  have v5:vE 5 (lE0 ns m l (iR k) (some ⟨k2,true,.lst (tps (pls m z))⟩) (some ⟨.own,true,.lst (li L)⟩))=.ok ⟨.own,true,.lst (li L)⟩:=rfl;refine⟨(k2 != .own&&Kd.own != .own),?_⟩
  simp only[zF,v4,v5,R.ok_bind,asL,zs];rfl
 have cp:bW (zF (vE 4) (vE 5)) 2 [] (.tp [.nm 0,.nm 1]) (Mir.bIf (bT (neE (vE 1) (cE (.int 0)))) (dO [vE 0,vE 1])) (lE0 ns m l (iR k) (some ⟨k2,true,.lst (tps (pls m z))⟩) (some ⟨.own,true,.lst (li L)⟩))=.ok ⟨.tmp,true,aB (drw m z L)⟩:=by
  refine kJ (inj:=mkP) (out:=mkP) (c:=fun t=>t.2 != 0) (xs:=(pls m z).zip L) it (fun t _=>⟨[pT true t,pN true t],.shr,rfl,?_,by decide⟩) (by rw[List.length_zip,sizeLine_eq];omega)
  exact nJ (r:=⟨.shr,true,mkP t⟩) (c:=t.2 != 0) (cY (pF (k:=.shr) (fr:=true) (i:=t.2) rfl (k':=.shr) (fr':=true) (j:=0) rfl)) fun _=>iB (k:=.shr) (fr:=true) (d:=.tup (li t.1)) rfl (k':=.shr) (fr':=true) (d':=.int t.2) rfl (by decide) (by decide)
 refine⟨drw m z L,aOz m1 m5 hz L1 L2,some ⟨k2,true,.lst (tps (pls m z))⟩,some ⟨.own,true,.lst (li L)⟩,(aQ e1).trans ((aQ e2).trans ((pQ (i:=2) (fr:=true) (ds:=l.map aB) rfl cp (by decide) (by rw[Ab,sizeLine_eq];omega)).trans ?_))⟩
 show RS.nx [_,_,some (⟨.own,true&&true,.lst (l.map aB++[aB (drw m z L)])⟩:Res),_,_,_,_,_,_,_,_,_,_]=RS.nx [_,_,some (⟨.own,true,.lst ((l++[drw m z L]).map aB)⟩:Res),_,_,_,_,_,_,_,_,_,_]
 rw[Bo];rfl
theorem aQz {x:Int}(h0:0<=x)(h:x<2147483647):x.natAbs<2^1000:=Al (show x.natAbs<2^31 by omega) (Az (by decide) (by decide))
theorem aMd (a b:List Tm):(D.lst ([a,b].map aB)).pl 7=true:=by
 show (decide (0<7)&&((aB a).pl 6&&((aB b).pl 6&&true)))=true
 rw[qV a,qV b];rfl
theorem aH9 (ns:List Int){m z y:Nat}{a b:List Tm}(ha:G m z 2 a)(hb:G m y 2 b)(zm:z<=m)(ym:y<=m)(ez:dH ns 1%((m:Int)+1)=(z:Int))(ey:dH ns 2%((m:Int)+1)=(y:Int))(x3 x4 x5:Option Res) :
 (aL (aR 6 (bW (dC (vE 2)) 1 [] (.nm 0) (bE (jH (vE 0)))))
 (aL (aR 7 (aC bX [vE 1,aX (vE 6) (cE (.int 0)),aX (vE 6) (cE (.int 1))]))
 (aL (ifS (orT (bT (neE (vE 6) (vE 2))) (eF (bT (eE .list (vE 7)))))
  (bD (cE (.bl false)))
  cI)
 (aL (aR 8 (eU (cA (dF (aC aN [vE 0,cE (.int 1)]) (cA (vE 1) (cE (.int 1)))) (dF (aC aN [vE 0,cE (.int 2)]) (cA (vE 1) (cE (.int 1))))) (vE 1)))
 (aL (ifS (eF (bT (aC cX [vE 7,vE 1,vE 8])))
  (bD (cE (.bl false)))
  cI)
 (aL (aR 9 (aC bG [aC bA [vE 1,aX (vE 2) (cE (.int 0))],aC bA [vE 1,aX (vE 2) (cE (.int 1))]]))
 (aL (ifS (orT (bT (neE (aC bA [vE 1,vE 7]) (vE 9))) (bT (neE (aC aG [vE 1,vE 7]) (vE 9))))
  (bD (cE (.bl false)))
  cI)
 (aL (aR 10 (jH (vE 7)))
 (aL (jB 7 (cE (.int 0)))
 (aL (aR 11 (cC (aC aN [vE 0,cE (.int 1)]) (aF1 (cE (.int 10)) (cE (.int 48)))))
 (aL (aR 12 (aX (bZ [cE (.int 0),cE (.int 6),eU (sA (cE (.int 1))) (vE 11),cA (cE (.int 6)) (vE 11)]) (dF (rY (aC aN [vE 0,cE (.int 0)]) (cE (.int 5))) (cE (.int 4)))))
 (aL (ifS (orT (bT (neE (aC bU [cE (.int 0),vE 12,bZ []]) (bZ [cE (.str "count")]))) (bT (neE (aC bU [cE (.int 1),vE 12,bZ []]) (bZ [cE (.str "count")]))))
  (bD (cE (.bl false)))
  cI)
 (bD (xJ (eqE (aC bX [vE 1,aX (vE 6) (cE (.int 0)),aX (vE 6) (cE (.int 1))]) (vE 10)) (eqE (aC aG [vE 1,aX (vE 6) (cE (.int 0))]) (aC bA [vE 1,aX (vE 2) (cE (.int 0))])))))))))))))))) (G1 ns (iR m) (sR true [a,b]) x3 x4 x5 none none none none none none none)=.rt ⟨.shr,true,.bl true⟩:=by
 have m1:=ha.i.m1;have m5:=ha.i.m5;have c0:=qF ns 0;have c1:=qF ns 1;have gP:=aKk ha hb;have kc:=aOg ha hb;have ku:=zT gP (jX _).same;have gW:G m (m-(m-z+(m-y))) 33 (lK m (m-z+(m-y)) (crs m z y a b)):=((gP.over (by decide)).tim (qG _) (by decide)).le (by decide)
 have hs:lK m (m-z+(m-y)) (crs m z y a b)≠[]->((m-(m-z+(m-y)):Nat):Int)=(z:Int)+(y:Int)-(m:Int):=fun q=>by
  have hp:crs m z y a b≠[]:=fun e=>q (by
   unfold lK
   rw[e,show bL m []=[] from rfl,iM,show gG [] _=[] from rfl,iM])
  have:=gP.ne_len hp
  omega
 have ki:=aNw gW hs;have kd:=aKo (ha.over (by decide)).i.sm (hb.over (by decide)).i.sm (by omega) (by have:=gP.i.sm.ln;exact Cf this (by decide))
 have ko:=aGo gW;have kt:=xI gW;have ka:=aGo ha;have kb:=aGo hb;have kv:=xI ha;rw[ku]at ko kt;have kd':bG [aB (aW (bL m a)),aB (aW (bL m b))]=.ok ⟨.tmp,true,aB (crs m z y a b)⟩:=kd;have lW:=gW.i.sm.ln;generalize lK m (m-z+(m-y)) (crs m z y a b)=W at *
 generalize crs m z y a b=P at *
 have i0:∀ x7 x8 x9 x10 x11 x12,aX (vE 6) (cE (.int 0)) (G1 ns (iR m) (sR true [a,b]) x3 x4 x5 (sR true [a,b]) x7 x8 x9 x10 x11 x12)=.ok ⟨.shr,true,aB a⟩:=fun _ _ _ _ _ _=>eZ (k:=.own) (fr:=true) (k':=.shr) (fr':=true) (i:=0) (ds:=[a,b].map aB) rfl rfl rfl;have i1:∀ x7 x8 x9 x10 x11 x12,aX (vE 6) (cE (.int 1)) (G1 ns (iR m) (sR true [a,b]) x3 x4 x5 (sR true [a,b]) x7 x8 x9 x10 x11 x12)=.ok ⟨.shr,true,aB b⟩:=fun _ _ _ _ _ _=>eZ (k:=.own) (fr:=true) (k':=.shr) (fr':=true) (i:=1) (ds:=[a,b].map aB) rfl rfl rfl;have s0:∀ x6 x7 x8 x9 x10 x11 x12,aX (vE 2) (cE (.int 0)) (G1 ns (iR m) (sR true [a,b]) x3 x4 x5 x6 x7 x8 x9 x10 x11 x12)=.ok ⟨.shr,true,aB a⟩:=fun _ _ _ _ _ _ _=>eZ (k:=.own) (fr:=true) (k':=.shr) (fr':=true) (i:=0) (ds:=[a,b].map aB) rfl rfl rfl
 have s1:∀ x6 x7 x8 x9 x10 x11 x12,aX (vE 2) (cE (.int 1)) (G1 ns (iR m) (sR true [a,b]) x3 x4 x5 x6 x7 x8 x9 x10 x11 x12)=.ok ⟨.shr,true,aB b⟩:=fun _ _ _ _ _ _ _=>eZ (k:=.own) (fr:=true) (k':=.shr) (fr':=true) (i:=1) (ds:=[a,b].map aB) rfl rfl rfl;have e6:aR 6 (bW (dC (vE 2)) 1 [] (.nm 0) (bE (jH (vE 0)))) (G1 ns (iR m) (sR true [a,b]) x3 x4 x5 none none none none none none none)=.nx (G1 ns (iR m) (sR true [a,b]) x3 x4 x5 (sR true [a,b]) none none none none none none):=iG (wN (inj:=aB) (out:=aB) (xs:=[a,b]) (lG (k:=.own) (fr:=true) (ds:=[a,b].map aB) rfl) (fun r _=>⟨[some ⟨.shr,true,aB r⟩],.tmp,rfl,rfl,by decide⟩) (by show 2<=sizeLine;decide))
 have cr:∀ x7 x8 x9 x10 x11 x12,aC bX [vE 1,aX (vE 6) (cE (.int 0)),aX (vE 6) (cE (.int 1))] (G1 ns (iR m) (sR true [a,b]) x3 x4 x5 (sR true [a,b]) x7 x8 x9 x10 x11 x12)=.ok ⟨.tmp,true,aB W⟩:=fun _ _ _ _ _ _=>bR (rs:=[⟨.shr,true,.int m⟩,⟨.shr,true,aB a⟩,⟨.shr,true,aB b⟩]) (aD rfl (aD (i0 _ _ _ _ _ _) (aD (i1 _ _ _ _ _ _) bB))) kc;have e7:aR 7 (aC bX [vE 1,aX (vE 6) (cE (.int 0)),aX (vE 6) (cE (.int 1))]) (G1 ns (iR m) (sR true [a,b]) x3 x4 x5 (sR true [a,b]) none none none none none none)=.nx (G1 ns (iR m) (sR true [a,b]) x3 x4 x5 (sR true [a,b]) (oR W) none none none none none):=iG (cr _ _ _ _ _ _)
 have q2:=nC 7 (aMd a b) (by decide)
 have e8:ifS (orT (bT (neE (vE 6) (vE 2))) (eF (bT (eE .list (vE 7))))) (bD (cE (.bl false))) cI (G1 ns (iR m) (sR true [a,b]) x3 x4 x5 (sR true [a,b]) (oR W) none none none none none)=.nx (G1 ns (iR m) (sR true [a,b]) x3 x4 x5 (sR true [a,b]) (oR W) none none none none none):=by
  have k1:bT (neE (vE 6) (vE 2)) (G1 ns (iR m) (sR true [a,b]) x3 x4 x5 (sR true [a,b]) (oR W) none none none none none)=.ok (!true):=cY (xA (r:=⟨.own,true,.lst ([a,b].map aB)⟩) (r':=⟨.own,true,.lst ([a,b].map aB)⟩) rfl rfl q2);have k2:eF (bT (eE .list (vE 7))) (G1 ns (iR m) (sR true [a,b]) x3 x4 x5 (sR true [a,b]) (oR W) none none none none none)=.ok false:=rfl;exact(hE ((fV k1 fun _=>k2).trans rfl)).trans rfl
 have mp:∀ x8,cA (vE 1) (cE (.int 1)) (G1 ns (iR m) (sR true [a,b]) x3 x4 x5 (sR true [a,b]) (oR W) x8 none none none none)=.ok ⟨.shr,true,.int ((m:Int)+1)⟩:=fun _=>bM (k:=.shr) (fr:=true) (i:=(m:Int)) (k':=.shr) (fr':=true) (j:=1) rfl rfl rfl
 have r1:dF (aC aN [vE 0,cE (.int 1)]) (cA (vE 1) (cE (.int 1))) (G1 ns (iR m) (sR true [a,b]) x3 x4 x5 (sR true [a,b]) (oR W) none none none none none)=.ok ⟨.shr,true,.int (z:Int)⟩:=by
  rw[←ez];exact bM (pJ ns 1 _) (mp _) (mD (by omega))
 have r2:dF (aC aN [vE 0,cE (.int 2)]) (cA (vE 1) (cE (.int 1))) (G1 ns (iR m) (sR true [a,b]) x3 x4 x5 (sR true [a,b]) (oR W) none none none none none)=.ok ⟨.shr,true,.int (y:Int)⟩:=by
  rw[←ey];exact bM (pJ ns 2 _) (mp _) (mD (by omega))
 have e9:aR 8 (eU (cA (dF (aC aN [vE 0,cE (.int 1)]) (cA (vE 1) (cE (.int 1)))) (dF (aC aN [vE 0,cE (.int 2)]) (cA (vE 1) (cE (.int 1))))) (vE 1)) (G1 ns (iR m) (sR true [a,b]) x3 x4 x5 (sR true [a,b]) (oR W) none none none none none)=.nx (G1 ns (iR m) (sR true [a,b]) x3 x4 x5 (sR true [a,b]) (oR W) (iR ((z:Int)+(y:Int)-(m:Int))) none none none none):=set_shr (bM (C:=C0) (G:=fun i j=>i-j) (bM (C:=C0) (G:=fun i j=>i+j) r1 r2 rfl) (k':=.shr) (fr':=true) (j:=(m:Int)) rfl rfl);generalize (z:Int)+(y:Int)-(m:Int)=sz at *
 have e10:ifS (eF (bT (aC cX [vE 7,vE 1,vE 8]))) (bD (cE (.bl false))) cI (G1 ns (iR m) (sR true [a,b]) x3 x4 x5 (sR true [a,b]) (oR W) (iR sz) none none none none)=.nx (G1 ns (iR m) (sR true [a,b]) x3 x4 x5 (sR true [a,b]) (oR W) (iR sz) none none none none):=(hE (oV (cY (jE (rs:=[⟨.own,true,aB W⟩,⟨.shr,true,.int m⟩,⟨.shr,true,.int sz⟩]) (aD rfl (aD rfl (aD rfl bB))) ki)))).trans rfl;have o1:∀ x7 x8 x9 x10 x11 x12,aC bA [vE 1,aX (vE 2) (cE (.int 0))] (G1 ns (iR m) (sR true [a,b]) x3 x4 x5 (sR true [a,b]) x7 x8 x9 x10 x11 x12)=.ok ⟨.tmp,true,aB (aW (bL m a))⟩:=fun _ _ _ _ _ _=>bR (rs:=[⟨.shr,true,.int m⟩,⟨.shr,true,aB a⟩]) (aD rfl (aD (s0 _ _ _ _ _ _ _) bB)) ka
 have o2:∀ x7 x8 x9 x10 x11 x12,aC bA [vE 1,aX (vE 2) (cE (.int 1))] (G1 ns (iR m) (sR true [a,b]) x3 x4 x5 (sR true [a,b]) x7 x8 x9 x10 x11 x12)=.ok ⟨.tmp,true,aB (aW (bL m b))⟩:=fun _ _ _ _ _ _=>bR (rs:=[⟨.shr,true,.int m⟩,⟨.shr,true,aB b⟩]) (aD rfl (aD (s1 _ _ _ _ _ _ _) bB)) kb;have e11:aR 9 (aC bG [aC bA [vE 1,aX (vE 2) (cE (.int 0))],aC bA [vE 1,aX (vE 2) (cE (.int 1))]]) (G1 ns (iR m) (sR true [a,b]) x3 x4 x5 (sR true [a,b]) (oR W) (iR sz) none none none none)=.nx (G1 ns (iR m) (sR true [a,b]) x3 x4 x5 (sR true [a,b]) (oR W) (iR sz) (oR P) none none none):=iG (bR (φ:=bG) (aD (o1 _ _ _ _ _ _) (aD (o2 _ _ _ _ _ _) bB)) kd')
 have qP:=nC 6 (qV P) (by decide)
 have e12:ifS (orT (bT (neE (aC bA [vE 1,vE 7]) (vE 9))) (bT (neE (aC aG [vE 1,vE 7]) (vE 9)))) (bD (cE (.bl false))) cI (G1 ns (iR m) (sR true [a,b]) x3 x4 x5 (sR true [a,b]) (oR W) (iR sz) (oR P) none none none)=.nx (G1 ns (iR m) (sR true [a,b]) x3 x4 x5 (sR true [a,b]) (oR W) (iR sz) (oR P) none none none):=by
  have k1:aC bA [vE 1,vE 7] (G1 ns (iR m) (sR true [a,b]) x3 x4 x5 (sR true [a,b]) (oR W) (iR sz) (oR P) none none none)=.ok ⟨.tmp,true,aB P⟩:=bR (rs:=[⟨.shr,true,.int m⟩,⟨.own,true,aB W⟩]) (aD rfl (aD rfl bB)) ko;have k2:aC aG [vE 1,vE 7] (G1 ns (iR m) (sR true [a,b]) x3 x4 x5 (sR true [a,b]) (oR W) (iR sz) (oR P) none none none)=.ok ⟨.tmp,true,aB P⟩:=bR (rs:=[⟨.shr,true,.int m⟩,⟨.own,true,aB W⟩]) (aD rfl (aD rfl bB)) kt;have q1:=cY (xA (g:=vE 9) (r':=⟨.own,true,aB P⟩) k1 rfl qP);have q2:=cY (xA (g:=vE 9) (r':=⟨.own,true,aB P⟩) k2 rfl qP);exact(hE ((fV q1 fun _=>q2).trans rfl)).trans rfl
 have e13:aR 10 (jH (vE 7)) (G1 ns (iR m) (sR true [a,b]) x3 x4 x5 (sR true [a,b]) (oR W) (iR sz) (oR P) none none none)=.nx (G1 ns (iR m) (sR true [a,b]) x3 x4 x5 (sR true [a,b]) (oR W) (iR sz) (oR P) (oR W) none none):=iG (aH1 (k:=.own) (fr:=true) (ds:=W.map mkP) rfl);have e14:jB 7 (cE (.int 0)) (G1 ns (iR m) (sR true [a,b]) x3 x4 x5 (sR true [a,b]) (oR W) (iR sz) (oR P) (oR W) none none)=.nx (G1 ns (iR m) (sR true [a,b]) x3 x4 x5 (sR true [a,b]) (some ⟨.own,true,.lst (W.map mkP++[.int 0])⟩) (iR sz) (oR P) (oR W) none none):=pQ (i:=7) (fr:=true) (ds:=W.map mkP) (k:=.shr) (fr':=true) (d:=.int 0) rfl rfl (by decide) (by rw[Ab,sizeLine_eq];omega)
 have pw:aF1 (cE (.int 10)) (cE (.int 48)) (G1 ns (iR m) (sR true [a,b]) x3 x4 x5 (sR true [a,b]) (some ⟨.own,true,.lst (W.map mkP++[.int 0])⟩) (iR sz) (oR P) (oR W) none none)=.ok ⟨.shr,true,.int (10^48)⟩:=rfl;have e15:aR 11 (cC (aC aN [vE 0,cE (.int 1)]) (aF1 (cE (.int 10)) (cE (.int 48)))) (G1 ns (iR m) (sR true [a,b]) x3 x4 x5 (sR true [a,b]) (some ⟨.own,true,.lst (W.map mkP++[.int 0])⟩) (iR sz) (oR P) (oR W) none none)=.nx (G1 ns (iR m) (sR true [a,b]) x3 x4 x5 (sR true [a,b]) (some ⟨.own,true,.lst (W.map mkP++[.int 0])⟩) (iR sz) (oR P) (oR W) (iR (dH ns 1*10^48)) none):=set_shr (bM (C:=CM) (G:=fun i j=>i*j) (pJ ns 1 _) pw (gJ (aQz c1.1 c1.2) (by decide)))
 have far:0<=dH ns 1*10^48:=Int.mul_nonneg c1.1 (by decide)
 generalize dH ns 1*10^48=fa at *
 obtain⟨n,hn,e16⟩:∃ n:Int,(decide (n<1)||decide (5<n))=true/\aR 12 (aX (bZ [cE (.int 0),cE (.int 6),eU (sA (cE (.int 1))) (vE 11),cA (cE (.int 6)) (vE 11)]) (dF (rY (aC aN [vE 0,cE (.int 0)]) (cE (.int 5))) (cE (.int 4)))) (G1 ns (iR m) (sR true [a,b]) x3 x4 x5 (sR true [a,b]) (some ⟨.own,true,.lst (W.map mkP++[.int 0])⟩) (iR sz) (oR P) (oR W) (iR fa) none)=.nx (G1 ns (iR m) (sR true [a,b]) x3 x4 x5 (sR true [a,b]) (some ⟨.own,true,.lst (W.map mkP++[.int 0])⟩) (iR sz) (oR P) (oR W) (iR fa) (iR n)):=by
  obtain⟨i,hi⟩:=Dp (show 0<=dH ns 0/5%4 by omega)
  have hi4:i<4:=by omega
  have l:=aJb (f:=cE (.int 0)) (g:=cE (.int 6)) (h:=eU (sA (cE (.int 1))) (vE 11)) (i:=cA (cE (.int 6)) (vE 11)) (ρ:=(G1 ns (iR m) (sR true [a,b]) x3 x4 x5 (sR true [a,b]) (some ⟨.own,true,.lst (W.map mkP++[.int 0])⟩) (iR sz) (oR P) (oR W) (iR fa) none)) (a:=0) (b:=6) (c:=-1-fa) (d:=6+fa) rfl rfl (bM (C:=C0) (G:=fun i j=>i-j) (k:=.shr) (fr:=true) (i:=-1) rfl (k':=.shr) (fr':=true) (j:=fa) rfl rfl) (bM (C:=C0) (G:=fun i j=>i+j) (k:=.shr) (fr:=true) (i:=6) rfl (k':=.shr) (fr':=true) (j:=fa) rfl rfl)
  have x:dF (rY (aC aN [vE 0,cE (.int 0)]) (cE (.int 5))) (cE (.int 4)) (G1 ns (iR m) (sR true [a,b]) x3 x4 x5 (sR true [a,b]) (some ⟨.own,true,.lst (W.map mkP++[.int 0])⟩) (iR sz) (oR P) (oR W) (iR fa) none)=.ok ⟨.shr,true,.int (i:Nat)⟩:=by
   rw[show ((i:Nat):Int)=dH ns 0/5%4 from hi.symm]
   exact bM (bM (pJ ns 0 _) (k':=.shr) (fr':=true) (j:=5) rfl (aJ3 (by decide) (by decide))) (k':=.shr) (fr':=true) (j:=4) rfl (mD (by decide))
  refine⟨[0,6,-1-fa,6+fa].getD i 0,?_,set_shr (aBh l x (uO (by show i<4;exact hi4)))⟩
  rcases (by omega:i=0\/i=1\/i=2\/i=3) with rfl | rfl | rfl | rfl
  · rfl
  · rfl
  · show (decide (-1-fa<1)||decide (5 < -1-fa))=true
    rw[decide_eq_true (by omega)];rfl
  · show (decide (6+fa<1)||decide (5<6+fa))=true
    rw[decide_eq_true (show 5<6+fa by omega),Ez]
 have qS:lO (.lst [.str "count"]) (.lst [.str "count"])=.ok true:=by kernel_rfl
 have e17:ifS (orT (bT (neE (aC bU [cE (.int 0),vE 12,bZ []]) (bZ [cE (.str "count")]))) (bT (neE (aC bU [cE (.int 1),vE 12,bZ []]) (bZ [cE (.str "count")])))) (bD (cE (.bl false))) cI (G1 ns (iR m) (sR true [a,b]) x3 x4 x5 (sR true [a,b]) (some ⟨.own,true,.lst (W.map mkP++[.int 0])⟩) (iR sz) (oR P) (oR W) (iR fa) (iR n))=.nx (G1 ns (iR m) (sR true [a,b]) x3 x4 x5 (sR true [a,b]) (some ⟨.own,true,.lst (W.map mkP++[.int 0])⟩) (iR sz) (oR P) (oR W) (iR fa) (iR n)):=by
  have k1:∀ w:Int,aC bU [cE (.int w),vE 12,bZ []] (G1 ns (iR m) (sR true [a,b]) x3 x4 x5 (sR true [a,b]) (some ⟨.own,true,.lst (W.map mkP++[.int 0])⟩) (iR sz) (oR P) (oR W) (iR fa) (iR n))=.ok ⟨.tmp,true,.lst [.str "count"]⟩:=fun w=>bR (rs:=[⟨.shr,true,.int w⟩,⟨.shr,true,.int n⟩,⟨.tmp,true,.lst []⟩]) (aD rfl (aD rfl (aD rfl bB))) (aPk hn w);have k2:bZ [cE (.str "count")] (G1 ns (iR m) (sR true [a,b]) x3 x4 x5 (sR true [a,b]) (some ⟨.own,true,.lst (W.map mkP++[.int 0])⟩) (iR sz) (oR P) (oR W) (iR fa) (iR n))=.ok ⟨.tmp,true,.lst [.str "count"]⟩:=rfl;have q1:=cY (xA (k1 0) k2 qS);have q2:=cY (xA (k1 1) k2 qS)
  exact(hE ((fV q1 fun _=>q2).trans rfl)).trans rfl
 have qW:=nC 6 (qV W) (by decide)
 have qA:=nC 6 (qV (aW (bL m a))) (by decide)
 have e18:bD (xJ (eqE (aC bX [vE 1,aX (vE 6) (cE (.int 0)),aX (vE 6) (cE (.int 1))]) (vE 10)) (eqE (aC aG [vE 1,aX (vE 6) (cE (.int 0))]) (aC bA [vE 1,aX (vE 2) (cE (.int 0))]))) (G1 ns (iR m) (sR true [a,b]) x3 x4 x5 (sR true [a,b]) (some ⟨.own,true,.lst (W.map mkP++[.int 0])⟩) (iR sz) (oR P) (oR W) (iR fa) (iR n))=.rt ⟨.shr,true,.bl true⟩:=by
  have k1:aC aG [vE 1,aX (vE 6) (cE (.int 0))] (G1 ns (iR m) (sR true [a,b]) x3 x4 x5 (sR true [a,b]) (some ⟨.own,true,.lst (W.map mkP++[.int 0])⟩) (iR sz) (oR P) (oR W) (iR fa) (iR n))=.ok ⟨.tmp,true,aB (aW (bL m a))⟩:=bR (rs:=[⟨.shr,true,.int m⟩,⟨.shr,true,aB a⟩]) (aD rfl (aD (i0 _ _ _ _ _ _) bB)) kv;exact oW ((aIl (aJw (r':=⟨.own,true,aB W⟩) (cr _ _ _ _ _ _) rfl qW) fun _=>aJw k1 (o1 _ _ _ _ _ _) qA).trans rfl)
 exact(aQ e6).trans ((aQ e7).trans ((aQ e8).trans ((aQ e9).trans ((aQ e10).trans ((aQ e11).trans ((aQ e12).trans ((aQ e13).trans ((aQ e14).trans ((aQ e15).trans ((aQ e16).trans ((aQ e17).trans e18)))))))))))
theorem law_ok (ns:List Int):tL [.lst (ns.map .int)]=.ok (sc (.bl true)):=by
 have c0:=qF ns 0;obtain⟨m,hm⟩:=Dp (show 0<=1+dH ns 0%5 by omega)
 have m5:m<=5:=by omega
 have m1:1<=m:=by omega
 have z0:=Fv (dH ns 1) (show ((m:Int)+1)≠0 by omega)
 have z1:=Fc (dH ns 1) (show 0<(m:Int)+1 by omega)
 obtain⟨z,hz⟩:=Dp z0;have y0:=Fv (dH ns 2) (show ((m:Int)+1)≠0 by omega)
 have y1:=Fc (dH ns 2) (show 0<(m:Int)+1 by omega)
 obtain⟨y,hy⟩:=Dp y0
 have e1:aR 1 (cA (cE (.int 1)) (dF (aC aN [vE 0,cE (.int 0)]) (cE (.int 5)))) (G1 ns none none none none none none none none none none none none)=.nx (G1 ns (iR m) none none none none none none none none none none none):=by
  rw[←hm];exact set_shr (bM (k:=.shr) (fr:=true) (i:=1) rfl (bM (pJ ns 0 _) (k':=.shr) (fr':=true) (j:=5) rfl (mD (by decide))) rfl)
 have e2:aR 2 (bZ []) (G1 ns (iR m) none none none none none none none none none none none)=.nx (lE0 ns m [] none none none):=rfl;obtain⟨a,ga,x4,x5,s1⟩:=aFb ns m1 m5 (k:=0) (by decide) (z:=z) (by omega) hz [] (by decide) none none
 obtain⟨b,gb,y4,y5,s2⟩:=aFb ns m1 m5 (k:=1) (by decide) (z:=y) (by omega) hy [a] (by simp) x4 x5
 have e3:cV (eJ (cE (.int 2))) (.nm 3) lbd (lE0 ns m [] none none none)=.nx (lE0 ns m [a,b] (iR 1) y4 y5):=by
  have it:eJ (cE (.int 2)) (lE0 ns m [] none none none)=.ok ⟨true,true,[.int 0,.int 1]⟩:=rfl;refine(fT it).trans ?_
  have b0:Tg.bind true (.nm 3) (.int 0) (lE0 ns m [] none none none)=.ok (lE0 ns m [] (iR 0) none none):=rfl;have b1:Tg.bind true (.nm 3) (.int 1) (lE0 ns m [a] (iR 0) x4 x5)=.ok (lE0 ns m [a] (iR 1) x4 x5):=rfl;exact(fN b0 s1).trans ((fN b1 s2).trans rfl)
 have e4:=aH9 ns ga gb (by omega) (by omega) hz hy (iR 1) y4 y5
 have e:aKl (G1 ns none none none none none none none none none none none none)=.rt ⟨.shr,true,.bl true⟩:=(aQ e1).trans ((aQ e2).trans ((aQ e3).trans e4));exact(dX rfl e).trans rfl
end N66
namespace Hd
open PySem PySem.W
section
variable (tb:String->Option Builtin)(p:Program)(w:World)(m:Nat)(an:Option Value)
noncomputable def one (ih:SharedT->Thread->Option SharedT)(s:SharedT)(t:Thread):Option SharedT :=
 @Bool.rec (fun _=>Option SharedT) (@Bool.rec (fun _=>Option SharedT) none (@Option.rec (SharedT×Thread) (fun _=>Option SharedT) none (fun r=>ih r.1 r.2) (stepT (denote tb) p w s t)) (stepOk m an t)) (some s) (through t)
noncomputable def run (n:Nat):SharedT->Thread->Option SharedT :=
 @Nat.rec (fun _=>SharedT->Thread->Option SharedT) (fun _ _=>none) (fun _ ih=>one tb p w m an ih) n
end
theorem aG8 {tb:String->Option Builtin}{p:Program}{w:World}{m:Nat}{an:Option Value}(n:Nat):∀ {s s':SharedT} {t:Thread},run tb p w m an n s t=some s'->topRun tb p w m an n s.abs t=some s'.abs:=by
 induction n with
 | zero=>intro s s' t h;cases h
 | succ n ih =>
  intro s s' t h;have h1:one tb p w m an (run tb p w m an n) s t=some s':=h;unfold one at h1;unfold topRun;cases a:through t with
  | true=>rw[a]at h1;cases h1;rfl
  | false =>
   rw[a]at h1;cases b:stepOk m an t with
   | false=>rw[b]at h1;cases h1
   | true =>
    rw[b]at h1;cases c:stepT (denote tb) p w s t with
    | none=>rw[c]at h1;cases h1
    | some r =>
     rw[c]at h1;obtain⟨s1,t1⟩:=r;have d:=stepT_spec c;simp only[d];exact ih h1
noncomputable def aQg (P:Params):BT :=
 .node (boot_o_0 P) (.node (boot_o_1 P) (.node (boot_o_3 P) (.node (boot_o_7 P) .nil .nil) .nil) (.node (boot_o_5 P) (.node (boot_o_9 P) .nil .nil) .nil))
  (.node (boot_o_2 P) (.node (boot_o_4 P) (.node (boot_o_8 P) .nil .nil) .nil) (.node (boot_o_6 P) (.node (boot_o_10 P) .nil .nil) .nil))
noncomputable def aPw (w:World)(os:OsState):SharedT:=⟨aQg w.params,11,(boot_heap w.params).life,⟨[]⟩,boot_drawn,boot_toks,os⟩
theorem aD3 (w:World)(os:OsState):(aPw w os).abs=⟨boot_heap w.params,⟨[]⟩,boot_drawn,boot_toks,os⟩:=rfl
noncomputable def sz (w:World):Bool×Nat×Option Value:=((boot_heap w.params).isNs mainGlobals,(boot_heap w.params).objs.size,(boot_heap w.params).nsMap mainGlobals "__annotations__")
lay_quick Hd.sz
theorem aPc (w:World):sz w=(true,11,some (.ref 6)):=(congrFun PySem.W.Fast.te12317964393026182561 w).trans (by kernel_rfl)
section
variable (p q:Program)(Xt:Shared->Bool){α:Type}(Yf:Shared->α)(N:Nat)
noncomputable def aAs (w:World)(os:OsState):=(run treeTable p w 11 (some (.ref 6)) N (aPw w os) (topStub p)).map fun s =>
 ((staticsOk (importedModules p.main.body) (boot_heap w.params) s.abs.heap&&namesBound p s.abs.heap&&gensDone s.abs&&laidKept (boot_heap w.params) s.abs.heap),openSeen q [] (importedModules p.main.body) Xt true s.abs,Yf s.abs)
end
theorem left {p q:Program}{Xt:Shared->Bool}{α:Type}{Yf:Shared->α}{Ya:World->α}{N:Nat}(hb:∀ w:World,(fencedOpening treeTable p w N).map (fun s=>(s.heap,s.gens,s.drawn,s.toks))=some (boot_heap w.params,{ toList:=[] },boot_drawn,boot_toks))(hz:∀ w,sz w=(true,11,some (.ref 6)))
 (h:∀ w os,aAs p q Xt Yf N w os=some (true,openGood q [],Ya w)):LeftO p q [] Xt Yf Ya N:=fun w=>by
 obtain⟨s0,a,b⟩:=Ej.mp (hb w);obtain⟨s1,c,d⟩:=Ej.mp (h w s0.os);simp only[Prod.mk.injEq]at b d;have z:=hz w;simp only[sz,Prod.mk.injEq]at z;have e:=aG8 N c;rw[aD3]at e
 have f:s0=⟨boot_heap w.params,{ toList:=[] },boot_drawn,boot_toks,s0.os⟩:=by
  obtain⟨x1,x2,x3,x4,x5⟩:=s0;obtain⟨b1,b2,b3,b4⟩:=b;dsimp only at b1 b2 b3 b4
  rw[b1,b2,b3,b4]
 unfold openEnds;rw[a,Ek,f];unfold topFrom;dsimp only
 rw[z.1,z.2.1,z.2.2,e];simp only[Ek,d.1];show some (_,_)=_
 rw[d.2.1,d.2.2]
end Hd
namespace H66
open PySem PySem.W
local macro_rules | `(tactic| o_head $H)=>`(tactic| (have _:=$H;assumption))
theorem kk (h:PySem.Challenge.rw_flatmeet_k66_crossed_sums.row.Holds):PySem.Challenge.rw_flatmeet_k66_crossed_sums.row.Holds:=by k_head
abbrev pr:Program:=PySem.Challenge.pw_flatmeet_k66_crossed_sums
abbrev ad:List Addr:=[2,3,15,22,23,24,25,28,35,36,37,40,47,48,49,52,59,60,61,64,71,73,74,76,77,78,79,80,83,90,91,92,95,102,103,104,107,114,115,116,119,126,127,128,131,138,140,141,143,144,145,146,147,150,157,158,159,162,169,170,171,174,181,182,183,186,193,194,195,198,205,206,207,210,212,213,215,216,217,220,221,222,225,226,227,230,231,232,235,236,237,240,241,242,244,245,247,248,249,251,252,254,255,256,258,259,261,262,263,266,267,268,270,271,273,274,275,277,278,280,281,287,290,291,297,299,300,302,303,318,320,321,323,324,325,328,329,330,332,333,335,336,337,340,341]
theorem aKi (P:Params):ad=(kk.heap_1 P).map (·.1):=by kernel_rfl
noncomputable abbrev hk:Hook:=kHook kk.heap_1 ad aKi
def vw:Program:=view pr [1,2,3,4,5,6,7,8,9,10,11,12,13,14,15,17,18,20,21,22,23,25,26,28,29,31,32,33,34,35,36,37,38,39,40,41,42,43]
noncomputable def lk (w:World)(os:OsState):=Hd.aAs pr vw (fun s=>xlAt vw [] s&&recOk [] s) (fun s=>ad.map s.heap.get?) 8020 w os
noncomputable def gd (w:World)(os:OsState):=some (true,openGood vw [],(kk.heap_1 w.params).map fun p=>some p.2)
lay_quick H66.lk H66.gd
theorem same:PySem.W.Fast.tw6233828309440546271=PySem.W.Fast.tw14598638401036852370:=by kernel_rfl
theorem lo:LeftO pr vw [] (fun s=>xlAt vw [] s&&recOk [] s) hk.obs hk.val 8020:=Hd.left (boot_open rfl rfl fun s=>rfl) Hd.aPc fun w os=>congrFun (congrFun (PySem.W.Fast.te6233828309440546271.trans (same.trans PySem.W.Fast.te14598638401036852370.symm)) w) os
theorem go (hs:PySem.Challenge.rw_flatmeet_k66_crossed_sums.row.wellSaid=true)(h:PySem.Challenge.rw_flatmeet_k66_crossed_sums.row.promised){d:DefRec}{kw:List (Str×Expr)}(h1:defOf vw PySem.Challenge.rw_flatmeet_k66_crossed_sums.row.name=some (d,kw))(h2:PySem.Challenge.rw_flatmeet_k66_crossed_sums.row.prog.theDef PySem.Challenge.rw_flatmeet_k66_crossed_sums.row.name=some (d.params,d.body,d.scope))(h3:kwWritten? d.params.kwonlyargs d.params.kw_defaults=some kw)
 (g:WalkO vw [] (XL vw []) (kHook kk.heap_1 ad aKi).says PySem.Challenge.rw_flatmeet_k66_crossed_sums.row.toRowW d kw fun f vs=>call f vs):PySem.Challenge.rw_flatmeet_k66_crossed_sums.row.Holds :=
 W.holds_open lo hk.of hk.keeps (fun s e=>xl_of s (De.mp e).1) XL.keeps h1 h2 h3 (fun s e=>recFacts_of (De.mp e).2) rfl hs (by decide +kernel) ⟨rfl,rfl,rfl,rfl,rfl,by decide +kernel⟩ h g
end H66
open PySem PySem.W PyProof.Rows
set_option maxRecDepth 100000 in
set_option maxHeartbeats 0 in
theorem PySem.Challenge.cw_flatmeet_k66_crossed_sums_holds : PySem.Challenge.rw_flatmeet_k66_crossed_sums.Holds := by
  w_on; o_law
  refine H66.go (by assumption) ?hw (by rfl) (by rfl) (by rfl) ?hc
  (case hw => w_witness2)
  k_fill
  refine N66.walk (l := PySem.Challenge.rw_flatmeet_k66_crossed_sums) rfl rfl (fun ns _ => N66.law_ok ns) (fun w h Y => PySem.W.kIn_of Y) ?L ?F
  case L => intro P; kernel_rfl
  case F =>
    intro w mg fa h KX G hmg
    refine' N66.all_mk KX G hmg (Mir.xall_mk KX G ⟨?t1, ?t2, ?t3⟩ ⟨?x0a, ?x0b, ?x0c, ?x0d, ?x0e, ?x0f⟩ ⟨?x1a, ?x1b, ?x1c, ?x1d, ?x1e, ?x1f⟩ ⟨?x2a, ?x2b, ?x2c, ?x2d, ?x2e, ?x2f⟩ ⟨?x3a, ?x3b, ?x3c, ?x3d, ?x3e, ?x3f⟩ ⟨?x4a, ?x4b, ?x4c, ?x4d, ?x4e, ?x4f⟩ ⟨?x5a, ?x5b, ?x5c, ?x5d, ?x5e, ?x5f⟩ ⟨?x6a, ?x6b, ?x6c, ?x6d, ?x6e, ?x6f⟩ ⟨?x7a, ?x7b, ?x7c, ?x7d, ?x7e, ?x7f⟩ ⟨?x8a, ?x8b, ?x8c, ?x8d, ?x8e, ?x8f⟩ ⟨?x9a, ?x9b, ?x9c, ?x9d, ?x9e, ?x9f⟩ ⟨?x10a, ?x10b, ?x10c, ?x10d, ?x10e, ?x10f⟩ ⟨?x11a, ?x11b, ?x11c, ?x11d, ?x11e, ?x11f⟩ ⟨?x12a, ?x12b, ?x12c, ?x12d, ?x12e, ?x12f⟩ ⟨?x13a, ?x13b, ?x13c, ?x13d, ?x13e, ?x13f⟩ ?e0 ?e1 ?e2 ?e3 ?e4 ?e5 ?e6 ?e7 ?e8 ?e9 ?e10 ?e11 ?nd) ⟨?n0, ?l0, ?c0, ?k0⟩ ⟨?n1, ?l1, ?c1, ?k1⟩ ⟨?n2, ?l2, ?c2, ?k2⟩ ⟨?n3, ?l3, ?c3, ?k3⟩ ⟨?n4, ?l4, ?c4, ?k4⟩ ⟨?n5, ?l5, ?c5, ?k5⟩ ⟨?n6, ?l6, ?c6, ?k6⟩ ⟨?n7, ?l7, ?c7, ?k7⟩ ⟨?n8, ?l8, ?c8, ?k8⟩ ⟨?n9, ?l9, ?c9, ?k9⟩ ⟨?n10, ?l10, ?c10, ?k10⟩ ⟨?n11, ?l11, ?c11, ?k11⟩ ⟨?n12, ?l12, ?c12, ?k12⟩ ⟨?n13, ?l13, ?c13, ?k13⟩ ⟨?n14, ?l14, ?c14, ?k14⟩ ⟨?n15, ?l15, ?c15, ?k15⟩ ⟨?n16, ?l16, ?c16, ?k16⟩ ⟨?n17, ?l17, ?c17, ?k17⟩ ?z0 ?z1 ?z2 ?z3 ?z4 ?z5 ?z6 ?z7 ?z8 ?z9 ?z10 ?z11 ?gq0
    (case t1 => k_is); (case t2 => k_is); (case t3 => rfl)
    (case x0a => k_is); (case x0b => k_is); (case x0c => rfl); (case x0d => k_is); (case x0e => k_is); (case x0f => k_is)
    (case x1a => k_is); (case x1b => k_is); (case x1c => rfl); (case x1d => k_is); (case x1e => k_is); (case x1f => k_is)
    (case x2a => k_is); (case x2b => k_is); (case x2c => rfl); (case x2d => k_is); (case x2e => k_is); (case x2f => k_is)
    (case x3a => k_is); (case x3b => k_is); (case x3c => rfl); (case x3d => k_is); (case x3e => k_is); (case x3f => k_is)
    (case x4a => k_is); (case x4b => k_is); (case x4c => rfl); (case x4d => k_is); (case x4e => k_is); (case x4f => k_is)
    (case x5a => k_is); (case x5b => k_is); (case x5c => rfl); (case x5d => k_is); (case x5e => k_is); (case x5f => k_is)
    (case x6a => k_is); (case x6b => k_is); (case x6c => rfl); (case x6d => k_is); (case x6e => k_is); (case x6f => k_is)
    (case x7a => k_is); (case x7b => k_is); (case x7c => rfl); (case x7d => k_is); (case x7e => k_is); (case x7f => k_is)
    (case x8a => k_is); (case x8b => k_is); (case x8c => rfl); (case x8d => k_is); (case x8e => k_is); (case x8f => k_is)
    (case x9a => k_is); (case x9b => k_is); (case x9c => rfl); (case x9d => k_is); (case x9e => k_is); (case x9f => k_is)
    (case x10a => k_is); (case x10b => k_is); (case x10c => rfl); (case x10d => k_is); (case x10e => k_is); (case x10f => k_is)
    (case x11a => k_is); (case x11b => k_is); (case x11c => rfl); (case x11d => k_is); (case x11e => k_is); (case x11f => k_is)
    (case x12a => k_is); (case x12b => k_is); (case x12c => rfl); (case x12d => k_is); (case x12e => k_is); (case x12f => k_is)
    (case x13a => k_is); (case x13b => k_is); (case x13c => rfl); (case x13d => k_is); (case x13e => k_is); (case x13f => k_is)
    (case e0 => k_exc); (case e1 => k_exc); (case e2 => k_exc); (case e3 => k_exc); (case e4 => k_exc); (case e5 => k_exc); (case e6 => k_exc); (case e7 => k_exc); (case e8 => k_exc); (case e9 => k_exc); (case e10 => k_exc); (case e11 => k_exc)
    (case nd => decide)
    (case n0 => k_is); (case l0 => k_is); (case c0 => k_is); (case k0 => k_is)
    (case n1 => k_is); (case l1 => k_is); (case c1 => k_is); (case k1 => k_is)
    (case n2 => k_is); (case l2 => k_is); (case c2 => k_is); (case k2 => k_is)
    (case n3 => k_is); (case l3 => k_is); (case c3 => k_is); (case k3 => k_is)
    (case n4 => k_is); (case l4 => k_is); (case c4 => k_is); (case k4 => k_is)
    (case n5 => k_is); (case l5 => k_is); (case c5 => k_is); (case k5 => k_is)
    (case n6 => k_is); (case l6 => k_is); (case c6 => k_is); (case k6 => k_is)
    (case n7 => k_is); (case l7 => k_is); (case c7 => k_is); (case k7 => k_is)
    (case n8 => k_is); (case l8 => k_is); (case c8 => k_is); (case k8 => k_is)
    (case n9 => k_is); (case l9 => k_is); (case c9 => k_is); (case k9 => k_is)
    (case n10 => k_is); (case l10 => k_is); (case c10 => k_is); (case k10 => k_is)
    (case n11 => k_is); (case l11 => k_is); (case c11 => k_is); (case k11 => k_is)
    (case n12 => k_is); (case l12 => k_is); (case c12 => k_is); (case k12 => k_is)
    (case n13 => k_is); (case l13 => k_is); (case c13 => k_is); (case k13 => k_is)
    (case n14 => k_is); (case l14 => k_is); (case c14 => k_is); (case k14 => k_is)
    (case n15 => k_is); (case l15 => k_is); (case c15 => k_is); (case k15 => k_is)
    (case n16 => k_is); (case l16 => k_is); (case c16 => k_is); (case k16 => k_is)
    (case n17 => k_is); (case l17 => k_is); (case c17 => k_is); (case k17 => k_is)
    (case z0 => k_is); (case z1 => k_is); (case z2 => k_is); (case z3 => k_is); (case z4 => k_is); (case z5 => k_is); (case z6 => k_is); (case z7 => k_is); (case z8 => k_is); (case z9 => k_is); (case z10 => k_is); (case z11 => k_is)
    (case gq0 => k_is)
