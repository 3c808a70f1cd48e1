import PyProof.Rows.All
import Wide.All
import OpenK.KMake
import OpenK.KDescr
import OpenK.KGet
import OpenK.KEqL
import OpenK.KMore
import OpenK.KCls
import OpenK.KCall
import OpenK.KWalk
import OpenK.Peek
import OpenK.KLine
import KE.KIsAll
import KE.KItem
import KE.LcSums
import KE.KTryMore
import Wide.FinOn
import Lean
import PyProof.EqAt
import PyProof.EqKinds
import PyProof.TupleCall
import PyProof.ZipIter
import PyProof.ListNew
import PySem.Sem
import PyProof.WalksEnum
import PyProof.EnumMake
import PyProof.Rows.TupIter
import PyProof.DictIter
import KE.KDictList
import PyProof.DictItems
import KE.KPairComp
import KE.KSortTup
import PyProof.Rows.SetFrom
import PyProof.WalksMore
import PyProof.ListRange
import KE.KDictOf
import PyProof.IsiH_list
import PyProof.AttrMiss
import PyProof.TupleOfGen
import KE.KRevIter
import PyProof.Rows.Range3
import PyProof.ExcInit
import PySem.Challenge.RW_flatmeet_k83_refused_equations
open PySem.Heap renaming get?_push_of_some→Aa,lt_size→Ae,get?_push_size→Av,size_push→Bi,get?_update_other→Cn,get?_update_self→Cp,get?_none_of_le→El
open List renaming mem_cons_of_mem→Ab,mem_cons→Ad,mem_cons_self→Af,getD_eq_getElem?_getD→Ag,length_map→Ah,getElem?_set_ne→Ai,size_toArray→Aj,not_mem_nil→Ak,getElem?_set_self→Al,map_cons→Am,getElem?_eq_some_iff→Ao,replicate→Ap,getElem?_append_right→Ar,length_append→As,length_singleton→Aw,getElem?_eq_getElem→Ax,length_set→Az,mem_map→Bb,mem_append_right→Bc,getElem?_map→Be,lookup_cons→Bf,mem_append→Bg,range→Bj,length_take→Bt,nodup_cons→Bw,getElem?_append_left→Bx,mem_singleton→Bz,replicate_succ→Cc,length_replicate→Cd,getElem?_eq_none→Ce,length_drop→Cf,length_cons→Cg,range'→Ch,map_append→Cm,lookup→Cr,flatten_cons→Cu,mem_of_mem_drop→Cv,mem_of_getElem?→Cw,filter_cons→Db,getElem?_replicate→Dc,drop_of_length_le→De,of_mem_zip→Df,mem_filter→Dg,length_range→Dk,mem_iff_getElem→Dm,mem_append_left→Do,map_map→Dq,all_eq_true→Ds,filterMap_cons→Du,append_nil→Dz,pairwise_cons→Ea,mem_filterMap→Eb,append_assoc→Ee,getElem?_zipWith→Ef,map_drop→Ei,nil_append→En,foldl_cons→Eo,find?_cons→Ep,mem_zipIdx_iff_getElem?→Er,mem_range'_1→Fc,getElem?_set→Fd,zipIdx_cons→Fh,range'_succ→Fi,getElem_mem→Fj,length→Fv
open Nat renaming lt_of_lt_of_le→Ac,le_refl→An,ne_of_lt→Au,le_trans→Bn,le_add_right→Bo,zero_le→Cq,lt_irrefl→Cy,le_of_succ_le→Dj,pow_le_pow_right→Dl,gcd→Eh,min_eq_left→Em,zero_add→Et,ne_of_gt→Eu,lt_of_le_of_lt→Ex,lt_succ_self→Fg,le_of_lt→Fk,gcd_comm→Fm,le_succ→Ft
open PySem.W renaming findIn→Aq,nsIn→Ay,kitOne→Bk,excIn→Bl,mg_none_of→Bq,kia_one→Br,emptyDict→By,fnOf→Cb,keepIn→Ci,instObj→Cj,hideAll→Ck,typeIn→Cz,codeIn→Da,cellsFrom_some→Dd,clsIn→Dh,hasDictIn→Di,looks_subIn→Dt,subIn→Dv,mg_of→Dw,plainGet→Eg,hideAll_none→Ek,hideAll_get→Es,of_hideAll→Ev,isNs_of_in→Ew,plainOver→Ez,methodObj→Fb,mroIn→Fe,takerIn→Fn,makesIn→Fo,notCls→Fw,lookIn→Fx
open Bool renaming and_eq_true→Bm,and_eq_true_iff→Bp,false_ne_true→Bv,false_eq_true→Co,or_false→Ej,and_self→Ff,or_eq_true→Fq
open PyProof.Rows renaming callWith_type1→Bu,envOfC→Fy
open Option renaming some→Ca,bind_some→Dr,isSome_iff_exists→Dx,map_some→Dy,none→Fs
open List.Pairwise renaming nil→Ct
open Int renaming fdiv_eq_ediv_of_nonneg→Dp,eq_ofNat_of_zero_le→Ec,emod_lt_of_pos→Ey,emod_nonneg→Fp
open List.Perm renaming refl→Ed
set_option Elab.async false
set_option linter.all false
set_option maxRecDepth 100000
set_option maxHeartbeats 3990000
namespace L2
open PySem PySem.Spec PyProof.Rows
abbrev Key:=Sum Int Str
def aE8:Key->Value->Bool
 | .inl k,v=>Value.isInt k v
 | .inr x,v=>Value.isStrOf x v
def aMi (w:World):Key->Int
 | .inl k=>hashInt k
 | .inr x=>hashStr w x
theorem cH:∀ {k:Key} {v:Value},aE8 k v=true->(∃ i t,k=Sum.inl i/\v=Value.int i t)\/(∃ x t,k=Sum.inr x/\v=Value.str x t)
 | .inl i,v,h=>by
  obtain⟨t,e⟩:=Value.isInt_shape (k:=i) (v:=v) h;exact .inl ⟨i,t,rfl,e⟩
 | .inr x,v,h=>by
  obtain⟨t,e⟩:=Value.isStrOf_shape (x:=x) (v:=v) h;exact .inr ⟨x,t,rfl,e⟩
theorem aHd (a b:Int):decide ((Sum.inl a:Key)=Sum.inl b)=(a==b):=by
 by_cases e:a=b
 · subst e;simp
 · have h:¬ (Sum.inl a:Key)=Sum.inl b:=fun q=>e (Sum.inl.inj q)
   rw[decide_eq_false h];exact(beq_eq_false_iff_ne.mpr e).symm
theorem aH9 (a b:Str):decide ((Sum.inr a:Key)=Sum.inr b)=decide (a=b):=by
 by_cases e:a=b
 · subst e;simp
 · have h:¬ (Sum.inr a:Key)=Sum.inr b:=fun q=>e (Sum.inr.inj q)
   rw[decide_eq_false h,decide_eq_false e]
theorem aGd (a:Int)(b:Str):decide ((Sum.inl a:Key)=Sum.inr b)=false:=decide_eq_false (fun q=>nomatch q)
theorem aHq (a:Str)(b:Int):decide ((Sum.inr a:Key)=Sum.inl b)=false:=decide_eq_false (fun q=>nomatch q)
def rJ (prog:Program)(w:World):PySem.KeyKind prog w Key where
 is:=aE8
 hash:=aMi w
 inj:=fun v a b ha hb=>by
  rcases cH ha with ⟨i,t,rfl,rfl⟩ | ⟨x,t,rfl,rfl⟩
  · rcases cH hb with ⟨j,u,rfl,e⟩ | ⟨y,u,rfl,e⟩
    · injection e with e1 _;rw[e1]
    · exact nomatch e
  · rcases cH hb with ⟨j,u,rfl,e⟩ | ⟨y,u,rfl,e⟩
    · exact nomatch e
    · injection e with e1 _;rw[e1]
 byValue:=fun k v h=>by
  rcases cH h with ⟨i,t,rfl,rfl⟩ | ⟨x,t,rfl,rfl⟩<;>rfl
 pyHash:=fun hv h=>by
  rcases cH hv with ⟨i,t,rfl,rfl⟩ | ⟨x,t,rfl,rfl⟩
  · exact wpAny_pyHash_int h
  · exact wpAny_pyHash_str h
 eqBool:=fun hu hv h=>by
  rcases cH hu with ⟨i,t,rfl,rfl⟩ | ⟨x,t,rfl,rfl⟩
  · rcases cH hv with ⟨j,u,rfl,rfl⟩ | ⟨y,u,rfl,rfl⟩
    · rw[aHd]at h;exact wpAny_eqBool_int h
    · rw[aGd]at h;exact SeqAt.EqAt.int_str i t y u _ _ _ _ h
  · rcases cH hv with ⟨j,u,rfl,rfl⟩ | ⟨y,u,rfl,rfl⟩
    · rw[aHq]at h;exact SeqAt.EqAt.str_int x t j u _ _ _ _ h
    · rw[aH9]at h;exact wpAny_eqBool_str h
 «strs»:=fun k x t v h=>by
  rcases cH h with ⟨i,u,rfl,e⟩ | ⟨y,u,rfl,e⟩
  · exact nomatch e
  · injection e with e1 _
    subst e1;cases v<;>rfl
end L2
namespace L2
open PySem PySem.Spec PyProof.Rows
inductive V where
 | non | bl (b:Bool) | int (i:Int) | str (x:Str) | byt (b:Array UInt8) | flt (b:UInt64) | ref (a:Addr) | ty (n:String)
 deriving DecidableEq
def bM:V->Value->Prop
 | .non,u=>u=Value.none
 | .bl b,u=>u=Value.bool b
 | .int i,u=>∃ t,u=Value.int i t
 | .str x,u=>∃ t,u=Value.str x t
 | .byt b,u=>∃ t,u=Value.bytes b t
 | .flt b,u=>∃ t,u=Value.float b t
 | .ref a,u=>u=Value.ref a
 | .ty n,u=>u=Value.type n
abbrev bH:List V->List Value->Prop:=Paired bM
theorem bH.length {xs:List V}{us:List Value}(r:bH xs us):xs.length=us.length:=Paired.length r
theorem bH.get:∀ {xs:List V} {us:List Value} {i:Nat} {x:V},bH xs us->xs[i]?=some x->∃ u,us[i]?=some u/\bM x u
 | _,_,_,_,.nil,e=>by simp at e
 | _,_,0,_,.cons r _,e=>by simp at e;subst e;exact⟨_,rfl,r⟩
 | _,_,i+1,x,.cons _ t,e=>by
  obtain⟨u,h1,h2⟩:=bH.get (i:=i) (x:=x) t (by simpa using e)
  exact⟨u,by simpa using h1,h2⟩
theorem bH.set {x:V}{u:Value}(r:bM x u):∀ {xs:List V} {us:List Value} (i:Nat),bH xs us->bH (xs.set i x) (us.set i u)
 | _,_,_,.nil=>.nil
 | _,_,0,.cons _ t=>.cons r t
 | _,_,i+1,.cons q t=>.cons q (bH.set r i t)
theorem bH.append:∀ {xs ys:List V} {us ws:List Value},bH xs us->bH ys ws->bH (xs++ys) (us++ws)
 | _,_,_,_,.nil,s=>s
 | _,_,_,_,.cons r t,s=>.cons r (bH.append t s)
theorem bH.take:∀ {xs:List V} {us:List Value} (n:Nat),bH xs us->bH (xs.take n) (us.take n)
 | _,_,0,_=>.nil
 | _,_,_+1,.nil=>.nil
 | _,_,n+1,.cons r t=>.cons r (bH.take n t)
theorem bH.drop:∀ {xs:List V} {us:List Value} (n:Nat),bH xs us->bH (xs.drop n) (us.drop n)
 | _,_,0,r=>r
 | _,_,_+1,.nil=>.nil
 | _,_,n+1,.cons _ t=>bH.drop n t
def oN:Option V->Option Value->Prop
 | some v,some u=>bM v u
 | none,none=>True
 | _,_=>False
def KV {κ:Type}:List (κ×V)->List (κ×Value)->Prop:=Paired fun (p:κ×V) (q:κ×Value)=>p.1=q.1/\bM p.2 q.2
def kV:Key->V
 | .inl i=>.int i
 | .inr x=>.str x
inductive HO where
 /-- a list -/
 | lst (xs:List V)
 /-- a tuple (never changes) -/
 | tup (xs:List V)
 /-- a dict whose keys are ints and texts;one whose keys are tuples of ints and texts (the empty one is both) -/
 | dK (kvs:List (Key×V)) | dT (kvs:List (List Key×V))
 /-- a set of ints: its members,its size -/
 | set (S:Int->Bool) (n:Nat)
 /-- an instance of the class at C,its dict at dx,its attributes -/
 | ins (C dx:Addr) (fs:List (Str×V))
 /-- the dict of the instance at x -/
 | own (x:Addr)
 /-- the dict of an exception -/
 | xd (fs:List (Str×V))
 /-- a bound method,f of x -/
 | met (f x:Addr)
 /-- a range object lo,lo+1,.. below hi -/
 | rng (lo hi:Int)
 /-- a thing that is known to the object (the script;a dict while a loop walks it): read,never written while it is so -/
 | frz (o:Obj) (u:HO)
 /-- a code object's table -/
 | tbl (ps:Array Value)
 /-- any other thing,by what is true of its one object (a def of one's own: SetO a S n:=HO.ext fun h=>..) -/
 | ext (φ:Heap->Prop)
abbrev Hp:=Addr->Option HO
def upd (H:Hp)(a:Addr)(o:HO):Hp:=fun b=>if b=a then some o else H b
theorem bC {H:Hp}{a:Addr}{o:HO}:upd H a o a=some o:=by unfold upd;rw[if_pos rfl]
theorem aR {H:Hp}{a b:Addr}{o:HO}(h:b≠a):upd H a o b=H b:=by unfold upd;rw[if_neg h]
theorem mF {H:Hp}{a:Addr}{o u:HO}:upd (upd H a o) a u=upd H a u:=by
 funext b;unfold upd;split<;>rfl
theorem bJ {H:Hp}{a b:Addr}{o:HO}(h:H a=some o)(h':H b=none):a≠b:=by
 intro e;subst e;rw[h]at h';cases h'
section
variable (P:Program)(w:World)
def cK (H:Hp)(h:Heap)(a:Addr):HO->Prop
 | .lst xs=>xs.length<=sizeLine/\∃ (its:List Value) (n:Nat),bH xs its/\h.get? a=some { cls:=.type "list",data:=.seq its.toArray n }
 | .tup xs=>xs.length<=sizeLine/\∃ its:List Value,bH xs its/\IsTup h a its.toArray
 | .dK kvs=>kvs.length<=sizeLine/\(a==sysModules)=false/\∃ vs,KV kvs vs/\h.DictOf (rJ P w) a vs
 | .dT kvs=>kvs.length<=sizeLine/\(a==sysModules)=false/\∃ xs:List (List Key×Addr×Value),
  Paired (fun (p:List Key×V) (q:List Key×Addr×Value)=>p.1=q.1/\H q.2.1=some (.tup (p.1.map kV))/\bM p.2 q.2.2) kvs xs /\
  ∃ o es ep,h.get? a=some o/\o.ExactDict/\o.data=.dict es ep/\es.toList=xs.map (entryOfKey (tupleKind (rJ P w)))/\(xs.map (·.1)).Nodup
 | .set S n=>h.SetOf (intKind P w) a S n
 | .ins C dx fs=>H dx=some (.own a)/\fs.length<=1000/\dx≠a/\h.get? a=some (Cj C dx) /\
  ∃ mA,h.Ns1 dx mA/\(∀ f,oN (fs.lookup f) (mA f))/\PySem.Within mA (fs.map (·.1))
 | .own _=>∃ o,h.get? a=some o
 | .xd fs=>∃ mA,h.Ns1 a mA/\∀ f,oN (fs.lookup f) (mA f)
 | .rng lo hi=>∃ t u v,h.get? a=some { cls:=.type "range",data:=.fields #[.int lo t,.int hi u,.int 1 v] }
 | .frz o u=>h.get? a=some o/\cK H h a u
 | .tbl ps=>h.get? a=some { cls:=.none,data:=.fields ps }
 | .met f x=>h.get? a=some (Fb (.ref f) (.ref x))
 | .ext φ=>φ h/\(∃ o,h.get? a=some o)/\∀ h1 h2:Heap,φ h1->(∀ o,h1.get? a=some o->h2.get? a=some o)->φ h2
def HOk (H:Hp)(h:Heap):Prop:=∀ a o,H a=some o->cK P w H h a o
end
section
variable {P:Program}{w:World}{H H':Hp}{h h':Heap}{a:Addr}{o:HO}
theorem cK.lt (x:cK P w H h a o):a<h.objs.size:=by
 cases o with
 | lst xs=>obtain⟨_,_,_,_,e⟩:=x;exact Ae e
 | tup xs=>obtain⟨_,_,_,p⟩:=x;exact p.lt
 | dK kvs=>obtain⟨_,_,_,_,o,_,_,e,_⟩:=x;exact Ae e
 | dT kvs=>obtain⟨_,_,_,_,o,_,_,e,_⟩:=x;exact Ae e
 | set S n=>obtain⟨o,_,_,_,e,_⟩:=x;exact Ae e
 | ins C dx fs=>obtain⟨_,_,_,e,_⟩:=x;exact Ae e
 | own y=>obtain⟨_,e⟩:=x;exact Ae e
 | xd fs=>obtain⟨_,⟨_,_,_,e,_⟩,_⟩:=x;exact Ae e
 | rng lo hi=>obtain⟨_,_,_,e⟩:=x;exact Ae e
 | frz ob u=>obtain⟨e,_⟩:=x;exact Ae e
 | tbl ps=>exact Ae (show h.get? a=some _ from x)
 | met f y=>exact Ae (show h.get? a=some _ from x)
 | ext φ=>obtain⟨_,⟨_,e⟩,_⟩:=x;exact Ae e
theorem Paired.mapP {α β:Type}{F G:α->β->Prop}:∀ {l₁:List α} {l₂:List β},Paired F l₁ l₂->(∀ a b,F a b->G a b)->Paired G l₁ l₂
 | _,_,.nil,_=>.nil
 | _,_,.cons r t,f=>.cons (f _ _ r) (Paired.mapP t f)
theorem cK.stay (x:cK P w H h a o)(k:∀ b u,(b=a\/H b=some (.own a))->h.get? b=some u->h'.get? b=some u)
 (ho:∀ b,H b=some (.own a)->H' b=some (.own a)) (ht:∀ b xs,H b=some (.tup xs)->H' b=some (.tup xs)):cK P w H' h' a o:=by
 induction o with
 | lst xs=>obtain⟨z,its,n,r,e⟩:=x;exact⟨z,its,n,r,k _ _ (.inl rfl) e⟩
 | tup xs=>obtain⟨z,its,r,ob,e,c⟩:=x;exact⟨z,its,r,ob,k _ _ (.inl rfl) e,c⟩
 | dK kvs=>obtain⟨z,y,vs,r,ob,es,ep,e,c⟩:=x;exact⟨z,y,vs,r,ob,es,ep,k _ _ (.inl rfl) e,c⟩
 | dT kvs =>
  obtain⟨z,y,xs,r,ob,es,ep,e,c⟩:=x;exact⟨z,y,xs,Paired.mapP r fun p q z=>⟨z.1,ht _ _ z.2.1,z.2.2⟩,ob,es,ep,k _ _ (.inl rfl) e,c⟩
 | set S n=>obtain⟨ob,es,ep,t,e,c⟩:=x;exact⟨ob,es,ep,t,k _ _ (.inl rfl) e,c⟩
 | ins C dx fs =>
  obtain⟨d,z,ne,e,mA,⟨od,es,ep,e2,c⟩,r⟩:=x;exact⟨ho _ d,z,ne,k _ _ (.inl rfl) e,mA,⟨od,es,ep,k _ _ (.inr d) e2,c⟩,r⟩
 | own y=>obtain⟨ob,e⟩:=x;exact⟨ob,k _ _ (.inl rfl) e⟩
 | xd fs=>obtain⟨mA,⟨od,es,ep,e,c⟩,r⟩:=x;exact⟨mA,⟨od,es,ep,k _ _ (.inl rfl) e,c⟩,r⟩
 | rng lo hi=>obtain⟨t,u,v,e⟩:=x;exact⟨t,u,v,k _ _ (.inl rfl) e⟩
 | frz ob u ih=>obtain⟨e,q⟩:=x;exact⟨k _ _ (.inl rfl) e,ih q⟩
 | tbl ps =>
  have e:h.get? a=some { cls:=.none,data:=.fields ps }:=x;show h'.get? a=some { cls:=.none,data:=.fields ps }
  exact k a _ (.inl rfl) e
 | met f y =>
  have e:h.get? a=some (Fb (.ref f) (.ref y)):=x;show h'.get? a=some (Fb (.ref f) (.ref y))
  exact k a _ (.inl rfl) e
 | ext φ=>obtain⟨p,⟨o,e⟩,st⟩:=x;exact⟨st _ _ p fun o q=>k _ _ (.inl rfl) q,⟨o,k _ _ (.inl rfl) e⟩,st⟩
theorem HOk.lt (x:HOk P w H h)(e:H a=some o):a<h.objs.size:=(x a o e).lt
theorem HOk.fresh (x:HOk P w H h)(e:h.objs.size<=a):H a=none:=by
 cases q:H a with
 | none=>rfl
 | some u=>exact absurd (Ac (x.lt q) e) (Cy _)
theorem HOk.kept (x:HOk P w H h)(k:∀ b u,h.get? b=some u->h'.get? b=some u):HOk P w H h':=fun a o e =>
 (x a o e).stay (fun b u _ q=>k b u q) (fun _ q=>q) fun _ _ q=>q
theorem HOk.laid (x:HOk P w H h)(k:∀ b u,h.get? b=some u->h'.get? b=some u)(hp:h.objs.size<=a)(new:cK P w (upd H a o) h' a o):HOk P w (upd H a o) h':=fun b u e=>by
 have hn:=x.fresh hp;by_cases hb:b=a
 · subst hb;rw[bC]at e;cases e;exact new
 · rw[aR hb]at e
   exact(x b u e).stay (fun c v _ q=>k c v q) (fun c q=>by rw[aR (bJ q hn)];exact q) fun c xs q=>by rw[aR (bJ q hn)];exact q
end
def Rd (H:Hp)(a:Addr)(u:HO):Prop:=H a=some u\/∃ o,H a=some (.frz o u)
theorem Rd.of {H:Hp}{a:Addr}{u:HO}(h:H a=some u):Rd H a u:=.inl h
theorem Rd.ok {P:Program}{w:World}{H:Hp}{h:Heap}{a:Addr}{u:HO}(r:Rd H a u)(x:HOk P w H h):cK P w H h a u:=by
 rcases r with r | ⟨o,r⟩
 · exact x a u r
 · obtain⟨_,q⟩:=x a _ r
   exact q
def Mut:Option HO->Prop
 | some (.lst _)=>True
 | some (.dK _)=>True
 | some (.dT _)=>True
 | some (.set _ _)=>True
 | some (.ins _ _ _)=>True
 | some (.ext _)=>True
 | _=>False
section
variable {P:Program}{w:World}{H:Hp}{h h':Heap}{x e:Addr}{o':HO}
theorem HOk.write (ok:HOk P w H h)(mu:Mut (H x))(he:e=x\/H e=some (.own x))(k:∀ b u,b≠e->h.get? b=some u->h'.get? b=some u)(heo:∃ u,h'.get? e=some u)
 (new:cK P w (upd H x o') h' x o'):HOk P w (upd H x o') h':=fun b u q=>by
 have nown:∀ c y,H c=some (.own y)->c≠x:=fun c y r z=>by subst z;rw[r]at mu;exact mu
 have ntup:∀ c xs,H c=some (.tup xs)->c≠x:=fun c xs r z=>by subst z;rw[r]at mu;exact mu
 by_cases hb:b=x
 · subst hb;rw[bC]at q;cases q;exact new
 · rw[aR hb]at q
   by_cases hbe:b=e
   · have q':H b=some (.own x):=by
      rcases he with z | z
      · exact absurd (hbe.trans z) hb
      · rw[hbe];exact z
     rw[q]at q';cases q';obtain⟨v,hv⟩:=heo;exact⟨v,by rw[hbe];exact hv⟩
   · refine(ok b u q).stay (fun c v hc r=>k c v ?_ r) (fun c r=>by rw[aR (nown c b r)];exact r) fun c xs r=>by rw[aR (ntup c xs r)];exact r
     rcases hc with rfl | hc
     · exact hbe
     · rintro rfl
       rcases he with z | z
       · exact nown c b hc z
       · rw[hc]at z;cases z;exact hb rfl
end
structure Un (fs ex:List Addr)(H H':Hp)(h h':Heap):Prop where
 keep:∀ b o,h.get? b=some o->H b=none->b∉fs->b∉ex->h'.get? b=some o
 slot:∀ b o,h.get? b=some o->H b=none->b∈fs->b∉ex->∃ sl,h'.get? b=some { o with slots:=sl }
 free:∀ b o,h.get? b=some o->H b=none->b∉ex->H' b=none
 there:∀ b o,h.get? b=some o->b∉ex->∃ o',h'.get? b=some o'
 tups:∀ b xs,H b=some (.tup xs)->H' b=some (.tup xs)
 frzs:∀ b o u,H b=some (.frz o u)->H' b=some (.frz o u)
 tbls:∀ b ps,H b=some (.tbl ps)->∃ more,H' b=some (.tbl (ps++more))
section
variable {fs fs' ex ex':List Addr}{H H1 H2:Hp}{h h1 h2 h':Heap}{a x e:Addr}{o:HO}
theorem Un.any (u:Un fs ex H H1 h h1){b:Addr}{ob:Obj}(q:h.get? b=some ob)(n:H b=none)(hx:b∉ex):∃ sl,h1.get? b=some { ob with slots:=sl }:=by
 by_cases hb:b∈fs
 · exact u.slot b ob q n hb hx
 · exact⟨ob.slots,u.keep b ob q n hb hx⟩
theorem Un.trans (a:Un fs ex H H1 h h1)(b:Un fs ex H1 H2 h1 h2):Un fs ex H H2 h h2 where
 keep:=fun c ob q n hc hx=>b.keep c ob (a.keep c ob q n hc hx) (a.free c ob q n hx) hc hx
 slot:=fun c ob q n hc hx=>by
  obtain⟨sl,e1⟩:=a.slot c ob q n hc hx;obtain⟨sl',e2⟩:=b.slot c _ e1 (a.free c ob q n hx) hc hx;exact⟨sl',e2⟩
 free:=fun c ob q n hx=>by
  obtain⟨o',e1⟩:=a.there c ob q hx;exact b.free c o' e1 (a.free c ob q n hx) hx
 there:=fun c ob q hx=>by
  obtain⟨o',e1⟩:=a.there c ob q hx;exact b.there c o' e1 hx
 tups:=fun c xs q=>b.tups c xs (a.tups c xs q)
 frzs:=fun c ob xs q=>b.frzs c ob xs (a.frzs c ob xs q)
 tbls:=fun c ps q=>by
  obtain⟨m1,e1⟩:=a.tbls c ps q;obtain⟨m2,e2⟩:=b.tbls c _ e1;exact⟨m1++m2,by rw[e2,Array.append_assoc]⟩
theorem Un.kept (k:∀ b u,h.get? b=some u->h'.get? b=some u):Un fs ex H H h h' :=
 ⟨fun b ob q _ _ _=>k b ob q,fun b ob q _ _ _=>⟨ob.slots,k b ob q⟩,fun _ _ _ n _=>n,fun b ob q _=>⟨ob,k b ob q⟩,fun _ _ q=>q,fun _ _ _ q=>q,fun _ ps q=>⟨#[],by rw[q];simp⟩⟩
theorem Un.refl:Un fs ex H H h h:=Un.kept fun _ _ q=>q
theorem Un.laid (k:∀ b u,h.get? b=some u->h'.get? b=some u)(hp:h.objs.size<=a)(hn:H a=none):Un fs ex H (upd H a o) h h' where
 keep:=fun b u q _ _ _=>k b u q
 slot:=fun b u q _ _ _=>⟨u.slots,k b u q⟩
 free:=fun b u q n _=>by rw[aR (Au (Ac (Ae q) hp))];exact n
 there:=fun b u q _=>⟨u,k b u q⟩
 tups:=fun b xs q=>by rw[aR (bJ q hn)];exact q
 frzs:=fun b u xs q=>by rw[aR (bJ q hn)];exact q
 tbls:=fun b ps q=>⟨#[],by rw[aR (bJ q hn),q];simp⟩
theorem Un.write (mu:Mut (H x))(he:e=x\/H e=some (.own x))(k:∀ b u,b≠e->h.get? b=some u->h'.get? b=some u)(heo:∃ u,h'.get? e=some u):Un fs ex H (upd H x o) h h':=by
 have hx:∀ b,H b=none->b≠x:=fun b n z=>by subst z;rw[n]at mu;exact mu
 have hb:∀ b,H b=none->b≠e:=fun b n z=>by
  subst z;rcases he with r | r
  · exact hx b n r
  · rw[n]at r;cases r
 have hm:∀ b u,H b=some u->¬ Mut (some u)->b≠x:=fun b u q nm z=>by subst z;rw[q]at mu;exact nm mu
 refine⟨fun b u q n _ _=>k b u (hb b n) q,fun b u q n _ _=>⟨u.slots,k b u (hb b n) q⟩,fun b u q n _=>by rw[aR (hx b n)];exact n,fun b u q _=>?_,
  fun b xs q=>by rw[aR (hm b _ q fun z=>z)];exact q,fun b u xs q=>by rw[aR (hm b _ q fun z=>z)];exact q,fun b ps q=>⟨#[],by rw[aR (hm b _ q fun z=>z),q];simp⟩⟩
 by_cases hbe:b=e
 · subst hbe;exact heo
 · exact⟨u,k b u hbe q⟩
end
def trk (h:Heap)(H:Hp):List Addr:=(Bj h.objs.size).filter fun a=>(H a).isSome
def rS (h:Heap)(H:Hp):Heap:=Ck h (trk h H)
theorem yM (h:Heap)(H:Hp):(rS h H).objs.size=h.objs.size:=PySem.W.hideAll_size _ _
theorem aBk {h:Heap}{H:Hp}{b:Addr}{o:Obj}(e:h.get? b=some o)(n:H b=none):(rS h H).get? b=some o :=
 Es _ e fun hm=>by
  have q:(H b).isSome=true:=(Dg.mp hm).2;rw[n]at q;simp at q
theorem aEt {h:Heap}{H:Hp}{b:Addr}{o:Obj}(e:(rS h H).get? b=some o):h.get? b=some o/\H b=none:=by
 have e':h.get? b=some o:=Ev (trk h H) e;refine⟨e',?_⟩
 cases q:H b with
 | none=>rfl
 | some x =>
  have hm:b∈trk h H:=Dg.mpr ⟨List.mem_range.mpr (Ae e'),by simp[q]⟩
  have z:(rS h H).get? b=none:=Ek (trk h H) hm;rw[z]at e;cases e
end L2
namespace L2
open PySem PySem.Spec PyProof.Rows
structure Mod (K:PySem.W.Frag)(mg:Str->Option Value)(base:Heap):Prop where
 kin:K.In base
 glob:base.Ns mainGlobals mg
 blt:∃ mb,base.Ns builtinsNs mb/\∀ x:Str,x ≠ "__name__"->mb x=bootBuiltins x
 nolimit:base.NoLimit
structure Cx where
 prog:Program
 w:World
 K:PySem.W.Frag
 mg:Str->Option Value
 base:Heap
 A:Around
 N:List Str
 s₀:Shared
 H₀:Hp
 env:Env
 outer:List Env
 stack:List Env
 ex:List Addr
 fn:Str->Bool
 calm:Bool
 pn:List (Addr×Obj)
 xe:Value->Shared->Prop
def frs (l:List Env):List Addr:=l.filterMap (·.frame)
abbrev Cx.fs (X:Cx):List Addr:=frs X.outer
def Vis (sc:Scope)(x:Str):Prop:=sc.names.lookup x=some .local\/sc.names.lookup x=some .cell\/sc.names.lookup x=some .free
def Loc (sc:Scope)(x:Str):Prop:=sc.names.lookup x=some .local\/sc.names.lookup x=some .cell
def aLd (env:Env)(h:Heap)(m:Str->Option Value)(x:Str)(u:Value):Prop :=
 (env.kindOf x=some .local/\m x=some u)\/((env.kindOf x=some .cell\/env.kindOf x=some .free)/\∃ c,env.cells.lookup x=some c/\h.IsCell c (some u))
structure Cx.Ok (X:Cx):Prop where
 mod:Mod X.K X.mg X.base
 kind:X.env.scope.kind=.function
 glob:X.env.globals=mainGlobals
 blt:X.env.builtins=builtinsNs
 above:X.s₀.heap.objs.size<=X.env.locals
 inj:∀ x y c,X.env.cells.lookup x=some c->X.env.cells.lookup y=some c->x=y
 has:∀ x,(X.env.kindOf x=some .cell\/X.env.kindOf x=some .free)->∃ c,X.env.cells.lookup x=some c
 cab:∀ x c,X.fn x=true->X.env.cells.lookup x=some c->X.s₀.heap.objs.size<=c
 hd:X.calm=true->X.A.handled=none
 frames:X.A.frames=some X.stack
 stk:X.stack=X.outer\/(X.stack=X.env :: X.outer/\X.env.frame=some X.env.locals)
 exf:∀ b∈X.ex,b≠X.env.locals/\∀ x c,X.env.cells.lookup x=some c->c≠b
 bs:∀ b o,X.base.get? b=some o->X.s₀.heap.get? b=some o/\X.H₀ b=none
 bsz:X.base.objs.size<=X.s₀.heap.objs.size
 noex:∀ b o,X.base.get? b=some o->b∉X.ex
 exfs:∀ b∈X.ex,b∉X.fs
 funs:X.s₀.heap.FunFrames X.base X.outer
 frf:∀ b∈X.fs,X.H₀ b=none
structure Inv (X:Cx)(pins:List (Addr×Obj))(σ:List (Option V))(H:Hp)(s:Shared):Prop where
 ok:X.Ok
 os:s.os=X.s₀.os
 bare:AllBare s.gens
 base:Un X.fs X.ex X.H₀ H X.s₀.heap s.heap
 loc:∃ m,s.heap.Ns X.env.locals m/\∀ (i:Nat) (x:Str) (v:V),X.N[i]?=some x->σ[i]?=some (some v)->Vis X.env.scope x->∃ u,bM v u/\aLd X.env s.heap m x u
 cell:∀ x c,X.env.cells.lookup x=some c->∃ v,s.heap.IsCell c v
 free:H X.env.locals=none
 freeC:∀ x c,X.env.cells.lookup x=some c->H c=none
 pin:∀ p∈X.pn++pins,s.heap.get? p.1=some p.2/\H p.1=none/\p.1≠X.env.locals/\p.1∉X.fs/\∀ v,p.2.data≠.cell v
 hok:HOk X.prog X.w H s.heap
 len:σ.length=X.N.length
section
variable {X:Cx}{pins:List (Addr×Obj)}{σ:List (Option V)}{H H':Hp}{s:Shared}{h':Heap}
theorem Cx.Ok.nofr (ok:X.Ok){b:Addr}{o:Obj}(e:X.base.get? b=some o):b∉X.fs:=fun hb=>by
 have:=(ok.funs.mem hb).1
 rw[e]at this;cases this
theorem Inv.bs (I:Inv X pins σ H s):∀ b o,X.base.get? b=some o->s.heap.get? b=some o/\H b=none:=fun b o e =>
 ⟨I.base.keep b o (I.ok.bs b o e).1 (I.ok.bs b o e).2 (I.ok.nofr e) (I.ok.noex b o e),I.base.free b o (I.ok.bs b o e).1 (I.ok.bs b o e).2 (I.ok.noex b o e)⟩
theorem Inv.bk (I:Inv X pins σ H s):∀ b o,X.base.get? b=some o->s.heap.get? b=some o:=fun b o e=>(I.bs b o e).1
theorem Inv.mod (I:Inv X pins σ H s):Mod X.K X.mg X.base:=I.ok.mod
theorem Inv.kIn (I:Inv X pins σ H s):X.K.In s.heap:=I.ok.mod.kin.keeps I.bk
theorem Inv.fr (I:Inv X pins σ H s):∃ m,Fr X.base X.env.locals s.heap m :=
 let ⟨m,hn,_⟩:=I.loc
 ⟨m,hn,I.bk,Bn I.ok.bsz I.ok.above⟩
theorem Inv.lt (I:Inv X pins σ H s):X.env.locals<s.heap.objs.size:=let ⟨_,hn,_⟩:=I.loc;hn.lt
theorem Inv.sz (I:Inv X pins σ H s):X.s₀.heap.objs.size<=s.heap.objs.size:=Bn I.ok.above (Fk I.lt)
theorem Inv.nofs (I:Inv X pins σ H s){a:Addr}(h:s.heap.objs.size<=a):a∉X.fs:=fun hb=>by
 obtain⟨_,o,ho,_⟩:=I.ok.funs.mem hb;exact absurd (Ac (Ae ho) (Bn I.sz h)) (Cy _)
theorem Inv.cne (I:Inv X pins σ H s):∀ x c,X.env.cells.lookup x=some c->c≠X.env.locals:=fun x c e z=>by
 obtain⟨v,o,ho,hd⟩:=I.cell x c e;obtain⟨m,⟨o',es,ep,ho',hd',_⟩,_⟩:=I.loc;rw[z,ho']at ho;cases ho;rw[hd']at hd;cases hd
theorem Inv.funs (I:Inv X pins σ H s):s.heap.FunFrames X.base X.outer:=by
 have all:∀ (l:List Env),(∀ b∈frs l,b∈X.fs)->X.s₀.heap.FunFrames X.base l->s.heap.FunFrames X.base l:=by
  intro l;induction l with
  | nil=>intro _ _;trivial
  | cons env r ih =>
   intro hs hl;obtain⟨hk,⟨L,o,hf,hn,ho,hd⟩,hr⟩:=hl;have hL:L∈X.fs:=hs L (by unfold frs;rw[Du,hf];exact Af)
   obtain⟨sl,e⟩:=I.base.slot L o ho (I.ok.frf L hL) hL fun z=>I.ok.exfs L z hL;exact⟨hk,⟨L,_,hf,hn,e,hd⟩,ih (fun b hb=>hs b (by unfold frs;rw[Du,hf];exact Ab _ hb)) hr⟩
 exact all X.outer (fun _ hb=>hb) I.ok.funs
theorem Inv.stack (I:Inv X pins σ H s):s.heap.FunFrames X.base X.stack:=by
 rcases I.ok.stk with e | ⟨e,hf⟩
 · rw[e];exact I.funs
 · rw[e]
   obtain⟨m,hn,_⟩:=I.loc;refine .cons (by rw[I.ok.kind];decide) hf hn ?_ I.funs
   exact El (Bn I.ok.bsz I.ok.above)
theorem Inv.stkSub (I:Inv X pins σ H s):∀ b∈frs X.stack,b∈X.env.locals :: X.fs:=fun b hb=>by
 rcases I.ok.stk with e | ⟨e,hf⟩
 · rw[e]at hb;exact Ab _ hb
 · rw[e]at hb
   unfold frs at hb;rw[Du,hf]at hb;exact hb
theorem Inv.stkFree (I:Inv X pins σ H s):∀ b∈frs X.stack,H b=none:=fun b hb=>by
 rcases Ad.mp (I.stkSub b hb) with e | hb
 · rw[e];exact I.free
 · obtain⟨_,o,ho,_⟩:=I.ok.funs.mem hb
   exact I.base.free b o ho (I.ok.frf b hb) fun z=>I.ok.exfs b z hb
theorem Inv.step {g':Array GenState}{t':Nat}{d':Drawn}{ch:List Addr}(I:Inv X pins σ H s)
 (hch:∀ b∈ch,(b∈X.ex\/X.s₀.heap.objs.size<=b)/\b≠X.env.locals/\(∀ x c,X.env.cells.lookup x=some c->c≠b)/\∀ p∈X.pn++pins,p.1≠b)
 (keep:∀ b o,b≠X.env.locals->b∉X.fs->b∉ch->s.heap.get? b=some o->H b=none->h'.get? b=some o)
 (slot:∀ b o,b≠X.env.locals->b∈X.fs->b∉ch->s.heap.get? b=some o->H b=none->∃ sl,h'.get? b=some { o with slots:=sl }) (free:∀ b o,b∉ch->s.heap.get? b=some o->H b=none->H' b=none)
 (there:∀ b o,b∉ch->s.heap.get? b=some o->∃ o',h'.get? b=some o')
 (tups:∀ b xs,H b=some (.tup xs)->H' b=some (.tup xs)) (frzs:∀ b o u,H b=some (.frz o u)->H' b=some (.frz o u)) (tbls:∀ b ps,H b=some (.tbl ps)->∃ more,H' b=some (.tbl (ps++more)))
 (ns:∀ m,s.heap.Ns X.env.locals m->h'.Ns X.env.locals m) (hok:HOk X.prog X.w H' h') (hg:AllBare g') :
 Inv X pins σ H' { s with heap:=h',gens:=g',drawn:=d',toks:=t' }:=by
 have neL:∀ b o,X.s₀.heap.get? b=some o->b≠X.env.locals:=fun b o e=>Au (Ac (Ae e) I.ok.above)
 have neC:∀ b o,X.s₀.heap.get? b=some o->b∉X.ex->b∉ch:=fun b o e hx hb=>by
  rcases (hch b hb).1 with z | z
  · exact hx z
  · exact absurd (Ac (Ae e) z) (Cy _)
 have cellK:∀ x c,X.env.cells.lookup x=some c->∀ v,s.heap.IsCell c v->h'.IsCell c v:=fun x c e v ⟨o,ho,hd⟩=>by
  have nch:c∉ch:=fun z=>(hch c z).2.2.1 x c e rfl;by_cases hc:c∈X.fs
  · obtain⟨sl,q⟩:=slot c o (I.cne x c e) hc nch ho (I.freeC x c e)
    exact⟨_,q,hd⟩
  · exact⟨o,keep c o (I.cne x c e) hc nch ho (I.freeC x c e),hd⟩
 refine⟨I.ok,I.os,hg,⟨fun b o e n hb hx=>?_,fun b o e n hb hx=>?_,fun b o e n hx=>?_,fun b o e hx=>?_,fun b xs e=>tups b xs (I.base.tups b xs e),fun b o xs e=>frzs b o xs (I.base.frzs b o xs e),fun b ps e=>?_⟩,?_,fun x c e=>?_,?_,fun x c e=>?_,fun p hp=>?_,hok,I.len⟩
 · exact keep b o (neL b o e) hb (neC b o e hx) (I.base.keep b o e n hb hx) (I.base.free b o e n hx)
 · obtain⟨sl,e1⟩:=I.base.slot b o e n hb hx
   obtain⟨sl',e2⟩:=slot b _ (neL b o e) hb (neC b o e hx) e1 (I.base.free b o e n hx);exact⟨sl',e2⟩
 · obtain⟨o',e1⟩:=I.base.there b o e hx
   exact free b o' (neC b o e hx) e1 (I.base.free b o e n hx)
 · obtain⟨o',e1⟩:=I.base.there b o e hx
   exact there b o' (neC b o e hx) e1
 · obtain⟨m1,e1⟩:=I.base.tbls b ps e
   obtain⟨m2,e2⟩:=tbls b _ e1;exact⟨m1++m2,by rw[e2,Array.append_assoc]⟩
 · obtain⟨m,hn,hl⟩:=I.loc
   refine⟨m,ns m hn,fun i x v e1 e2 e3=>?_⟩
   obtain⟨u,r,l⟩:=hl i x v e1 e2 e3;refine⟨u,r,?_⟩
   rcases l with l | ⟨k,c,e,z⟩
   · exact .inl l
   · exact .inr ⟨k,c,e,cellK x c e _ z⟩
 · obtain⟨v,z⟩:=I.cell x c e
   exact⟨v,cellK x c e v z⟩
 · obtain⟨m,⟨o,_,_,ho,_⟩,_⟩:=I.loc
   exact free _ o (fun z=>(hch _ z).2.1 rfl) ho I.free
 · obtain⟨v,o,ho,hd⟩:=I.cell x c e
   exact free c o (fun z=>(hch c z).2.2.1 x c e rfl) ho (I.freeC x c e)
 · obtain⟨e,n,ne,nf,d⟩:=I.pin p hp
   have nch:p.1∉ch:=fun z=>(hch p.1 z).2.2.2 p hp rfl;exact⟨keep p.1 p.2 ne nf nch e n,free p.1 p.2 nch e n,ne,nf,d⟩
theorem Inv.un {t':Nat}(I:Inv X pins σ H s)(u:Un X.fs [] H H' s.heap h')(hok:HOk X.prog X.w H' h'):Inv X pins σ H' { s with heap:=h',toks:=t' }:=by
 obtain⟨m,⟨o,es,ep,ho,r⟩,_⟩:=id I.loc;obtain⟨sl,hL⟩:=u.any ho I.free (by simp)
 exact I.step (g':=s.gens) (d':=s.drawn) (ch:=[]) (fun _ z=>nomatch z) (fun b o _ hb _ e n=>u.keep b o e n hb (by simp)) (fun b o _ hb _ e n=>u.slot b o e n hb (by simp)) (fun b o _ e n=>u.free b o e n (by simp)) (fun b o _ e=>u.there b o e (by simp)) u.tups u.frzs u.tbls (fun m' hm=>by
  obtain⟨o',es',ep',ho',r'⟩:=hm;rw[ho]at ho';cases ho'
  exact⟨_,es',ep',hL,r'⟩) hok I.bare
theorem Inv.call {g':Array GenState}{t':Nat}{d':Drawn}{ch:List Addr}(I:Inv X pins σ H s)(u:Un (frs X.stack) ch H H' s.heap h')(hok:HOk X.prog X.w H' h')(hg:AllBare g')
 (hch:∀ b∈ch,(b∈X.ex\/X.s₀.heap.objs.size<=b)/\b≠X.env.locals/\(∀ x c,X.env.cells.lookup x=some c->c≠b)/\∀ p∈X.pn++pins,p.1≠b) :
 Inv X pins σ H' { s with heap:=h',gens:=g',drawn:=d',toks:=t' }:=by
 obtain⟨m,⟨o,es,ep,ho,r⟩,_⟩:=id I.loc;obtain⟨sl,hL⟩:=u.any ho I.free fun z=>(hch _ z).2.1 rfl
 exact I.step (ch:=ch) hch (fun b o hL hb hc e n=>u.keep b o e n (fun z=>(Ad.mp (I.stkSub b z)).elim hL hb) hc) (fun b o _ _ hc e n=>u.any e n hc) (fun b o hc e n=>u.free b o e n hc) (fun b o hc e=>u.there b o e hc) u.tups u.frzs u.tbls (fun m' hm=>by
  obtain⟨o',es',ep',ho',r'⟩:=hm;rw[ho]at ho';cases ho'
  exact⟨_,es',ep',hL,r'⟩) hok hg
theorem Inv.turned {t':Nat}{it:Addr}(I:Inv X pins σ H s)(k:∀ b o,b≠it->s.heap.get? b=some o->h'.get? b=some o)(hn:H it=none)(hL:it≠X.env.locals)
 (h1:it∈X.ex\/X.s₀.heap.objs.size<=it) (h2:∀ x c,X.env.cells.lookup x=some c->c≠it) (h3:∀ p∈X.pn++pins,p.1≠it):Inv X pins σ H { s with heap:=h',toks:=t' }:=by
 have nit:∀ b u,H b=some u->b≠it:=fun b u e z=>by rw[z,hn]at e;cases e
 refine I.step (g':=s.gens) (d':=s.drawn) (ch:=[it]) (fun b hb=>?_) (fun b o _ _ hc e _=>k b o (fun z=>hc (by simp[z])) e) (fun b o _ _ hc e _=>⟨o.slots,k b o (fun z=>hc (by simp[z])) e⟩) (fun _ _ _ _ n=>n)
  (fun b o hc e=>⟨o,k b o (fun z=>hc (by simp[z])) e⟩) (fun _ _ e=>e) (fun _ _ _ e=>e) (fun b ps e=>⟨#[],by rw[e];simp⟩) (fun m hm=>?_) (fun b u e=>?_) I.bare
 · have e:b=it:=by simpa using hb
   subst e;exact⟨h1,hL,h2,h3⟩
 · obtain⟨o,es,ep,ho,r⟩:=hm
   exact⟨o,es,ep,k _ o (Ne.symm hL) ho,r⟩
 · refine(I.hok b u e).stay (fun c v hc q=>k c v ?_ q) (fun _ q=>q) fun _ _ q=>q
   rcases hc with z | z
   · rw[z];exact nit b u e
   · exact nit c _ z
theorem Inv.tok (I:Inv X pins σ H s)(t:Nat):Inv X pins σ H { s with toks:=t }:=I.un (h':=s.heap) (t':=t) Un.refl I.hok
theorem Inv.kept {t':Nat}(I:Inv X pins σ H s)(k:∀ b u,s.heap.get? b=some u->h'.get? b=some u):Inv X pins σ H { s with heap:=h',toks:=t' }:=I.un (Un.kept k) (I.hok.kept k)
theorem Inv.laid {a:Addr}{o:HO}{t':Nat}(I:Inv X pins σ H s)(k:∀ b u,s.heap.get? b=some u->h'.get? b=some u)(hp:s.heap.objs.size<=a)(new:cK X.prog X.w (upd H a o) h' a o) :
 Inv X pins σ (upd H a o) { s with heap:=h',toks:=t' }:=I.un (Un.laid k hp (I.hok.fresh hp)) (I.hok.laid k hp new)
theorem Inv.write {x e:Addr}{o:HO}{t':Nat}(I:Inv X pins σ H s)(mu:Mut (H x))(he:e=x\/H e=some (.own x))(k:∀ b u,b≠e->s.heap.get? b=some u->h'.get? b=some u)(heo:∃ u,h'.get? e=some u)
 (new:cK X.prog X.w (upd H x o) h' x o):Inv X pins σ (upd H x o) { s with heap:=h',toks:=t' }:=I.un (Un.write mu he k heo) (I.hok.write mu he k heo new)
theorem Inv.weak {σ':List (Option V)}(I:Inv X pins σ H s)(hl:σ'.length=σ.length)(w:∀ (i:Nat) v,σ'[i]?=some (some v)->σ[i]?=some (some v)):Inv X pins σ' H s :=
 ⟨I.ok,I.os,I.bare,I.base,let ⟨m,hn,hl'⟩:=I.loc;⟨m,hn,fun i x v e1 e2 e3=>hl' i x v e1 (w i v e2) e3⟩,I.cell,I.free,I.freeC,I.pin,I.hok,hl.trans I.len⟩
theorem Inv.pins_of {pins':List (Addr×Obj)}(I:Inv X pins σ H s)(h:∀ p∈pins',s.heap.get? p.1=some p.2/\H p.1=none/\p.1≠X.env.locals/\p.1∉X.fs/\∀ v,p.2.data≠.cell v):Inv X pins' σ H s :=
 ⟨I.ok,I.os,I.bare,I.base,I.loc,I.cell,I.free,I.freeC,fun p hp=>(Bg.mp hp).elim (fun z=>I.pin p (Do _ z)) (h p),I.hok,I.len⟩
theorem sO {N:List Str}(hN:N.Nodup){i j:Nat}{x:Str}(a:N[i]?=some x)(b:N[j]?=some x):i=j:=by
 obtain⟨h1,e1⟩:=Ao.mp a;obtain⟨h2,e2⟩:=Ao.mp b;exact(List.getElem_inj hN).mp (e1.trans e2.symm)
theorem yK {M:Model}{A:Around}{E:Value->Shared->Prop}{i:Nat}{x:Str}{v:V}{u:Value}{Q:Unit->Shared->Prop}(I:Inv X pins σ H s)(hN:X.N.Nodup)(hi:X.N[i]?=some x)(hx:Loc X.env.scope x)(r:bM v u)
 (h:∀ s',Inv X pins (σ.set i (some v)) H s'->(∃ a,Heap.SameBut a s.heap s'.heap/\(a=X.env.locals\/X.env.cells.lookup x=some a))->Q () s') (hf:X.fn x=true\/X.env.scope.names.lookup x=some .local:=by first | exact .inl rfl | exact .inr rfl | assumption):wpAny M A (storeName X.env x u) Q E s:=by
 obtain⟨m,hn,hl⟩:=id I.loc;have hcls:(X.env.scope.kind==.class||(X.env.scope.kind==.module&&X.env.locals != X.env.globals))=false:=by rw[I.ok.kind];rfl
 have hiσ:i<σ.length:=by rw[I.len];exact(Ao.mp hi).1
 have cne:=I.cne
 have tracked:∀ {a:Addr} {h':Heap},(∃ o,s.heap.get? a=some o/\H a=none)->Heap.SameBut a s.heap h'->HOk X.prog X.w H h':=fun {a h'} ha hs b ob e=>by
  obtain⟨_,_,hfree⟩:=ha;refine(I.hok b ob e).stay (fun c w' hc q=>(hs.2 c ?_).trans q) (fun _ q=>q) fun _ _ q=>q
  rintro rfl
  rcases hc with rfl | hc
  · rw[hfree]at e;cases e
  · rw[hfree]at hc;cases hc
 rcases hx with hk | hk
 · refine wpAny_storeName_local hk hn (fun h' hn' hs=>?_) hcls
   obtain⟨oL,_,_,hoL,_⟩:=id hn;refine h _ ⟨I.ok,I.os,I.bare,⟨fun b o e n hb hx=>?_,fun b o e n hb hx=>?_,I.base.free,fun b o e hx=>?_,I.base.tups,I.base.frzs,I.base.tbls⟩,⟨_,hn',fun j y v' e1 e2 e3=>?_⟩,fun y c e=>?_,I.free,I.freeC,fun p hp=>?_,tracked ⟨oL,hoL,I.free⟩ hs,by simpa using I.len⟩ ⟨_,hs,.inl rfl⟩
   · exact(hs.2 b (Au (Ac (Ae e) I.ok.above))).trans (I.base.keep b o e n hb hx)
   · obtain⟨sl,e1⟩:=I.base.slot b o e n hb hx
     exact⟨sl,(hs.2 b (Au (Ac (Ae e) I.ok.above))).trans e1⟩
   · obtain⟨o',e1⟩:=I.base.there b o e hx
     exact⟨o',(hs.2 b (Au (Ac (Ae e) I.ok.above))).trans e1⟩
   · by_cases hj:j=i
     · subst hj
       rw[hi]at e1;cases e1;rw[Al hiσ]at e2;cases e2;exact⟨u,r,.inl ⟨hk,by simp⟩⟩
     · rw[Ai (Ne.symm hj)]at e2
       obtain⟨u',r',q⟩:=hl j y v' e1 e2 e3;refine⟨u',r',?_⟩
       rcases q with ⟨k,e⟩ | ⟨k,c,e,z⟩
       · refine .inl ⟨k,?_⟩
         have:y≠x:=fun e=>hj (sO hN e1 (e▸hi))
         simp[this,e]
       · exact .inr ⟨k,c,e,z.sameBut hs (cne y c e)⟩
   · obtain⟨w',z⟩:=I.cell y c e
     exact⟨w',z.sameBut hs (cne y c e)⟩
   · obtain⟨e,n,ne,nf,d⟩:=I.pin p hp
     exact⟨(hs.2 p.1 ne).trans e,n,ne,nf,d⟩
 · have hfn:X.fn x=true:=by
    rcases hf with z | z
    · exact z
    · rw[z]at hk;cases hk
   obtain⟨c,hc⟩:=I.ok.has x (.inl hk);obtain⟨w',z⟩:=I.cell x c hc;refine wpAny_storeName_cell I.ok.kind hk hc z (fun h' hc' hs=>?_)
   obtain⟨oc,hoc,hocd⟩:=id z;refine h { s with heap:=h' } ⟨I.ok,I.os,I.bare,⟨fun b o e n hb hx=>?_,fun b o e n hb hx=>?_,I.base.free,fun b o e hx=>?_,I.base.tups,I.base.frzs,I.base.tbls⟩,⟨m,hn.sameBut hs (Ne.symm (cne x c hc)),fun j y v' e1 e2 e3=>?_⟩,fun y c' e=>?_,I.free,I.freeC,fun p hp=>?_,tracked ⟨oc,hoc,I.freeC x c hc⟩ hs,by simpa using I.len⟩ ⟨c,hs,.inr hc⟩
   · exact(hs.2 b (Au (Ac (Ae e) (I.ok.cab x c hfn hc)))).trans (I.base.keep b o e n hb hx)
   · obtain⟨sl,e1⟩:=I.base.slot b o e n hb hx
     exact⟨sl,(hs.2 b (Au (Ac (Ae e) (I.ok.cab x c hfn hc)))).trans e1⟩
   · obtain⟨o',e1⟩:=I.base.there b o e hx
     exact⟨o',(hs.2 b (Au (Ac (Ae e) (I.ok.cab x c hfn hc)))).trans e1⟩
   · by_cases hj:j=i
     · subst hj
       rw[hi]at e1;cases e1;rw[Al hiσ]at e2;cases e2;exact⟨u,r,.inr ⟨.inl hk,c,hc,hc'⟩⟩
     · rw[Ai (Ne.symm hj)]at e2
       obtain⟨u',r',q⟩:=hl j y v' e1 e2 e3;refine⟨u',r',?_⟩
       rcases q with q | ⟨k,c',e,z'⟩
       · exact .inl q
       · refine .inr ⟨k,c',e,z'.sameBut hs ?_⟩
         rintro rfl
         exact hj (sO hN e1 (I.ok.inj _ _ _ e hc▸hi))
   · by_cases hcc:c'=c
     · subst hcc;exact⟨_,hc'⟩
     · obtain⟨w2,z2⟩:=I.cell y c' e
       exact⟨w2,z2.sameBut hs hcc⟩
   · obtain⟨e,n,ne,nf,d⟩:=I.pin p hp
     refine⟨(hs.2 p.1 ?_).trans e,n,ne,nf,d⟩
     intro q;rw[q,hoc]at e;have q':oc=p.2:=Ca.inj e;exact d w' (by rw[←q'];exact hocd)
theorem gV {M:Model}{A:Around}{E:Value->Shared->Prop}{i:Nat}{x:Str}{v:V}{u:Value}{Q:Unit->Shared->Prop}(I:Inv X pins σ H s)(hN:X.N.Nodup)(hi:X.N[i]?=some x)(hx:Loc X.env.scope x)(r:bM v u)
 (h:∀ s',Inv X pins (σ.set i (some v)) H s'->Q () s') (hf:X.fn x=true\/X.env.scope.names.lookup x=some .local:=by first | exact .inl rfl | exact .inr rfl | assumption):wpAny M A (storeName X.env x u) Q E s :=
 yK I hN hi hx r (fun s' I' _=>h s' I') hf
theorem Inv.call' {s':Shared}{ch:List Addr}(I:Inv X pins σ H s)(ho:s'.os=s.os)(u:Un (frs X.stack) ch H H' s.heap s'.heap)(hok:HOk X.prog X.w H' s'.heap)(hg:AllBare s'.gens)
 (hch:∀ b∈ch,(b∈X.ex\/X.s₀.heap.objs.size<=b)/\b≠X.env.locals/\(∀ x c,X.env.cells.lookup x=some c->c≠b)/\∀ p∈X.pn++pins,p.1≠b):Inv X pins σ H' s':=by
 obtain⟨h',g',d',t',o'⟩:=s';have e:o'=s.os:=ho;subst e;exact I.call (g':=g') (t':=t') (d':=d') u hok hg hch
end
abbrev XK:=Value->Option Addr->Hp->Prop
abbrev St:=List (Option V)
abbrev VK:=V->Hp->Prop
abbrev TE:=St->Hp->VK->Prop
abbrev TT:=St->Hp->(Bool->Hp->Prop)->Prop
abbrev TA:=St->Hp->(List V->Hp->Prop)->Prop
structure Ends where
 nx:St->Hp->Prop
 rt:VK
 bk:St->Hp->Prop:=fun _ _=>False
 ct:St->Hp->Prop:=fun _ _=>False
abbrev TS:=Ends->St->Hp->Prop
def EP (X:Cx)(pins:List (Addr×Obj))(σ:St)(Q:VK)(u:Value)(s':Shared):Prop:=∃ v H',Inv X pins σ H' s'/\bM v u/\Q v H'
def TP (X:Cx)(pins:List (Addr×Obj))(σ:St)(Q:Bool->Hp->Prop)(b:Bool)(s':Shared):Prop:=∃ H',Inv X pins σ H' s'/\Q b H'
def AP (X:Cx)(pins:List (Addr×Obj))(σ:St)(Q:List V->Hp->Prop)(us:List Value)(s':Shared):Prop:=∃ vs H',Inv X pins σ H' s'/\bH vs us/\Q vs H'
def SP (X:Cx)(pins:List (Addr×Obj))(D:Ends)(f:Flow)(s':Shared):Prop :=
 match f with
 | .next=>∃ σ' H',Inv X pins σ' H' s'/\D.nx σ' H'
 | .brk=>∃ σ' H',Inv X pins σ' H' s'/\D.bk σ' H'
 | .cont=>∃ σ' H',Inv X pins σ' H' s'/\D.ct σ' H'
 | .ret u=>∃ v σ' H',Inv X pins σ' H' s'/\bM v u/\D.rt v H'
def PE (X:Cx)(e:Expr)(t:TE):Prop :=
 ∀ (pins:List (Addr×Obj)) (s:Shared) (σ:St) (H:Hp) (Q:VK),Inv X pins σ H s->t σ H Q->wpAny (model X.prog X.w) X.A (eval e X.env) (EP X pins σ Q) X.xe s
def PT (X:Cx)(e:Expr)(t:TT):Prop :=
 ∀ (pins:List (Addr×Obj)) (s:Shared) (σ:St) (H:Hp) (Q:Bool->Hp->Prop),Inv X pins σ H s->t σ H Q->wpAny (model X.prog X.w) X.A (isTrue e X.env (eval e X.env)) (TP X pins σ Q) X.xe s
def PW (X:Cx)(e:Expr)(t:TT):Prop :=
 ∀ (whole:Sem Value) (pins:List (Addr×Obj)) (s:Shared) (σ:St) (H:Hp) (Q:Bool->Hp->Prop),Inv X pins σ H s->t σ H Q->wpAny (model X.prog X.w) X.A (isTrue e X.env whole) (TP X pins σ Q) X.xe s
theorem PW.pt {X:Cx}{e:Expr}{t:TT}(h:PW X e t):PT X e t:=h _
def PA (X:Cx)(es:List Expr)(t:TA):Prop :=
 ∀ (pos:Pos) (pins:List (Addr×Obj)) (s:Shared) (σ:St) (H:Hp) (Q:List V->Hp->Prop),Inv X pins σ H s->t σ H Q->wpAny (model X.prog X.w) X.A (spliced (backTo pos (starEach es X.env))) (AP X pins σ Q) X.xe s
def PS (X:Cx)(st:Stmt)(t:TS):Prop :=
 ∀ (pins:List (Addr×Obj)) (s:Shared) (σ:St) (H:Hp) (D:Ends),Inv X pins σ H s->t D σ H->wpAny (model X.prog X.w) X.A (exec st X.env) (SP X pins D) X.xe s
def PSs (X:Cx)(st:List Stmt)(t:TS):Prop :=
 ∀ (pins:List (Addr×Obj)) (s:Shared) (σ:St) (H:Hp) (D:Ends),Inv X pins σ H s->t D σ H->wpAny (model X.prog X.w) X.A (execs st X.env) (SP X pins D) X.xe s
theorem thn {α:Type}{t:Sem α}{Q Q':α->Shared->Prop}{M:Model}{A:Around}{E:Value->Shared->Prop}{s:Shared}(h:wpAny M A t Q E s)(hQ:∀ a s,Q a s->Q' a s):wpAny M A t Q' E s:=wpAny_mono h hQ fun _ _ x=>x
end L2
namespace L2
open PySem PySem.Spec PyProof.Rows
section
variable {X:Cx}
theorem bin {a b:Expr}{ta tb:TE}(ha:PE X a ta)(hb:PE X b tb){pins:List (Addr×Obj)}{s:Shared}{σ:St}{H:Hp}{R:V->V->Hp->Prop}(I:Inv X pins σ H s)(h:ta σ H fun x H1=>tb σ H1 fun y H2=>R x y H2)
 {α:Type} {Q:α->Shared->Prop} {f:Value->Value->Sem α}
 (hf:∀ v u s2 x y H2,Inv X pins σ H2 s2->bM x v->bM y u->R x y H2->wpAny (model X.prog X.w) X.A (f v u) Q X.xe s2) :
 wpAny (model X.prog X.w) X.A (eval a X.env) (fun v s₁=>wpAny (model X.prog X.w) X.A (eval b X.env) (fun u s₂=>wpAny (model X.prog X.w) X.A (f v u) Q X.xe s₂) X.xe s₁) X.xe s:=by
 refine thn (ha pins s σ H _ I h) fun v s1 ⟨x,H1,I1,r1,q1⟩=>?_
 refine thn (hb pins s1 σ H1 _ I1 q1) fun u s2 ⟨y,H2,I2,r2,q2⟩=>?_
 exact hf v u s2 x y H2 I2 r1 r2 q2
def nH (i:Nat):TE:=fun σ H Q=>∃ v,σ[i]?=some (some v)/\Q v H
def tC (v:V):TE:=fun _ H Q=>Q v H
theorem lL {i:Nat}{x:Str}{pos:Pos}(hN:X.N[i]?=some x)(hv:Vis X.env.scope x)(hd:(x==("__debug__":Str))=false:=by decide)(hcd:(x==("__classdict__":Str))=false:=by decide):PE X (.Name x pos) (nH i):=by
 intro pins s σ H Q I h;obtain⟨v,e,h⟩:=h;obtain⟨m,hn,hl⟩:=I.loc;obtain⟨u,r,l⟩:=hl i x v hN e hv;have fin:EP X pins σ Q u s:=⟨v,H,I,r,h⟩;rcases l with ⟨hk,hm⟩ | ⟨hk,c,hc,hcell⟩
 · exact wpAny_Name (wpAny_loadName_local I.ok.kind hk hn hm fin) hd
 · rcases hk with hk | hk
   · exact wpAny_Name (wpAny_loadName_cell I.ok.kind hk hc hcell fin) hd
   · exact wpAny_Name (wpAny_loadName_free I.ok.kind hk hc hcell fin hcd) hd
theorem aGh {i j pos}:PE X (.Constant (.int i) j pos) (tC (.int i)):=fun _ _ _ H _ I h=>wpAny_Constant_int ⟨.int i,H,I.tok _,⟨_,rfl⟩,h⟩
theorem aJc {b j pos}:PE X (.Constant (.bool b) j pos) (tC (.bl b)):=fun _ _ _ H _ I h=>Constant_bool ⟨.bl b,H,I,rfl,h⟩
theorem aG8 {j pos}:PE X (.Constant .none j pos) (tC .non):=fun _ _ _ H _ I h=>Constant_none ⟨.non,H,I,rfl,h⟩
theorem aH4 {x j pos}:PE X (.Constant (.str x) j pos) (tC (.str x)):=fun _ _ _ H _ I h=>Calls.Constant_str ⟨.str x,H,I.tok _,⟨_,rfl⟩,h⟩
def Gl (X:Cx)(x:Str):Prop:=X.env.kindOf x=some .globalImplicit
theorem hV {E:Value->Shared->Prop}{pins:List (Addr×Obj)}{s:Shared}{σ:St}{H:Hp}{x:Str}{u:Value}{pos:Pos}{Q:Value->Shared->Prop}(I:Inv X pins σ H s)(hg:Gl X x)(hm:X.mg x=some u)(h:Q u s)
 (hd:(x==("__debug__":Str))=false:=by decide):wpAny (model X.prog X.w) X.A (eval (.Name x pos) X.env) Q E s :=
 Calls.Name_function_global I.ok.kind hg (Calls.loadGlobal_global (by rw[I.ok.glob];exact I.mod.glob.keeps I.bk) hm h) hd
theorem iO {E:Value->Shared->Prop}{pins:List (Addr×Obj)}{s:Shared}{σ:St}{H:Hp}{x:Str}{u:Value}{pos:Pos}{Q:Value->Shared->Prop}(I:Inv X pins σ H s)(hg:Gl X x)(hm:X.mg x=none)(hv:bootBuiltins x=some u)(h:Q u s)
 (hn:x ≠ "__name__":=by decide) (hd:(x==("__debug__":Str))=false:=by decide):wpAny (model X.prog X.w) X.A (eval (.Name x pos) X.env) Q E s:=by
 obtain⟨mb,h1,h2⟩:=I.mod.blt;exact Calls.Name_function_global I.ok.kind hg (Calls.loadGlobal_builtin (by rw[I.ok.glob];exact I.mod.glob.keeps I.bk) hm (by rw[I.ok.blt];exact h1.keeps I.bk) ((h2 x hn).trans hv) h) hd
theorem cR {x:Str}{v:V}{u:Value}{pos:Pos}(hg:Gl X x)(hm:X.mg x=some u)(r:bM v u)(hd:(x==("__debug__":Str))=false:=by decide):PE X (.Name x pos) (tC v) :=
 fun _ _ _ H _ I h=>hV I hg hm ⟨v,H,I,r,h⟩ hd
theorem xS {x:Str}{v:V}{u:Value}{pos:Pos}(hg:Gl X x)(hm:X.mg x=none)(hv:bootBuiltins x=some u)(r:bM v u)(hn:x ≠ "__name__":=by decide)(hd:(x==("__debug__":Str))=false:=by decide):PE X (.Name x pos) (tC v) :=
 fun _ _ _ H _ I h=>iO I hg hm hv ⟨v,H,I,r,h⟩ hn hd
variable {a b:Expr}{ta tb:TE}{pos:Pos}
def PC (X:Cx)(op:CmpOp)(a b:Expr)(t:TE):Prop :=
 ∀ (pins:List (Addr×Obj)) (s:Shared) (σ:St) (H:Hp) (Q:VK),Inv X pins σ H s->t σ H Q ->
  wpAny (model X.prog X.w) X.A (eval a X.env) (fun v s₁=>wpAny (model X.prog X.w) X.A (eval b X.env) (fun u s₂=>wpAny (model X.prog X.w) X.A (compareOp op v u) (EP X pins σ Q) X.xe s₂) X.xe s₁) X.xe s
theorem aBz (b:Expr){op:CmpOp}(h:op≠.In)(h2:op≠.NotIn):behindInMarks op b=false:=by
 have e1:(op==CmpOp.In)=false:=by cases op<;>first | rfl | exact absurd rfl h
 have e2:(op==CmpOp.NotIn)=false:=by cases op<;>first | rfl | exact absurd rfl h2
 cases b<;>simp[behindInMarks,e1,e2]
def aKn (ta:TE):TE:=fun σ H Q=>ta σ H fun x H1=>Q (.bl (decide (x=.non))) H1
theorem bM.none_iff {x:V}{v:Value}(r:bM x v):(v==Value.none)=decide (x=.non):=by
 cases x with
 | non=>cases r;rfl
 | bl _=>cases r;rfl
 | int _=>obtain⟨t,rfl⟩:=r;rfl
 | str _=>obtain⟨t,rfl⟩:=r;rfl
 | byt _=>obtain⟨t,rfl⟩:=r;rfl
 | flt _=>obtain⟨t,rfl⟩:=r;rfl
 | ref _=>cases r;rfl
 | ty _=>cases r;rfl
theorem aG0 {j pos'}(ha:PE X a ta):PC X .Is a (.Constant .none j pos') (aKn ta):=by
 intro pins s σ H Q I h;refine thn (ha pins s σ H _ I h) fun v s1 ⟨x,H1,I1,r1,q1⟩=>?_
 exact Constant_none (is_none_gen ⟨.bl _,H1,I1,by rw[r1.none_iff];rfl,q1⟩)
def tB (t:TE):TT:=fun σ H Q=>t σ H fun x H1=>∃ c,x=.bl c/\Q c H1
theorem aHv {op:CmpOp}{t:TE}(h:PC X op a b t)(h1:behindInMarks op b=false:=by first | exact aBz _ (by decide) (by decide) | rfl):PT X (.Compare a [op] [b] pos) (tB t):=by
 intro pins s σ H Q I hw;refine wpAny_isTrue_Compare1 (thn (h pins s σ H _ I hw) fun v s1 h1=>thn h1 fun u s2 h2=>thn h2 fun c s3 ⟨x,H1,I1,r1,q1⟩=>?_) h1
 obtain⟨d,rfl,q⟩:=q1;cases r1;exact wpAny_truthy_bool ⟨H1,I1,q⟩
theorem aGi {e:Expr}{t:TE}(h:PE X e t)(he:∀ whole,isTrue e X.env whole=(do let v ← whole;standAt e.pos;holding [v] (truthy v)):=by intro _;rfl):PT X e (tB t):=by
 intro pins s σ H Q I hw;refine isTrue_plain (thn (h pins s σ H _ I hw) fun v s1 ⟨x,H1,I1,r1,q1⟩=>?_) (he _)
 obtain⟨d,rfl,q⟩:=q1;cases r1;exact wpAny_truthy_bool ⟨H1,I1,q⟩
variable {tA tB':TT}{rest:List Expr}
def tOr (t u:TT):TT:=fun σ H Q=>t σ H fun c H1=>if c=true then Q true H1 else u σ H1 Q
def aLr (t:TT):TT:=fun σ H Q=>t σ H fun c H1=>Q (!c) H1
theorem aHu (ha:PT X a tA):PW X (.BoolOp .Or [a] pos) tA:=by
 intro wh pins s σ H Q I h;refine isTrue_or (thn (ha pins s σ H Q I h) fun c s1 e=>?_)
 cases c with
 | false=>exact isTrue_or_nil e
 | true=>exact e
theorem aKo (ha:PT X a tA)(hb:PW X (.BoolOp .Or (b :: rest) pos) tB'):PW X (.BoolOp .Or (a :: b :: rest) pos) (tOr tA tB'):=by
 intro wh pins s σ H Q I h;refine isTrue_or (thn (ha pins s σ H _ I h) fun c s1 ⟨H1,I1,q1⟩=>?_)
 cases c with
 | true=>exact⟨H1,I1,q1⟩
 | false=>exact hb wh pins s1 σ H1 Q I1 q1
theorem aH8 (ha:PT X a tA):PT X (.UnaryOp .Not a pos) (aLr tA):=by
 intro pins s σ H Q I h;exact isTrue_not (ha pins s σ H (fun c H1=>Q (!c) H1) I h)
def tIf (t:TT)(ta tb:TE):TE:=fun σ H Q=>t σ H fun c H1=>if c=true then ta σ H1 Q else tb σ H1 Q
theorem aCq {c:Expr}(hc:PT X c tA)(ha:PE X a ta)(hb:PE X b tb):PE X (.IfExp c a b pos) (tIf tA ta tb):=by
 intro pins s σ H Q I h;refine wpAny_IfExp (thn (hc pins s σ H _ I h) fun d s1 ⟨H1,I1,q1⟩=>?_)
 cases d with
 | true=>exact ha pins s1 σ H1 Q I1 q1
 | false=>exact hb pins s1 σ H1 Q I1 q1
end
end L2
namespace L2
open PySem PySem.Spec PyProof.Rows
def SqL (K:PySem.W.Frag)(H:Hp)(a:Addr)(xs:List V):Prop :=
 Rd H a (.lst xs) \/
  ∃ (o:Obj) (its:Array Value) (n:Nat),K.lookup a=some o/\o.cls=.type "list"/\o.dict=none/\o.data=.seq its n/\its.size<=sizeLine/\bH xs its.toList
def SqT (K:PySem.W.Frag)(H:Hp)(a:Addr)(xs:List V):Prop :=
 Rd H a (.tup xs) \/
  ∃ (o:Obj) (its:Array Value) (n:Nat),K.lookup a=some o/\o.cls=.type "tuple"/\o.data=.seq its n/\its.size<=sizeLine/\bH xs its.toList
def aL2:Value->Option V
 | .none=>some .non
 | .bool b=>some (.bl b)
 | .int i _=>some (.int i)
 | .str x _=>some (.str x)
 | .bytes b _=>some (.byt b)
 | .float b _=>some (.flt b)
 | .ref a=>some (.ref a)
 | .type n=>some (.ty n)
 | _=>none
theorem bM.abs {x:V}{u:Value}(r:bM x u):aL2 u=some x:=by
 cases x with
 | non=>cases r;rfl
 | bl _=>cases r;rfl
 | int _=>obtain⟨t,rfl⟩:=r;rfl
 | str _=>obtain⟨t,rfl⟩:=r;rfl
 | byt _=>obtain⟨t,rfl⟩:=r;rfl
 | flt _=>obtain⟨t,rfl⟩:=r;rfl
 | ref _=>cases r;rfl
 | ty _=>cases r;rfl
theorem bM.inj {x y:V}{u:Value}(r:bM x u)(q:bM y u):x=y:=Ca.inj (r.abs.symm.trans q.abs)
theorem bH.inj:∀ {xs ys:List V} {us:List Value},bH xs us->bH ys us->xs=ys
 | _,_,_,.nil,.nil=>rfl
 | _,_,_,.cons r t,.cons r' t'=>by rw[r.inj r',bH.inj t t']
section
variable {X:Cx}{pins:List (Addr×Obj)}{σ:St}{H:Hp}{s:Shared}{a:Addr}{xs ys:List V}
theorem SqL.of {K:PySem.W.Frag}(h:H a=some (.lst xs)):SqL K H a xs:=.inl (.inl h)
theorem SqT.of {K:PySem.W.Frag}(h:H a=some (.tup xs)):SqT K H a xs:=.inl (.inl h)
theorem Inv.list (I:Inv X pins σ H s)(h:SqL X.K H a xs):∃ its:List Value,bH xs its/\PlainL s.heap a its.toArray/\xs.length<=sizeLine:=by
 rcases h with h | ⟨o,its,n,hk,hc,hd,hs,hz,r⟩
 · obtain⟨z,its,n,r,e⟩:=h.ok I.hok
   exact⟨its,r,⟨_,n,e,rfl,rfl,rfl⟩,z⟩
 · refine⟨its.toList,r,⟨o,n,I.kIn a o hk,hc,hd,by simpa using hs⟩,?_⟩
   have e:=r.length;simp only[Array.length_toList]at e;omega
theorem Inv.tuple (I:Inv X pins σ H s)(h:SqT X.K H a xs):∃ its:List Value,bH xs its/\IsTup s.heap a its.toArray/\xs.length<=sizeLine:=by
 rcases h with h | ⟨o,its,n,hk,hc,hs,hz,r⟩
 · obtain⟨z,its,r,p⟩:=h.ok I.hok
   exact⟨its,r,p,z⟩
 · refine⟨its.toList,r,⟨o,I.kIn a o hk,hc,n,by simpa using hs⟩,?_⟩
   have e:=r.length;simp only[Array.length_toList]at e;omega
theorem Inv.list_inj (I:Inv X pins σ H s)(h:SqL X.K H a xs)(h':SqL X.K H a ys):xs=ys:=by
 obtain⟨its,r,⟨o,n,e,_,_,d⟩,_⟩:=I.list h;obtain⟨its',r',⟨o',n',e',_,_,d'⟩,_⟩:=I.list h';rw[e]at e';cases e';rw[d]at d';injection d' with d1 _
 have:its=its':=by simpa using congrArg Array.toList d1
 subst this;exact r.inj r'
end
section
variable {X:Cx}{st:Stmt}{rest:List Stmt}{t u:TS}{e:Expr}{te:TE}{pos:Pos}
def aKw:TS:=fun D σ H=>D.nx σ H
def aEh (t u:TS):TS:=fun D σ H=>t { D with nx:=u D } σ H
theorem aDw:PSs X [] aKw:=fun _ _ σ H _ I h=>wpAny_execs_nil ⟨σ,H,I,h⟩
theorem mU (h1:PS X st t)(h2:PSs X rest u):PSs X (st :: rest) (aEh t u):=by
 intro pins s σ H D I h;refine wpAny_execs_cons (thn (h1 pins s σ H { D with nx:=u D } I h) fun f s1 q=>?_)
 cases f with
 | next =>
  obtain⟨σ',H',I',q⟩:=q;exact h2 pins s1 σ' H' D I' q
 | ret v=>exact q
 | brk=>exact q
 | cont=>exact q
theorem kC (h1:PS X st t):PSs X [st] t:=by
 intro pins s σ H D I h;refine wpAny_execs_cons (thn (h1 pins s σ H D I h) fun f s1 q=>?_)
 cases f with
 | next=>exact wpAny_execs_nil q
 | ret v=>exact q
 | brk=>exact q
 | cont=>exact q
theorem Inv.quiet {pins:List (Addr×Obj)}{σ:St}{H:Hp}{s:Shared}(I:Inv X pins σ H s):interactive X.env=false:=by simp[interactive,I.ok.kind]
def aJp (te:TE):TS:=fun D σ H=>te σ H fun _ H1=>D.nx σ H1
theorem xI (he:PE X e te)(hs:swapsWith e none pos.line X.env=pure false:=by rfl):PS X (.Expr e pos) (aJp te):=by
 intro pins s σ H D I h;exact wpAny_Expr_any (thn (he pins s σ H _ I h) fun v s1 ⟨x,H1,I1,r1,q1⟩=>⟨σ,H1,I1,q1⟩) I.quiet hs
def aL0 (te:TE):TS:=fun D σ H=>te σ H D.rt
theorem aHc (he:PE X e te):PS X (.Return (some e) pos) (aL0 te):=by
 intro pins s σ H D I h;exact wpAny_Return_some (thn (he pins s σ H _ I h) fun v s1 ⟨x,H1,I1,r1,q1⟩=>⟨x,σ,H1,I1,r1,q1⟩)
def aMa (c:TT)(t u:TS):TS:=fun D σ H=>c σ H fun b H1=>if b=true then t D σ H1 else u D σ H1
theorem aLc {c:Expr}{a b:List Stmt}{tc:TT}(hc:PT X c tc)(ha:PSs X a t)(hb:PSs X b u):PS X (.If c a b pos) (aMa tc t u):=by
 intro pins s σ H D I h;refine wpAny_If (thn (hc pins s σ H _ I h) fun d s1 ⟨H1,I1,q1⟩=>?_)
 cases d with
 | true=>exact ha pins s1 σ H1 D I1 q1
 | false=>exact hb pins s1 σ H1 D I1 q1
end
abbrev TG:=V->St->Hp->(St->Hp->Prop)->Prop
abbrev TGs:=List V->St->Hp->(St->Hp->Prop)->Prop
def PG (X:Cx)(target:Expr)(t:TG):Prop :=
 ∀ (pins:List (Addr×Obj)) (s:Shared) (σ:St) (H:Hp) (v:V) (u:Value) (Q:St->Hp->Prop),Inv X pins σ H s->bM v u->t v σ H Q ->
  wpAny (model X.prog X.w) X.A (assign target X.env u) (fun _ s'=>∃ σ' H',Inv X pins σ' H' s'/\Q σ' H') X.xe s
def PGs (X:Cx)(ts:List Expr)(t:TGs):Prop :=
 ∀ (pins:List (Addr×Obj)) (s:Shared) (σ:St) (H:Hp) (vs:List V) (us:List Value) (Q:St->Hp->Prop),Inv X pins σ H s->bH vs us->t vs σ H Q ->
  wpAny (model X.prog X.w) X.A (assignInOrder ((assignEach ts X.env).map (·.2)) us) (fun _ s'=>∃ σ' H',Inv X pins σ' H' s'/\Q σ' H') X.xe s
abbrev aHb:=V->V->V->Hp->(Hp->Prop)->Prop
def aI6 (X:Cx)(t:aHb):Prop :=
 ∀ (pins:List (Addr×Obj)) (s:Shared) (σ:St) (H:Hp) (o i v:V) (ov iv u:Value) (Q:Hp->Prop),Inv X pins σ H s->bM o ov->bM i iv->bM v u->t o i v H Q ->
  wpAny (model X.prog X.w) X.A (setItem ov iv u) (fun _ s'=>∃ H',Inv X pins σ H' s'/\Q H') X.xe s
section
variable {X:Cx}{pos:Pos}
def tM (i:Nat):TG:=fun v σ H Q=>Q (σ.set i (some v)) H
theorem aC3 {i:Nat}{x:Str}(hN:X.N.Nodup)(hi:X.N[i]?=some x)(hx:Loc X.env.scope x)(hf:X.fn x=true\/X.env.scope.names.lookup x=some .local:=by first | exact .inl rfl | exact .inr rfl | assumption):PG X (.Name x pos) (tM i):=by
 intro pins s σ H v u Q I r h;exact wpAny_assign_Name (gV I hN hi hx r (fun s' I'=>⟨_,H,I',h⟩) hf)
def aC5:TGs:=fun vs σ H Q=>vs=[]/\Q σ H
def wU (t:TG)(u:TGs):TGs:=fun vs σ H Q=>∃ v r,vs=v :: r/\t v σ H fun σ' H'=>u r σ' H' Q
theorem aDi:PGs X [] aC5:=by
 intro pins s σ H vs us Q I r h;obtain⟨e,h⟩:=h;subst e;cases r;exact assignInOrder_nil ⟨σ,H,I,h⟩
theorem aAy {e:Expr}{es:List Expr}{t:TG}{u:TGs}(h1:PG X e t)(h2:PGs X es u)
 (hs:(assignEach (e :: es) X.env).map (·.2)=assign e X.env :: (assignEach es X.env).map (·.2):=by rfl):PGs X (e :: es) (wU t u):=by
 intro pins s σ H vs us Q I r h;obtain⟨v,vr,e1,h⟩:=h;subst e1;cases r with
 | cons r rr =>
  rw[hs];refine assignInOrder_cons (thn (h1 pins s σ H _ _ _ I r h) fun _ s1 ⟨σ1,H1,I1,q1⟩=>?_)
  exact h2 pins s1 σ1 H1 _ _ Q I1 rr q1
def aEj (K:PySem.W.Frag)(n:Nat)(t:TGs):TG:=fun v σ H Q=>∃ a xs,v=.ref a/\SqT K H a xs/\xs.length=n/\t xs σ H Q
theorem aGu {es:List Expr}{k:Nat}{t:TGs}{n:Nat}(hc:X.calm=true)(h:PGs X es t)
 (hn:(assignEach es X.env).length=n:=by rfl) (hst:(assignEach es X.env).findIdx? (·.1)=none:=by rfl):PG X (.Tuple es k pos) (aEj X.K n t):=by
 intro pins s σ H v u Q I r hw;obtain⟨a,xs,e1,hq,hl,hw⟩:=hw;subst e1;cases r;obtain⟨its,rv,ht,hz⟩:=I.tuple hq;refine assign_Tuple_tuple (I.ok.hd hc) ht (by simp[hn,←hl,rv.length]) hst fun h' hx=>?_
 have I1:Inv X pins σ H { s with heap:=h' }:=I.kept (t':=s.toks) fun b o e=>hx b o (Au (Ae e)) e
 exact h pins _ σ H xs _ Q I1 (by simpa using rv) hw
def aL4 (to ti:TE)(t:aHb):TG:=fun v σ H Q=>to σ H fun o H1=>ti σ H1 fun i H2=>t o i v H2 fun H3=>Q σ H3
theorem aIb {o i:Expr}{to ti:TE}{t:aHb}(ho:PE X o to)(hi:PE X i ti)(hs:aI6 X t)
 (ha:∀ v,assign (.Subscript o i pos) X.env v=(do
  let ov ← holding [v] (eval o X.env)
  let iv ← holding [v,ov] (eval i X.env)
  standAt pos
  holding [v,ov,iv] (setItem ov iv v)
  release [v,ov,iv] []):=by intro _;rfl):PG X (.Subscript o i pos) (aL4 to ti t):=by
 intro pins s σ H v u Q I r h;rw[ha];refine wpAny_bind (wpAny_holding (thn (ho pins s σ H _ I h) fun ov s1 ⟨x,H1,I1,r1,q1⟩=>?_))
 refine wpAny_bind (wpAny_holding (thn (hi pins s1 σ H1 _ I1 q1) fun iv s2 ⟨y,H2,I2,r2,q2⟩=>?_))
 refine wpAny_bind (wpAny_standAt (wpAny_bind (wpAny_holding (thn (hs pins s2 σ H2 x y v ov iv u _ I2 r1 r2 r q2) fun _ s3 ⟨H3,I3,q3⟩=>?_))))
 exact wpAny_release ⟨σ,H3,I3,q3⟩
def aKj (te:TE)(g:TG):TS:=fun D σ H=>te σ H fun x H1=>g x σ H1 D.nx
theorem aIh {tg e:Expr}{te:TE}{g:TG}(he:PE X e te)(hg:PG X tg g)(hs:swapsWithSole [tg] e pos.line X.env=pure false:=by rfl)(hw:swappedStores [tg] e X.env=pure none:=by rfl)
 (h1:(assignEach [tg] X.env).map (·.2)=[assign tg X.env]:=by rfl):PS X (.Assign [tg] e pos) (aKj te g):=by
 intro pins s σ H D I h;refine wpAny_Assign_stores (thn (he pins s σ H _ I h) fun v s1 ⟨x,H1,I1,r1,q1⟩=>?_) hs hw
 rw[h1];exact thn (hg pins s1 σ H1 x v _ I1 r1 q1) fun _ s2 q=>q
theorem uR {i:Nat}{x:Str}{e:Expr}{te:TE}{pos':Pos}(hN:X.N.Nodup)(hi:X.N[i]?=some x)(hx:Loc X.env.scope x)(he:PE X e te)(hs:swapsWith e (some (.Name x pos')) pos.line X.env=pure false:=by rfl)(hf:X.fn x=true\/X.env.scope.names.lookup x=some .local:=by first | exact .inl rfl | exact .inr rfl | assumption) :
 PS X (.Assign [.Name x pos'] e pos) (aKj te (tM i)):=by
 intro pins s σ H D I h;refine wpAny_Assign_Name (thn (he pins s σ H _ I h) fun v s1 ⟨y,H1,I1,r1,q1⟩=>?_) hs
 exact gV I1 hN hi hx r1 (fun s2 I2=>⟨_,H1,I2,q1⟩) hf
end
section
variable {X:Cx}{pos:Pos}
def aGo (c:TT)(tb:TS):TS:=fun D σ H=>∃ W:Nat->St->Hp->Prop,(∃ m,W m σ H)/\∀ m σ H,W m σ H ->
 c σ H fun b H1=>if b=true then ∃ N:St->Hp->Prop,(∀ σ' H',N σ' H'->∃ m',m'<m/\W m' σ' H')/\tb { D with nx:=N,ct:=N,bk:=D.nx } σ H1 else D.nx σ H1
theorem aCi {c:Expr}{body:List Stmt}{tc:TT}{tb:TS}(hp:PassesOwn (model X.prog X.w) X.A X.env X.xe)(hc:PT X c tc)(hb:PSs X body tb):PS X (.While c body [] pos) (aGo tc tb):=by
 intro pins s σ H D I h;obtain⟨W,⟨m0,w0⟩,turn⟩:=h;refine wpAny_While (codeAny_whileLoop (fun n s'=>∃ σ' H',Inv X pins σ' H' s'/\W n σ' H') ?_ m0 ⟨σ,H,I,w0⟩)
 rintro n s1 ⟨σ1,H1,I1,w1⟩
 refine wpAny_passesOwn hp (thn (hc pins s1 σ1 H1 _ I1 (turn n σ1 H1 w1)) fun b s2 ⟨H2,I2,q2⟩=>?_)
 cases b with
 | true =>
  obtain⟨N,hN,q2⟩:=q2;rw[if_pos rfl];refine wpAny_passesOwn hp (thn (hb pins s2 σ1 H2 _ I2 q2) fun f s3 q3=>?_)
  cases f with
  | next =>
   obtain⟨σ3,H3,I3,n3⟩:=q3;obtain⟨m',hm,w3⟩:=hN σ3 H3 n3;exact⟨m',hm,σ3,H3,I3,w3⟩
  | cont =>
   obtain⟨σ3,H3,I3,n3⟩:=q3;obtain⟨m',hm,w3⟩:=hN σ3 H3 n3;exact⟨m',hm,σ3,H3,I3,w3⟩
  | brk=>exact q3
  | ret v=>exact q3
 | false =>
  rw[if_neg Bv];exact wpAny_execs_nil ⟨σ1,H2,I2,q2⟩
end
structure It where
 go:Nat->Hp->Prop
 yld:Nat->Hp->V->Hp->Prop
 stop:Nat->Hp->Prop
def jQ (X:Cx)(pins:List (Addr×Obj))(H:Hp)(b:Addr):Prop :=
 H b=none/\b≠X.env.locals/\b∉X.fs/\(b∈X.ex\/X.s₀.heap.objs.size<=b)/\(∀ x c,X.env.cells.lookup x=some c->c≠b)/\∀ p∈X.pn++pins,p.1≠b
theorem Inv.fpOk {X:Cx}{pins:List (Addr×Obj)}{σ:St}{H H':Hp}{s:Shared}{b:Addr}(I:Inv X pins σ H s)(hb:s.heap.objs.size<=b)(hn:H' b=none):jQ X pins H' b:=by
 refine⟨hn,Eu (Ac I.lt hb),I.nofs hb,.inr (Bn I.sz hb),fun x c e z=>?_,fun p hp z=>?_⟩
 · obtain⟨v,q⟩:=I.cell x c e
   exact absurd (Ac q.lt (by rw[z];exact hb)) (Cy _)
 · exact absurd (Ac (Ae (I.pin p hp).1) (by rw[z];exact hb)) (Cy _)
structure Turn (P:Program)(w:World)(K:PySem.W.Frag)(tg:Expr)(J:It)(fp:List Addr)(it:Addr)(tn:Nat->Heap->Prop):Prop where
 mem:it∈fp
 obj:∀ i h,tn i h->∀ b∈fp,∃ o,h.get? b=some o/\∀ v,o.data≠.cell v
 keep:∀ i h h',tn i h->(∀ b∈fp,∀ o,h.get? b=some o->h'.get? b=some o)->tn i h'
 item:∀ (X:Cx),X.prog=P->X.w=w->X.K=K->X.calm=true->∀ (i:Nat) (pins:List (Addr×Obj)) (s:Shared) (σ:St) (H:Hp) (E:Value->Shared->Prop),Inv X pins σ H s->(∀ b∈fp,jQ X pins H b)->tn i s.heap->J.go i H ->
  wpAny (model P w) X.A (pyNext (.ref it)) (fun r s1=>∃ u,r=some u /\
   wpAny (model P w) X.A (letOwnedTupleGo tg (.ref it) u) (fun _ s2=>∃ x H',Inv X pins σ H' s2/\bM x u/\J.yld i H x H'/\tn (i+1) s2.heap/\∀ b∈fp,H' b=none) E s1) E s
 done:∀ (X:Cx),X.prog=P->X.w=w->X.K=K->X.calm=true->∀ (i:Nat) (pins:List (Addr×Obj)) (s:Shared) (σ:St) (H:Hp) (E:Value->Shared->Prop),Inv X pins σ H s->(∀ b∈fp,jQ X pins H b)->tn i s.heap->J.stop i H ->
  wpAny (model P w) X.A (pyNext (.ref it)) (fun r s1=>r=none/\Inv X pins σ H s1) E s
 self:∀ (A:Around) (i:Nat) (s:Shared) (Q:Value->Shared->Prop) (E:Value->Shared->Prop),tn i s.heap->Q (.ref it) s->wpAny (model P w) A (pyIter (.ref it)) Q E s
abbrev TI:=St->Hp->(It->Hp->Prop)->Prop
def PIE (X:Cx)(pins:List (Addr×Obj))(σ:St)(tg:Expr)(R:It->Hp->Prop)(itv:Value)(s2:Shared):Prop :=
 ∃ (it:Addr) (fp:List Addr) (tn:Nat->Heap->Prop) (J:It) (H':Hp),itv=.ref it/\Inv X pins σ H' s2/\Turn X.prog X.w X.K tg J fp it tn/\tn 0 s2.heap/\(∀ b∈fp,jQ X pins H' b)/\R J H'
def PI (X:Cx)(tg iter:Expr)(wi:TI):Prop :=
 ∀ (pins:List (Addr×Obj)) (s:Shared) (σ:St) (H:Hp) (R:It->Hp->Prop),Inv X pins σ H s->wi σ H R ->
  wpAny (model X.prog X.w) X.A (eval iter X.env) (fun v s1=>wpAny (model X.prog X.w) X.A (pyIter v) (PIE X pins σ tg R) X.xe s1) X.xe s
theorem aFx {M:Model}{A:Around}{E:Value->Shared->Prop}{s:Shared}{tg:Expr}{it:Addr}{u:Value}{o:Obj}{n:String}{vs:Array Value}{Q:Unit->Shared->Prop}(ho:s.heap.get? it=some o)(hc:o.cls=.type n)(hd:o.data=.fields vs)
    (hn:["enumerate","zip","dict_itemiterator","dict_reverseitemiterator","odict_iterator","itertools.zip_longest","itertools.pairwise"].contains n=false) (hQ:Q () s):wpAny M A (letOwnedTupleGo tg (.ref it) u) Q E s:=by
  unfold letOwnedTupleGo
  cases tg<;>first
    | exact wpAny_pure hQ
    | (cases u<;>first
        | exact wpAny_pure hQ
        | (refine wpAny_bind (wpAny_load ho ?_)
           rw[hc,hd];show wpAny M A (if (["enumerate","zip","dict_itemiterator","dict_reverseitemiterator","odict_iterator","itertools.zip_longest","itertools.pairwise"].contains n&&vs[0]?==some (rawInt _))=true then _ else _) Q E s
           rw[if_neg (by intro h;rw[hn,Bool.false_and]at h;cases h)]
           exact wpAny_pure hQ))
def Itl (K:PySem.W.Frag)(a:Addr):It :=
 ⟨fun i H=>∃ xs x,SqL K H a xs/\xs[i]?=some x,fun i H x H'=>H'=H/\∀ xs,SqL K H a xs->xs[i]?=some x,fun i H=>∃ xs,SqL K H a xs/\xs.length<=i⟩
def Itr (lo:Int)(n:Nat):It:=⟨fun i _=>i<n,fun i H x H'=>H'=H/\x=.int (lo+i),fun i _=>n<=i⟩
theorem yQ {P:Program}{w:World}{K:PySem.W.Frag}{tg:Expr}(a it:Addr):Turn P w K tg (Itl K a) [it] it (fun i h=>h.IsListIter it a i) where
 mem:=by simp
 obj:=fun i h st b hb=>by
  have e:b=it:=by simpa using hb
  subst e;obtain⟨o,e,c,d⟩:=st;exact⟨o,e,fun v z=>by rw[d]at z;cases z⟩
 keep:=fun i h h' st k=>st.at fun o e=>k it (by simp) o e
 item:=by
  intro X hP hw hK hc i pins s σ H E I hf st hg;subst hP hw hK;obtain⟨xs,x,hq,hx⟩:=hg;obtain⟨its,rv,p,hz⟩:=I.list hq;obtain⟨u,hu,ru⟩:=rv.get hx;obtain⟨f0,f1,f2,f3,f4,f5⟩:=hf it (by simp)
  refine wpAny_pyNext_list_item st p.isList (x:=u) (by simpa using hu) fun h' st' sb=>?_
  have I1:Inv X pins σ H { s with heap:=h' }:=I.turned (t':=s.toks) (fun b o hb e=>(sb.2 b hb).trans e) f0 f1 f3 f4 f5
  obtain⟨o,e,c,d⟩:=id st';exact⟨u,rfl,aFx (s:={ s with heap:=h' }) e c d (by decide) ⟨x,H,I1,ru,⟨rfl,fun ys hy=>by rw[I.list_inj hy hq];exact hx⟩,st',fun b hb=>(hf b hb).1⟩⟩
 done:=by
  intro X hP hw hK hc i pins s σ H E I hf st hg;subst hP hw hK;obtain⟨xs,hq,hx⟩:=hg;obtain⟨its,rv,p,hz⟩:=I.list hq;obtain⟨f0,f1,f2,f3,f4,f5⟩:=hf it (by simp)
  have hl:=rv.length;exact wpAny_pyNext_list_end (I.ok.hd hc) st p.isList (by simp;omega) fun h' eb=>⟨rfl,I.turned (t':=s.toks) (fun b o hb e=>eb b o hb e) f0 f1 f3 f4 f5⟩
 self:=fun _ _ _ _ _ st h=>wpAny_pyIter_listiter st h
theorem uN {P:Program}{w:World}{K:PySem.W.Frag}{tg:Expr}(it:Addr)(lo:Int)(n:Nat):Turn P w K tg (Itr lo n) [it] it (fun i h=>IsRangeIter h it (lo+(i:Nat)*1) ((n:Int)-(i:Nat)) 1) where
 mem:=by simp
 obj:=fun i h st b hb=>by
  have e:b=it:=by simpa using hb
  subst e
  exact⟨_,st,fun v z=>by
   have z':Data.fields _=Data.cell v:=z
   cases z'⟩
 keep:=fun i h h' st k=>k it (by simp) _ st
 item:=by
  intro X hP hw hK hc i pins s σ H E I hf st hg;subst hP hw hK;obtain⟨f0,f1,f2,f3,f4,f5⟩:=hf it (by simp)
  have W:=Walks.range (prog:=X.prog) (w:=X.w) (I.ok.hd hc) it lo 1 n;refine W.item i s _ _ hg st fun v h' tk hv st' kk=>?_
  obtain⟨t,rfl⟩:=hv;have I1:Inv X pins σ H { s with heap:=h',toks:=tk }:=I.turned (fun b o hb e=>kk b o (by simpa using hb) e) f0 f1 f3 f4 f5
  refine⟨_,rfl,aFx (s:={ s with heap:=h',toks:=tk }) (n:="range_iterator") st' rfl rfl (by decide) ⟨.int (lo+i),H,I1,⟨t,?_⟩,⟨rfl,rfl⟩,st',fun b hb=>(hf b hb).1⟩⟩
  rw[Int.mul_one]
 done:=by
  intro X hP hw hK hc i pins s σ H E I hf st hg;subst hP hw hK;obtain⟨f0,f1,f2,f3,f4,f5⟩:=hf it (by simp)
  exact wpAny_pyNext_range_end (I.ok.hd hc) st (by have:n<=i:=hg;omega) fun h' eb=>⟨rfl,I.turned (t':=s.toks) (fun b o hb e=>eb b o hb e) f0 f1 f3 f4 f5⟩
 self:=fun _ _ _ _ _ st h=>wpAny_pyIter_rangeiter st h
end L2
namespace L2
open PySem PySem.Spec PyProof.Rows
section
variable {X:Cx}{tg:Expr}
def aIp (K:PySem.W.Frag)(tl:TE):TI:=fun σ H R=>tl σ H fun x H1=>∃ a,x=.ref a/\(∃ xs,SqL K H1 a xs)/\R (Itl K a) H1
theorem aEx {l:Expr}{tl:TE}(hl:PE X l tl):PI X tg l (aIp X.K tl):=by
 intro pins s σ H R I h;refine thn (hl pins s σ H _ I h) fun v s1 ⟨x,H1,I1,r1,q1⟩=>?_
 obtain⟨a,e,⟨xs,hq⟩,q⟩:=q1;subst e;cases r1;obtain⟨its,rv,p,hz⟩:=I1.list hq;refine wpAny_pyIter_list p.isList ?_
 refine⟨s1.heap.objs.size,[s1.heap.objs.size],_,_,H1,rfl,I1.kept (t':=s1.toks) fun b o e=>Aa _ e,yQ a _,⟨_,Av _ rfl,rfl,rfl⟩,fun b hb=>?_,q⟩
 have e:b=s1.heap.objs.size:=by simpa using hb
 subst e;exact I1.fpOk (An _) (I1.hok.fresh (An _))
theorem sG {pins:List (Addr×Obj)}{σ:St}{H:Hp}{s:Shared}{R:It->Hp->Prop}{E:Value->Shared->Prop}{lo hi:Int}{t u v:Tok}{tk:Nat}(I:Inv X pins σ H s)(h1:-(2^62)<=lo)(h2:lo<2^62)(h3:-(2^62)<=hi)(h4:hi<2^62)
 (q:R (Itr lo (hi-lo).toNat) H):wpAny (model X.prog X.w) X.A (pyIter (.ref s.heap.objs.size)) (PIE X pins σ tg R) E { s with heap:=s.heap.push { cls:=.type "range",data:=.fields #[.int lo t,.int hi u,.int 1 v] },toks:=tk }:=by
 refine wpAny_pyIter_range (IsRange.new ..) (small_one h1 h2 h3 h4) ?_
 have I1:Inv X pins σ H { s with heap:=s.heap.push { cls:=.type "range",data:=.fields #[.int lo t,.int hi u,.int 1 v] },toks:=tk }:=I.kept fun b o e=>Aa _ e
 refine⟨(s.heap.push { cls:=.type "range",data:=.fields #[.int lo t,.int hi u,.int 1 v] }).objs.size,[(s.heap.push { cls:=.type "range",data:=.fields #[.int lo t,.int hi u,.int 1 v] }).objs.size],_,_,H,rfl,
  I1.kept (t':=tk) fun b o e=>Aa _ e,uN _ lo (hi-lo).toNat,?_,fun b hb=>?_,q⟩
 · have e1:lo+((0:Nat):Int)*1=lo:=by simp
   have e2:(((hi-lo).toNat:Nat):Int)-((0:Nat):Int)=Builtin.Range.rangeSize lo hi 1:=by rw[rangeSize_one];split<;>omega
   show IsRangeIter _ _ (lo+((0:Nat):Int)*1) ((((hi-lo).toNat:Nat):Int)-((0:Nat):Int)) 1
   rw[e1,e2];exact Av _ rfl
 · have e:b=(s.heap.push { cls:=.type "range",data:=.fields #[.int lo t,.int hi u,.int 1 v] }).objs.size:=by simpa using hb
   subst e;exact I1.fpOk (An _) (I1.hok.fresh (An _))
def aJi (ta:TA):TI:=fun σ H R=>ta σ H fun vs H1=>∃ j:Int,vs=[.int j]/\-(2^62)<=j/\j<2^62/\R (Itr 0 j.toNat) H1
def aJ8 (ta:TA):TI:=fun σ H R=>ta σ H fun vs H1=>∃ i j:Int,vs=[.int i,.int j]/\(-(2^62)<=i/\i<2^62/\-(2^62)<=j/\j<2^62)/\R (Itr i (j-i).toNat) H1
theorem yJ {a:Expr}{ta:TA}{p pos:Pos}(hg:Gl X "range")(hm:X.mg "range" = none)(ha:PA X [a] ta)(hs:starEach [a] X.env=[(false,eval a X.env)]:=by rfl):PI X tg (.Call (.Name "range" p) [a] [] pos) (aJi ta):=by
 intro pins s σ H R I h;refine Call_ (iO I hg hm boot_range (Bu (thn (ha pos pins s σ H _ I h) fun us s1 ⟨vs,H1,I1,r1,q1⟩=>?_) hs rfl))
 obtain⟨j,e,q1,q2,q⟩:=q1;subst e;cases r1 with
 | cons r rr =>
  cases rr;obtain⟨t,rfl⟩:=r;exact call_range_1 (sG I1 (by omega) (by omega) q1 q2 (by simpa using q))
theorem zE {a b:Expr}{ta:TA}{p pos:Pos}(hg:Gl X "range")(hm:X.mg "range" = none)(ha:PA X [a,b] ta)(hs:starEach [a,b] X.env=[(false,eval a X.env),(false,eval b X.env)]:=by rfl)(hs2:starEach [b] X.env=[(false,eval b X.env)]:=by rfl) :
 PI X tg (.Call (.Name "range" p) [a,b] [] pos) (aJ8 ta):=by
 intro pins s σ H R I h;refine Call_ (iO I hg hm boot_range (Bu (thn (ha pos pins s σ H _ I h) fun us s1 ⟨vs,H1,I1,r1,q1⟩=>?_) (by rw[hs,hs2]) (by rw[hs2];rfl)))
 obtain⟨i,j,e,⟨q1,q2,q3,q4⟩,q⟩:=q1;subst e;cases r1 with
 | cons r rr =>
  cases rr with
  | cons r' rr =>
   cases rr;obtain⟨t,rfl⟩:=r;obtain⟨t',rfl⟩:=r';exact call_range_2 (sG I1 q1 q2 q3 q4 q)
def aMq (wi:TI)(g:TG)(tb:TS):TS:=fun D σ H=>wi σ H fun J H1=>∃ W:Nat->Nat->St->Hp->Prop,(∃ m,W 0 m σ H1)/\∀ i m σ H,W i m σ H ->
 (J.stop i H/\D.nx σ H)\/(J.go i H/\∃ N:St->Hp->Prop,(∀ σ' H',N σ' H'->∃ m',m'<m/\W (i+1) m' σ' H')/\∀ x H',J.yld i H x H'->g x σ H' fun σ2 H2=>tb { D with nx:=N,ct:=N,bk:=D.nx } σ2 H2)
def mY (fp:List Addr)(h:Heap):List (Addr×Obj):=fp.filterMap fun b=>(h.get? b).map fun o=>(b,o)
theorem fM {fp:List Addr}{h:Heap}{b:Addr}{o:Obj}(hb:b∈fp)(e:h.get? b=some o):(b,o)∈mY fp h:=Eb.mpr ⟨b,hb,by rw[e];rfl⟩
theorem yN {fp:List Addr}{h:Heap}{p:Addr×Obj}(hp:p∈mY fp h):p.1∈fp/\h.get? p.1=some p.2:=by
 obtain⟨b,hb,e⟩:=Eb.mp hp;cases q:h.get? b with
 | none=>rw[q]at e;cases e
 | some o =>
  rw[q]at e;have e':(b,o)=p:=Ca.inj e;subst e';exact⟨hb,q⟩
theorem Inv.pinned {pins:List (Addr×Obj)}{σ:St}{H:Hp}{s:Shared}{fp:List Addr}(I:Inv X pins σ H s)(hf:∀ b∈fp,jQ X pins H b)(ho:∀ b∈fp,∃ o,s.heap.get? b=some o/\∀ v,o.data≠.cell v):Inv X (pins++mY fp s.heap) σ H s :=
 I.pins_of fun p hp=>(Bg.mp hp).elim (fun z=>I.pin p (Bc _ z)) fun z=>by
  obtain⟨hb,e⟩:=yN z;obtain⟨f0,f1,f2,_⟩:=hf p.1 hb;obtain⟨o,e',d⟩:=ho p.1 hb;rw[e]at e';cases e';exact⟨e,f0,f1,f2,d⟩
theorem Inv.unpinned {pins pl:List (Addr×Obj)}{σ:St}{H:Hp}{s:Shared}(I:Inv X (pins++pl) σ H s):Inv X pins σ H s:=I.pins_of fun p hp=>I.pin p (Bc _ (Do _ hp))
theorem aIo {iter:Expr}{body:List Stmt}{wi:TI}{g:TG}{tb:TS}{pos:Pos}(hp:PassesOwn (model X.prog X.w) X.A X.env X.xe)(hc:X.calm=true)(hi:PI X tg iter wi)(hg:PG X tg g)(hb:PSs X body tb)
 (hs:∀ x,foldedSetIterable iter X.env x=pure x:=by intro _;rfl):PS X (.For tg iter body [] pos) (aMq wi g tb):=by
 intro pins s σ H D I h;refine wpAny_For (thn (hi pins s σ H _ I h) fun v s1 h1=>thn h1 fun itv s2 h2=>?_) hs
 obtain⟨it,fp,tn,J,H2,e,I2,T,st2,f2,W,⟨m0,w0⟩,turn⟩:=h2;subst e;have stat:∀ {H':Hp},(∀ b∈fp,H' b=none)->∀ b∈fp,jQ X pins H' b:=fun hn b hb=>⟨hn b hb,(f2 b hb).2⟩;refine codeAny_forLoop_any (fun n s'=>∃ i σ' H',Inv X pins σ' H' s'/\tn i s'.heap/\(∀ b∈fp,H' b=none)/\W i n σ' H') ?_ m0 ⟨0,σ,H2,I2,st2,fun b hb=>(f2 b hb).1,w0⟩
 rintro n s3 ⟨i,σ3,H3,I3,st3,fr3,w3⟩
 rcases turn i n σ3 H3 w3 with ⟨stop,qn⟩ | ⟨go,N,hN,step⟩
 · refine wpAny_passesOwn hp (thn (T.done X rfl rfl rfl hc i pins s3 σ3 H3 X.xe I3 (stat fr3) st3 stop) fun r s4 ⟨hr,I4⟩=>?_)
   subst hr;exact wpAny_execs_nil ⟨σ3,H3,I4,qn⟩
 · refine wpAny_passesOwn hp (thn (T.item X rfl rfl rfl hc i pins s3 σ3 H3 X.xe I3 (stat fr3) st3 go) fun r s4 ⟨u,hr,h4⟩=>?_)
   subst hr;refine wpAny_passesOwn hp (thn h4 fun _ s5 ⟨x,H5,I5,r5,y5,st5,fr5⟩=>?_)
   have I5':=I5.pinned (stat fr5) (T.obj _ _ st5);refine wpAny_passesOwn hp (thn (hg _ s5 σ3 H5 x u _ I5' r5 (step x H5 y5)) fun _ s6 ⟨σ6,H6,I6,q6⟩=>?_)
   refine wpAny_passesOwn hp (thn (hb _ s6 σ6 H6 _ I6 q6) fun f s7 q7=>?_)
   have again:∀ {σ7:St} {H7:Hp},Inv X (pins++mY fp s5.heap) σ7 H7 s7->N σ7 H7->∃ m,m<n/\∃ i σ' H',Inv X pins σ' H' s7/\tn i s7.heap/\(∀ b∈fp,H' b=none)/\W i m σ' H':=fun {σ7 H7} I7 n7=>by
    obtain⟨m',hm,w7⟩:=hN σ7 H7 n7;refine⟨m',hm,i+1,σ7,H7,I7.unpinned,T.keep _ _ _ st5 fun b hb o e=>(I7.pin (b,o) (Bc _ (Bc _ (fM hb e)))).1,fun b hb=>?_,w7⟩
    obtain⟨o,e,d⟩:=T.obj _ _ st5 b hb;exact(I7.pin (b,o) (Bc _ (Bc _ (fM hb e)))).2.1
   cases f with
   | next=>obtain⟨σ7,H7,I7,n7⟩:=q7;exact again I7 n7
   | cont=>obtain⟨σ7,H7,I7,n7⟩:=q7;exact again I7 n7
   | brk=>obtain⟨σ7,H7,I7,q7⟩:=q7;exact⟨σ7,H7,I7.unpinned,q7⟩
   | ret v=>obtain⟨x7,σ7,H7,I7,r7,q7⟩:=q7;exact⟨x7,σ7,H7,I7.unpinned,r7,q7⟩
end
end L2
namespace L2
open PySem PySem.Spec PyProof.Rows
abbrev R2:=V->V->Hp->VK->Prop
def OpR (X:Cx)(f:Value->Value->Sem Value)(r:R2):Prop :=
 ∀ (pins:List (Addr×Obj)) (s:Shared) (σ:St) (H:Hp) (x y:V) (v u:Value) (Q:VK),Inv X pins σ H s->bM x v->bM y u->r x y H Q ->
  wpAny (model X.prog X.w) X.A (f v u) (EP X pins σ Q) X.xe s
def UnR (X:Cx)(f:Value->Sem Value)(r:V->Hp->VK->Prop):Prop :=
 ∀ (pins:List (Addr×Obj)) (s:Shared) (σ:St) (H:Hp) (x:V) (v:Value) (Q:VK),Inv X pins σ H s->bM x v->r x H Q ->
  wpAny (model X.prog X.w) X.A (f v) (EP X pins σ Q) X.xe s
def kM (X:Cx)(f:Value)(r:List V->Hp->VK->Prop):Prop :=
 ∀ (pins:List (Addr×Obj)) (s:Shared) (σ:St) (H:Hp) (xs:List V) (us:List Value) (Q:VK),Inv X pins σ H s->bH xs us->r xs H Q ->
  wpAny (model X.prog X.w) X.A (call f us) (EP X pins σ Q) X.xe s
def aLw (X:Cx)(r:V->Hp->(Bool->Hp->Prop)->Prop):Prop :=
 ∀ (pins:List (Addr×Obj)) (s:Shared) (σ:St) (H:Hp) (x:V) (v:Value) (Q:Bool->Hp->Prop),Inv X pins σ H s->bM x v->r x H Q ->
  wpAny (model X.prog X.w) X.A (truthy v) (TP X pins σ Q) X.xe s
def tOp (r:R2)(ta tb:TE):TE:=fun σ H Q=>ta σ H fun x H1=>tb σ H1 fun y H2=>r x y H2 Q
def tUn (r:V->Hp->VK->Prop)(ta:TE):TE:=fun σ H Q=>ta σ H fun x H1=>r x H1 Q
def rI (C:Int->Int->Prop)(g:Int->Int->V):R2:=fun x y H Q=>∃ i j,x=.int i/\y=.int j/\C i j/\Q (g i j) H
def rI0 (g:Int->Int->V):R2:=fun x y H Q=>∃ i j,x=.int i/\y=.int j/\Q (g i j) H
def rU (g:Int->V):V->Hp->VK->Prop:=fun x H Q=>∃ i,x=.int i/\Q (g i) H
section
variable {X:Cx}{a b c:Expr}{ta tb tc:TE}{pos:Pos}
theorem aH6 (ha:PE X a ta)(hb:PE X b tb){pins:List (Addr×Obj)}{s:Shared}{σ:St}{H:Hp}{R:V->V->Hp->Prop}(I:Inv X pins σ H s)
 (h:ta σ H fun x H1=>tb σ H1 fun y H2=>R x y H2) {Q:Value->Shared->Prop} {f:Value->Value->Sem Value}
 (hf:∀ v u s2 x y H2,Inv X pins σ H2 s2->bM x v->bM y u->R x y H2->wpAny (model X.prog X.w) X.A (f v u) Q X.xe s2) :
 wpAny (model X.prog X.w) X.A (eval a X.env) (fun v s₁=>wpAny (model X.prog X.w) X.A (eval b X.env) (fun u s₂=>wpAny (model X.prog X.w) X.A (f v u) Q X.xe s₂) X.xe s₁) X.xe s:=by
 refine thn (ha pins s σ H _ I h) fun v s1 ⟨x,H1,I1,r1,q1⟩=>?_
 refine thn (hb pins s1 σ H1 _ I1 q1) fun u s2 ⟨y,H2,I2,r2,q2⟩=>?_
 exact hf v u s2 x y H2 I2 r1 r2 q2
theorem aCa {op:Operator}{r:R2}(ho:OpR X (binaryOp op) r)(ha:PE X a ta)(hb:PE X b tb):PE X (.BinOp a op b pos) (tOp r ta tb):=by
 intro pins s σ H Q I h;exact wpAny_BinOp (aH6 ha hb I h fun v u s2 x y H2 I2 rx ry q=>ho pins s2 σ H2 x y v u Q I2 rx ry q)
theorem aI0 {op:UnaryOp}{r:V->Hp->VK->Prop}(ho:UnR X (unaryOp op) r)(ha:PE X a ta):PE X (.UnaryOp op a pos) (tUn r ta):=by
 intro pins s σ H Q I h;exact UnaryOp_ (thn (ha pins s σ H _ I h) fun v s1 ⟨x,H1,I1,r1,q1⟩=>ho pins s1 σ H1 x v Q I1 r1 q1)
theorem opI {f:Value->Value->Sem Value}{C:Int->Int->Prop}{g:Int->Int->Int}
 (rule:∀ (i j:Int) (t u:Tok) (s:Shared) (Q:Value->Shared->Prop) (E:Value->Shared->Prop),C i j->Q (.int (g i j) s.toks) { s with toks:=s.toks+1 }->wpAny (model X.prog X.w) X.A (f (.int i t) (.int j u)) Q E s) :
 OpR X f (rI C fun i j=>.int (g i j)):=by
 intro pins s σ H x y v u Q I rx ry h;obtain⟨i,j,rfl,rfl,hc,q⟩:=h;obtain⟨t,rfl⟩:=rx;obtain⟨t',rfl⟩:=ry;exact rule i j t t' s _ _ hc ⟨.int (g i j),H,I.tok _,⟨_,rfl⟩,q⟩
theorem aIw {f:Value->Value->Sem Value}{g:Int->Int->Int}
 (rule:∀ (i j:Int) (t u:Tok) (s:Shared) (Q:Value->Shared->Prop) (E:Value->Shared->Prop),Q (.int (g i j) s.toks) { s with toks:=s.toks+1 }->wpAny (model X.prog X.w) X.A (f (.int i t) (.int j u)) Q E s) :
 OpR X f (rI0 fun i j=>.int (g i j)):=by
 intro pins s σ H x y v u Q I rx ry h;obtain⟨i,j,rfl,rfl,q⟩:=h;obtain⟨t,rfl⟩:=rx;obtain⟨t',rfl⟩:=ry;exact rule i j t t' s _ _ ⟨.int (g i j),H,I.tok _,⟨_,rfl⟩,q⟩
theorem aKv {f:Value->Value->Sem Value}{g:Int->Int->Bool}
 (rule:∀ (i j:Int) (t u:Tok) (s:Shared) (Q:Value->Shared->Prop) (E:Value->Shared->Prop),Q (.bool (g i j)) s->wpAny (model X.prog X.w) X.A (f (.int i t) (.int j u)) Q E s) :
 OpR X f (rI0 fun i j=>.bl (g i j)):=by
 intro pins s σ H x y v u Q I rx ry h;obtain⟨i,j,rfl,rfl,q⟩:=h;obtain⟨t,rfl⟩:=rx;obtain⟨t',rfl⟩:=ry;exact rule i j t t' s _ _ ⟨.bl (g i j),H,I,rfl,q⟩
def aLs (i j:Int):Prop:=0<=j/\j<=1000000/\i.natAbs<2^64
theorem aGz:OpR X (binaryOp .Add) (rI0 fun i j=>.int (i+j)):=aIw fun _ _ _ _ _ _ _ q=>add_int q
theorem aGf:OpR X (binaryOp .Sub) (rI0 fun i j=>.int (i-j)):=aIw fun _ _ _ _ _ _ _ q=>sub_int q
theorem aGp:OpR X (binaryOp .Mod) (rI (fun _ j=>0<j) fun i j=>.int (i%j)):=opI fun i j _ _ _ _ _ hc q=>by
 have h1:(0:Int)<j:=hc;exact mod_int' (by omega) (by rw[Int.fmod_eq_emod_of_nonneg i (by omega)];exact q)
theorem aHt:OpR X (binaryOp .Pow) (rI aLs fun i j=>.int (i^j.toNat)):=opI fun _ _ _ _ _ _ _ hc q=>pow_int_small hc.1 hc.2.1 hc.2.2 q
theorem unI {f:Value->Sem Value}{g:Int->Int}
 (rule:∀ (i:Int) (t:Tok) (s:Shared) (Q:Value->Shared->Prop) (E:Value->Shared->Prop),Q (.int (g i) s.toks) { s with toks:=s.toks+1 }->wpAny (model X.prog X.w) X.A (f (.int i t)) Q E s) :
 UnR X f (rU fun i=>.int (g i)):=by
 intro pins s σ H x v Q I rx h;obtain⟨i,rfl,q⟩:=h;obtain⟨t,rfl⟩:=rx;exact rule i t s _ _ ⟨.int (g i),H,I.tok _,⟨_,rfl⟩,q⟩
theorem aH0:UnR X (unaryOp .USub) (rU fun i=>.int (-i)):=unI fun _ _ _ _ _ q=>neg_int q
end
section
variable {X:Cx}{a b c:Expr}{ta tb tc:TE}{pos:Pos}
theorem aIt:OpR X (compareOp .Lt) (rI0 fun i j=>.bl (decide (i<j))):=aKv fun _ _ _ _ _ _ _ q=>lt_int q
theorem aI4:OpR X (compareOp .Gt) (rI0 fun i j=>.bl (decide (j<i))):=aKv fun _ _ _ _ _ _ _ q=>gt_int q
theorem nW (b:Expr){op:CmpOp}(h:op≠.In:=by decide)(h2:op≠.NotIn:=by decide):behindInMarks op b=false:=by
 have e1:(op==CmpOp.In)=false:=by cases op<;>first | rfl | exact absurd rfl h
 have e2:(op==CmpOp.NotIn)=false:=by cases op<;>first | rfl | exact absurd rfl h2
 cases b<;>simp[behindInMarks,e1,e2]
theorem aE5 {op:CmpOp}{r:R2}(ho:OpR X (compareOp op) r)(ha:PE X a ta)(hb:PE X b tb)(hm:behindInMarks op b=false):PE X (.Compare a [op] [b] pos) (tOp r ta tb):=by
 intro pins s σ H Q I h;exact wpAny_Compare1 (aH6 ha hb I h fun v u s2 x y H2 I2 rx ry q=>ho pins s2 σ H2 x y v u Q I2 rx ry q) hm
def aJd (t:TE):TT:=fun σ H Q=>t σ H fun x H'=>∃ k,x=.bl k/\Q k H'
theorem aCt {op:CmpOp}{r:R2}(ho:OpR X (compareOp op) r)(ha:PE X a ta)(hb:PE X b tb)(hm:behindInMarks op b=false):PT X (.Compare a [op] [b] pos) (aJd (tOp r ta tb)):=by
 intro pins s σ H Q I h
 refine wpAny_isTrue_Compare1 (thn (ha pins s σ H _ I h) fun v s1 ⟨x,H1,I1,r1,q1⟩=>thn (hb pins s1 σ H1 _ I1 q1) fun u s2 ⟨y,H2,I2,r2,q2⟩ =>
  thn (ho pins s2 σ H2 x y v u _ I2 r1 r2 q2) fun c s3 ⟨z,H3,I3,r3,k,e,q3⟩=>?_) hm
 subst e;cases r3;exact wpAny_truthy_bool ⟨H3,I3,q3⟩
def aKl (K:PySem.W.Frag)(x:V)(H:Hp)(k:Bool):Prop :=
 match x with
 | .non=>k=false
 | .bl b=>k=b
 | .int i=>k=(i != 0)
 | .str y=>y.length<=sizeLine/\k=((y.length:Int) != 0)
 | .byt y=>y.size<=sizeLine/\k=((y.size:Int) != 0)
 | .ref p=>(∃ xs,SqL K H p xs/\k=!xs.isEmpty)\/(∃ xs,SqT K H p xs/\k=!xs.isEmpty)\/∃ kvs,H p=some (.dK kvs)/\k=!kvs.isEmpty
 | _=>False
theorem vW {κ:Type}{kvs:List (κ×V)}{vs:List (κ×Value)}(r:KV kvs vs):(!vs.isEmpty)=!kvs.isEmpty:=by
 cases r<;>rfl
theorem mX {xs:List V}{its:List Value}(r:bH xs its):(!its.toArray.isEmpty)=!xs.isEmpty:=by
 cases r<;>simp
theorem nJ:(sizeLine:Nat)<2^63:=by rw[sizeLine_eq];decide
theorem lO:aLw X (fun x H Q=>∃ k,aKl X.K x H k/\Q k H):=by
 intro pins s σ H x v Q I rx h;obtain⟨k,e,q⟩:=h;have hl:=nJ;have hs:sizeLine=16777216:=sizeLine_eq;cases x with
 | non =>
  cases rx;have e':k=false:=e;subst e';exact truthy_none ⟨H,I,q⟩
 | bl b =>
  cases rx;have e':k=b:=e;subst e';exact wpAny_truthy_bool ⟨H,I,q⟩
 | int i =>
  obtain⟨t,rfl⟩:=rx;have e':k=(i != 0):=e;subst e';exact PySem.P.truthy_int ⟨H,I,q⟩
 | str y =>
  obtain⟨t,rfl⟩:=rx;obtain⟨hy,e'⟩:y.length<=sizeLine/\k=((y.length:Int) != 0):=e;subst e';exact PySem.P.truthy_str (by omega) ⟨H,I.tok _,q⟩
 | byt y =>
  obtain⟨t,rfl⟩:=rx;obtain⟨hy,e'⟩:y.size<=sizeLine/\k=((y.size:Int) != 0):=e;subst e';exact PySem.W.truthy_bytes (by omega) ⟨H,I.tok _,q⟩
 | ref p =>
  cases rx;have e':(∃ xs,SqL X.K H p xs/\k=!xs.isEmpty)\/(∃ xs,SqT X.K H p xs/\k=!xs.isEmpty)\/∃ kvs,H p=some (.dK kvs)/\k=!kvs.isEmpty:=e;rcases e' with ⟨xs,hx,e'⟩ | ⟨xs,hx,e'⟩ | ⟨kvs,hx,e'⟩
  · subst e'
    obtain⟨its,r,pl,hz⟩:=I.list hx;have hlen:=r.length;exact wpAny_truthy_list pl.isList (by simp only[Aj];omega) ⟨H,I.tok _,by rw[mX r];exact q⟩
  · subst e'
    obtain⟨its,r,pl,hz⟩:=I.tuple hx;have hlen:=r.length;exact truthy_tuple pl (by simp only[Aj];omega) ⟨H,I.tok _,by rw[mX r];exact q⟩
  · subst e'
    obtain⟨hz,hS,vs,r,m⟩:kvs.length<=sizeLine/\(p==sysModules)=false/\∃ vs,KV kvs vs/\s.heap.DictOf (rJ X.prog X.w) p vs:=I.hok p _ hx;have hlen:kvs.length=vs.length:=Paired.length r;exact wpAny_truthy_dict hS m (by omega) ⟨H,I.tok _,by rw[vW r];exact q⟩
 | _=>exact(show False from e).elim
theorem aCn (ha:PE X a ta)(he:∀ whole,isTrue a X.env whole=(do let v ← whole;standAt a.pos;holding [v] (truthy v))) :
 PT X a (fun σ H Q=>ta σ H fun x H'=>∃ k,aKl X.K x H' k/\Q k H'):=by
 intro pins s σ H Q I h;exact isTrue_plain (thn (ha pins s σ H _ I h) fun v s1 ⟨x,H1,I1,r1,q1⟩=>lO pins s1 σ H1 x v Q I1 r1 q1) (he _)
theorem xF {x:V}{us:List Value}(r:bH [x] us):∃ u,us=[u]/\bM x u:=by
 cases r with
 | cons r1 r2=>cases r2;exact⟨_,rfl,r1⟩
theorem xM {x y:V}{us:List Value}(r:bH [x,y] us):∃ u w',us=[u,w']/\bM x u/\bM y w':=by
 cases r with
 | cons r1 r2 =>
  cases r2 with
  | cons r3 r4=>cases r4;exact⟨_,_,rfl,r1,r3⟩
theorem aB3:kM X (.builtin "abs") (fun xs H Q=>∃ i,xs=[.int i]/\Q (.int (if i<0 then -i else i)) H):=by
 intro pins s σ H xs us Q I r h;obtain⟨i,rfl,q⟩:=h;obtain⟨u,rfl,t,rfl⟩:=xF r;exact call_abs_int fun u tk=>⟨.int (if i<0 then -i else i),H,I.tok _,⟨_,rfl⟩,q⟩
theorem yL (hc:X.calm=true):kM X (.builtin "max") (fun xs H Q=>∃ i j,xs=[.int i,.int j]/\Q (.int (if j>i then j else i)) H):=by
 intro pins s σ H xs us Q I r h;obtain⟨i,j,rfl,q⟩:=h;obtain⟨u,w',rfl,⟨t,rfl⟩,⟨t',rfl⟩⟩:=xM r;refine max_two_ints (I.ok.hd hc) fun h' tk k=>⟨_,H,I.kept k,?_,q⟩
 by_cases hj:j>i
 · rw[if_pos hj,if_pos hj];exact⟨_,rfl⟩
 · rw[if_neg hj,if_neg hj];exact⟨_,rfl⟩
end
end L2
namespace L2
open PySem PySem.Spec PyProof.Rows
structure ObjM (h:Heap)(x dx C:Addr)(mA:Str->Option Value):Prop where
 obj:h.get? x=some (Cj C dx)
 ns:h.Ns1 dx mA
 ne:dx≠x
theorem pZ {h:Heap}{dx:Addr}{mA:Str->Option Value}(n:h.Ns1 dx mA):∃ od,h.get? dx=some od/\∀ name,Fx name od=some (mA name):=by
 obtain⟨o,es,ep,ho,hd,hk,_,hm⟩:=n;refine⟨o,ho,fun name=>?_⟩
 have e:=hm name;unfold nsFind findBy at e;rw[←Array.find?_toList]at e;unfold Fx;rw[hd];dsimp only
 split
 · rename_i y q
   rw[q]at e;exact congrArg some e
 · rename_i q
   rw[q]at e
   have a:es.toList.any (·.refKey)=false:=by
    rw[List.any_eq_false];intro y hy;obtain⟨z,t,hkey⟩:=hk y (Array.mem_toList_iff.mp hy);simp[DictEntry.refKey,hkey]
   have a':¬ es.toList.any (·.refKey)=true:=by rw[a];exact Bv
   rw[if_neg a'];exact congrArg some e
theorem ObjM.look {h:Heap}{x dx C:Addr}{mA:Str->Option Value}(I:ObjM h x dx C mA):∃ od,PySem.W.InstAt h x (Cj C dx) C (some od)/\∀ name,Fx name od=some (mA name) :=
 let ⟨od,ho,hl⟩:=pZ I.ns
 ⟨od,⟨I.obj,rfl,rfl,ho⟩,hl⟩
section
variable {prog:Program}{w:World}{A:Around}{E:Value->Shared->Prop}{s:Shared}{K:PySem.W.Frag}{x dx C f:Addr}{mA:Str->Option Value}{name:Str}{v:Value}
theorem aC1 {expr:Bool}{Q:Value->Shared->Prop}(X:K.In s.heap)(I:ObjM s.heap x dx C mA)(hg:Eg K C name=true)(hh:Di K C=true)
 (ha:Aq K (.ref C) name=some none) (hv:mA name=some v) (hv':PySem.W.handedIn v=true) (h:Q v { s with toks:=s.toks+1 }) :
 wpAny (model prog w) A (getAttr (.ref x) name expr) Q E s:=by
 obtain⟨od,J,hl⟩:=I.look;exact PySem.W.get_value X J (PySem.W.plainGet_of hg).1 (PySem.W.findObj_own hh ha rfl (by rw[hl,hv])) hv' h
theorem aEn {ns:List Str}{Q:Unit->Shared->Prop}(X:K.In s.heap)(I:ObjM s.heap x dx C mA)
 (hs:Aq K (.ref C) "__setattr__" = some (some (.builtin "object.__setattr__"))) (hp:Ez K C=true) (ht:Fn K C name=some none) (hh:Di K C=true)
 (hw:PySem.Within mA ns) (hsz:ns.length<=sizeLine)
 (h:∀ h',ObjM h' x dx C (fun y=>if y=name then some v else mA y)->Heap.SameBut dx s.heap h'->Q () { s with heap:=h',toks:=s.toks+2 }) :
 wpAny (model prog w) A (setAttr (.ref x) name v) Q E s:=by
 obtain⟨od,J,hl⟩:=I.look;refine PySem.W.set_plain X J hs (PySem.W.osa_open (s:={ s with toks:=s.toks+1 }) (r:=none) X J hp ht fun b=>?_)
 obtain⟨cd,hc,hd'⟩:=PySem.W.any_some hh;have hx:s.heap.get? x=some ⟨.ref C,some dx,.plain,#[]⟩:=I.obj;refine wpAny_bind (wpAny_pure (wpAny_bind (wpAny_bind (wpAny_loadPart hx (wpAny_bind (PySem.W.Looks.here (s:={ s with toks:=s.toks+1 }) (PySem.W.looks_clsIn X hc) ?_))))))
 rw[hd'];refine wpAny_pure (a:=some dx) (wpAny_bind (wpAny_pure (wpAny_bind ?_)))
 refine wpAny_nsSet1 (s:={ s with toks:=s.toks+1 }) I.ns fun h' hn2 hs2=>?_
 obtain⟨oD,esD,epD,hoD,hdD,hcD⟩:=hn2.count (PySem.Within.cons name v hw);refine wpAny_bind (wpAny_lookBehind hoD (by rw[hdD];exact pastItsLine_dict (Bn hcD (by rw[Cg];omega))) ?_)
 exact wpAny_pure (h _ ⟨(hs2.2 _ (Ne.symm I.ne)).trans I.obj,hn2,I.ne⟩ hs2)
theorem aBq {R:Result->Shared->Prop}{vs:List Value}{kw:List (Str×Value)}(X:K.In s.heap)(hm:Fo K C=true)
 (hi:Aq K (.ref C) "__init__" = some (some (.ref f))) (hf:Cz K (.ref f)=some (.type "function"))
 (h:codeAny (model prog w) (A.under (.builtin "type.__call__" ⟨.ref C :: vs,kw⟩)) (.call (.ref f) ⟨.ref (s.heap.objs.size+1) :: vs,kw⟩) (PySem.W.InitBack (s.heap.objs.size+1) R)
  { s with heap:=(s.heap.push By).push (Cj C s.heap.objs.size) }) :
 codeAny (model prog w) A (.call (.ref C) ⟨vs,kw⟩) R s:=by
 obtain⟨hh,g,d,t,os⟩:=s;exact PySem.W.make_core (PySem.W.makes_of X hm) (PySem.W.looks_findIn X hi) (fun self=>PySem.W.bind_fn X self hf) (.inl rfl) h
end
def jE (f:Str)(v:V):List (Str×V)->List (Str×V)
 | []=>[(f,v)]
 | (g,x) :: r=>if g=f then (g,v) :: r else (g,x) :: jE f v r
theorem lS (f g:Str)(v:V):∀ fs:List (Str×V),(jE f v fs).lookup g=if g=f then some v else fs.lookup g
 | []=>by
  show Cr g [(f,v)]=_
  by_cases h:g=f
  · have hb:(g==f)=true:=beq_iff_eq.mpr h
    simp only[Cr,hb,if_pos h]
  · have hb:(g==f)=false:=beq_eq_false_iff_ne.mpr h
    simp only[Cr,hb,if_neg h]
 | (k,x) :: r=>by
  have ih:=lS f g v r;rw[show jE f v ((k,x) :: r)=(if k=f then (k,v) :: r else (k,x) :: jE f v r) from rfl]
  by_cases hk:k=f
  · rw[if_pos hk]
    by_cases h:g=k
    · have hb:(g==k)=true:=beq_iff_eq.mpr h
      simp only[Cr,hb,if_pos (h.trans hk)]
    · have hb:(g==k)=false:=beq_eq_false_iff_ne.mpr h
      simp only[Cr,hb,if_neg (fun e:g=f=>h (e.trans hk.symm))]
  · rw[if_neg hk]
    by_cases h:g=k
    · have hb:(g==k)=true:=beq_iff_eq.mpr h
      simp only[Cr,hb,if_neg (fun e:g=f=>hk (h.symm.trans e))]
    · have hb:(g==k)=false:=beq_eq_false_iff_ne.mpr h
      simp only[Cr,hb];exact ih
theorem lP (f:Str)(v:V):∀ fs:List (Str×V),f∈(jE f v fs).map (·.1)/\∀ g,g∈fs.map (·.1)->g∈(jE f v fs).map (·.1)
 | []=>⟨by simp[jE],fun g h=>by simp at h⟩
 | (k,x) :: r=>by
  obtain⟨i1,i2⟩:=lP f v r;rw[show jE f v ((k,x) :: r)=(if k=f then (k,v) :: r else (k,x) :: jE f v r) from rfl]
  by_cases hk:k=f
  · rw[if_pos hk]
    subst hk;exact⟨by simp,fun g h=>by simpa using h⟩
  · rw[if_neg hk]
    refine⟨?_,fun g h=>?_⟩
    · rw[Am]
      exact Ab _ i1
    · rw[Am]at h ⊢
      rcases Ad.mp h with e | e
      · exact Ad.mpr (.inl e)
      · exact Ab _ (i2 g e)
theorem lV (f:Str)(v:V):∀ fs:List (Str×V),(jE f v fs).length<=fs.length+1
 | []=>by simp[jE]
 | (k,x) :: r=>by
  have ih:=lV f v r;rw[show jE f v ((k,x) :: r)=(if k=f then (k,v) :: r else (k,x) :: jE f v r) from rfl]
  by_cases hk:k=f
  · rw[if_pos hk,Cg,Cg];omega
  · rw[if_neg hk,Cg,Cg];omega
theorem oN.some_of {v:V}{o:Option Value}(r:oN (some v) o):∃ u,o=some u/\bM v u:=by
 cases o with
 | none=>exact(show False from r).elim
 | some u=>exact⟨u,rfl,r⟩
theorem zA {v:V}{u:Value}(r:bM v u):PySem.W.handedIn u=true:=by
 cases v with
 | non=>cases (show u=Value.none from r);rfl
 | bl b=>cases (show u=Value.bool b from r);rfl
 | int i=>obtain⟨t,e⟩:=(show ∃ t,u=Value.int i t from r);cases e;rfl
 | str x=>obtain⟨t,e⟩:=(show ∃ t,u=Value.str x t from r);cases e;rfl
 | byt b=>obtain⟨t,e⟩:=(show ∃ t,u=Value.bytes b t from r);cases e;rfl
 | flt b=>obtain⟨t,e⟩:=(show ∃ t,u=Value.float b t from r);cases e;rfl
 | ref a=>cases (show u=Value.ref a from r);rfl
 | ty n=>cases (show u=Value.type n from r);rfl
section
variable {P:Program}{w:World}{H H':Hp}{h h':Heap}{a C dx:Addr}{fs fs':List (Str×V)}
theorem rD (hok:HOk P w H h)(e:H a=some (.ins C dx fs)):∃ mA,ObjM h a dx C mA/\(∀ f,oN (fs.lookup f) (mA f))/\PySem.Within mA (fs.map (·.1))/\fs.length<=1000/\H dx=some (.own a):=by
 obtain⟨d,z,ne,ob,mA,n,r,q⟩:=(show cK P w H h a (.ins C dx fs) from hok a _ e)
 exact⟨mA,⟨ob,n,ne⟩,r,q,z,d⟩
end
structure Cls (K:PySem.W.Frag)(C:Addr):Prop where
 pg:Eg K C Str.empty=true
 hd:Di K C=true
 po:Ez K C=true
 sa:Aq K (.ref C) "__setattr__" = some (some (.builtin "object.__setattr__"))
theorem Cls.get {K:PySem.W.Frag}{C:Addr}(c:Cls K C)(f:Str):Eg K C f=true:=c.pg
def iL (K:PySem.W.Frag)(C:Addr)(f:Str):Prop:=Aq K (.ref C) f=some none
theorem iL.taker {K:PySem.W.Frag}{C:Addr}{f:Str}(n:iL K C f):Fn K C f=some none:=by
 unfold Fn;rw[show Aq K (.ref C) f=some none from n]
 rfl
section
variable {X:Cx}{pins:List (Addr×Obj)}{σ:St}{H:Hp}{s:Shared}{a C dx:Addr}{fs:List (Str×V)}{f:Str}{v:V}{A:Around}{E:Value->Shared->Prop}
theorem uT {b:Bool}{Q:Value->Shared->Prop}(I:Inv X pins σ H s)(e:H a=some (.ins C dx fs))(c:Cls X.K C)(n:iL X.K C f)(l:fs.lookup f=some v)
 (h:∀ u s',Inv X pins σ H s'->bM v u->Q u s'):wpAny (model X.prog X.w) A (getAttr (.ref a) f b) Q E s:=by
 obtain⟨mA,O,r,_,_,_⟩:=rD I.hok e;obtain⟨u,hu,ru⟩:=oN.some_of (v:=v) (o:=mA f) (by rw[←l];exact r f)
 exact aC1 I.kIn O (c.get f) c.hd n hu (zA ru) (h u _ (I.tok _) ru)
theorem vB {y:V}{u:Value}{Q:Unit->Shared->Prop}(I:Inv X pins σ H s)(e:H a=some (.ins C dx fs))(c:Cls X.K C)(n:iL X.K C f)(hl:fs.length<1000)(ry:bM y u)
 (h:∀ s',Inv X pins σ (upd H a (.ins C dx (jE f y fs))) s'->Q () s'):wpAny (model X.prog X.w) A (setAttr (.ref a) f u) Q E s:=by
 obtain⟨mA,O,r,wi,_,ho⟩:=rD I.hok e;have hz:(fs.map (·.1)).length<=sizeLine:=by rw[Ah,sizeLine_eq];omega
 refine aEn I.kIn O c.sa c.po n.taker c.hd wi hz fun h' O' sb=>h _ ?_
 have hd:∃ o,h'.get? dx=some o:=let ⟨o,_,_,e',_⟩:=O'.ns;⟨o,e'⟩
 refine I.write (x:=a) (e:=dx) (by rw[e];exact True.intro) (.inr ho) (fun b q hb z=>(sb.2 b hb).trans z) hd ?_
 refine⟨by rw[aR O.ne];exact ho,?_,O.ne,O'.obj,_,O'.ns,fun g=>?_,fun g hg=>?_⟩
 · have:=lV f y fs;omega
 · show oN ((jE f y fs).lookup g) (if g=f then some u else mA g)
   rw[lS];by_cases q:g=f
   · rw[if_pos q,if_pos q];exact ry
   · rw[if_neg q,if_neg q];exact r g
 · by_cases q:g=f
   · rw[q];exact(lP f y fs).1
   · refine(lP f y fs).2 g (wi g fun z=>hg ?_)
     show (if g=f then some u else mA g)=none
     rw[if_neg q];exact z
theorem Inv.made (I:Inv X pins σ H s):Inv X pins σ (upd (upd H s.heap.objs.size (.own (s.heap.objs.size+1))) (s.heap.objs.size+1) (.ins C s.heap.objs.size []))
 { s with heap:=(s.heap.push By).push (Cj C s.heap.objs.size) }:=by
 have e1:(s.heap.push By).get? s.heap.objs.size=some By:=Av s.heap rfl
 have e2:((s.heap.push By).push (Cj C s.heap.objs.size)).get? (s.heap.objs.size+1)=some (Cj C s.heap.objs.size):=by
  have:=Av (s.heap.push By) (o:=Cj C s.heap.objs.size) rfl
  rwa [Bi]at this
 have e3:(s.heap.push By).Ns s.heap.objs.size (fun _=>none):=⟨By,#[],_,e1,rfl,(fun e he=>absurd he (by simp)),fun _=>rfl⟩
 have I1:=I.laid (a:=s.heap.objs.size) (o:=.own (s.heap.objs.size+1)) (h':=s.heap.push By) (t':=s.toks) (fun b u q=>Aa _ q) (An _) ⟨_,e1⟩;refine I1.laid (a:=s.heap.objs.size+1) (o:=.ins C s.heap.objs.size []) (t':=s.toks) (fun b u q=>Aa _ q) (Nat.le_of_eq (Bi _ _)) ?_
 have ne:s.heap.objs.size≠s.heap.objs.size+1:=Au (Fg _);refine⟨by rw[aR ne,bC],Cq _,ne,e2,fun _=>none,(Heap.Ns1.of_empty e3).at fun o q=>Aa _ q,fun _=>True.intro,fun y hy=>absurd rfl hy⟩
theorem wV {prog:Program}{w:World}{env:Env}{e:Expr}{f:Str}{pos:Pos}{s:Shared}{Q:Value->Shared->Prop}(hb:attributeBase e f env (eval e env)=eval e env)
 (h:wpAny (model prog w) A (eval e env) (fun o s₁=>wpAny (model prog w) A (getAttr o f true) Q E s₁) E s):wpAny (model prog w) A (eval (.Attribute e f pos) env) Q E s :=
 Attribute_any_ h (by rw[arm_eval_Attribute,hb])
end
def aL3 (K:PySem.W.Frag)(ta:TE)(f:Str):TE:=fun σ H Q=>ta σ H fun x H1=>∃ a C dx fs v,x=.ref a/\H1 a=some (.ins C dx fs)/\Cls K C/\iL K C f/\fs.lookup f=some v/\Q v H1
def aDc (K:PySem.W.Frag)(ta tv:TE)(f:Str):TS:=fun D σ H=>tv σ H fun y H1=>ta σ H1 fun x H2=>∃ a C dx fs,x=.ref a/\H2 a=some (.ins C dx fs)/\Cls K C/\iL K C f/\fs.length<1000 /\
 D.nx σ (upd H2 a (.ins C dx (jE f y fs)))
section
variable {X:Cx}{o e value:Expr}{f:Str}{pos pos' tpos:Pos}{ta tv:TE}
theorem aIc (he:PE X e ta)(hb:attributeBase e f X.env (eval e X.env)=eval e X.env):PE X (.Attribute e f pos) (aL3 X.K ta f):=by
 intro pins s σ H Q I h;refine wV hb (thn (he pins s σ H _ I h) fun u s1 ⟨x,H1,I1,rx,a,C,dx,fs,v,ex,ea,c,n,l,q⟩=>?_)
 subst ex;obtain rfl:u=Value.ref a:=rx;exact uT I1 ea c n l fun u' s2 I2 ru=>⟨v,H1,I2,ru,q⟩
theorem vY (ha:PE X o ta)(hv:PE X value tv)(hs:swapsWith value (some (.Attribute o f pos')) pos.line X.env=pure false):PS X (.Assign [.Attribute o f pos'] value pos) (aDc X.K ta tv f):=by
 intro pins s σ H D I h;refine plainObj_wpAny_Assign_Attribute (thn (hv pins s σ H _ I h) fun u s1 ⟨y,H1,I1,ry,q⟩=>thn (ha pins s1 σ H1 _ I1 q) fun ov s2 ⟨x,H2,I2,rx,a,C,dx,fs,ex,ea,c,n,l,q2⟩=>?_) hs
 subst ex;obtain rfl:ov=Value.ref a:=rx;exact vB I2 ea c n l ry fun s3 I3=>⟨σ,_,I3,q2⟩
end
section
variable {X:Cx}{pins:List (Addr×Obj)}{σ:St}{H:Hp}{s:Shared}{A:Around}{E:Value->Shared->Prop}{Q:Value->Shared->Prop}{c:Value}{b:Bool}
inductive TyOf (K:PySem.W.Frag) (H:Hp):V->Value->Prop where
 | non:TyOf K H .non (.type "NoneType")
 | bl (x:Bool):TyOf K H (.bl x) (.type "bool")
 | int (i:Int):TyOf K H (.int i) (.type "int")
 | str (x:Str):TyOf K H (.str x) (.type "str")
 | flt (x:UInt64):TyOf K H (.flt x) (.type "float")
 | lst {a:Addr} {xs:List V} (e:H a=some (.lst xs)):TyOf K H (.ref a) (.type "list")
 | frz {a:Addr} {o:Obj} {xs:List V} (e:H a=some (.frz o (.lst xs))):TyOf K H (.ref a) (.type "list")
 | tup {a:Addr} {xs:List V} (e:H a=some (.tup xs)):TyOf K H (.ref a) (.type "tuple")
 | dK {a:Addr} {kvs:List (Key×V)} (e:H a=some (.dK kvs)):TyOf K H (.ref a) (.type "dict")
 | dT {a:Addr} {kvs:List (List Key×V)} (e:H a=some (.dT kvs)):TyOf K H (.ref a) (.type "dict")
 | ins {a C dx:Addr} {fs:List (Str×V)} (e:H a=some (.ins C dx fs)) (cl:Cls K C) (ha:Aq K (.ref C) "__class__" = some (some (.builtin "object.__class__")))
  (hn:PySem.W.specialIn K (.builtin "object.__class__") "__get__" = some (some (.builtin "getset_descriptor.__get__"))) (htk:PySem.W.takesIn K (.builtin "object.__class__")=some true)
  (hm:Fe K C (.type "object")=some true):TyOf K H (.ref a) (.ref C)
theorem pT {x:V}{u t:Value}(I:Inv X pins σ H s)(rx:bM x u)(ty:TyOf X.K H x t)(e:Bk X.K t c=some b)(h:∀ tk,Q (.bool b) { s with toks:=tk }) :
 wpAny (model X.prog X.w) A (call (.builtin "isinstance") [u,c]) Q E s:=by
 cases ty with
 | non=>cases (show u=Value.none from rx);exact Br PySem.W.kitx_none I.kIn True.intro e (fun z=>nomatch z) h
 | bl y=>cases (show u=Value.bool y from rx);exact Br PySem.W.kitx_bool I.kIn True.intro e (fun z=>nomatch z) h
 | int i=>obtain⟨t,q⟩:=(show ∃ t,u=Value.int i t from rx);cases q;exact Br PySem.W.kitx_int I.kIn True.intro e (fun z=>nomatch z) h
 | str y=>obtain⟨t,q⟩:=(show ∃ t,u=Value.str y t from rx);cases q;exact Br PySem.W.kitx_str I.kIn True.intro e (fun z=>nomatch z) h
 | flt y=>obtain⟨t,q⟩:=(show ∃ t,u=Value.float y t from rx);cases q;exact Br PySem.W.kitx_float I.kIn True.intro e (fun z=>nomatch z) h
 | @lst a xs ea =>
  cases (show u=Value.ref a from rx)
  obtain⟨_,_,n,_,h1⟩:=(show cK X.prog X.w H s.heap a (.lst xs) from I.hok a _ ea)
  exact Br PySem.W.kitx_list I.kIn ⟨_,h1,rfl⟩ e (fun z=>nomatch z) h
 | @frz a ob xs ea =>
  cases (show u=Value.ref a from rx)
  obtain⟨_,_,_,n,_,h1⟩:=(show cK X.prog X.w H s.heap a (.frz ob (.lst xs)) from I.hok a _ ea)
  exact Br PySem.W.kitx_list I.kIn ⟨_,h1,rfl⟩ e (fun z=>nomatch z) h
 | @tup a xs ea =>
  cases (show u=Value.ref a from rx)
  obtain⟨_,_,_,p⟩:=(show cK X.prog X.w H s.heap a (.tup xs) from I.hok a _ ea)
  obtain⟨o,h1,h2,_⟩:=p;exact Br PySem.W.kitx_tuple I.kIn ⟨o,h1,h2⟩ e (fun z=>nomatch z) h
 | @dK a kvs ea =>
  cases (show u=Value.ref a from rx)
  obtain⟨_,_,vs,_,p⟩:=(show cK X.prog X.w H s.heap a (.dK kvs) from I.hok a _ ea)
  obtain⟨o,es,ep,h1,h2,_⟩:=p;exact Br PySem.W.kitx_dict I.kIn ⟨o,h1,h2.1⟩ e (fun z=>nomatch z) h
 | @dT a kvs ea =>
  cases (show u=Value.ref a from rx)
  obtain⟨_,_,xs,_,o,es,ep,h1,h2,_⟩:=(show cK X.prog X.w H s.heap a (.dT kvs) from I.hok a _ ea)
  exact Br PySem.W.kitx_dict I.kIn ⟨o,h1,h2.1⟩ e (fun z=>nomatch z) h
 | @ins a C dx fs ea cl ha hn htk hm =>
  cases (show u=Value.ref a from rx)
  obtain⟨mA,O,_⟩:=rD I.hok ea;obtain⟨od,J,_⟩:=O.look;exact Br (PySem.W.kitx_own (cl.get _) cl.hd ha hn htk hm) I.kIn J e (fun z=>nomatch z) h
end
end L2
namespace L2
open PySem PySem.Spec PyProof.Rows
structure Room (k:Nat)(A:Around):Prop where
 hd:A.handled=none
 dp:A.depth+3*k+5<recursionLimit
 un:A.units+16*k+200<cLine
theorem Room.mono {j k:Nat}{A:Around}(r:Room k A)(h:j<=k):Room j A:=⟨r.hd,by have:=r.dp;omega,by have:=r.un;omega⟩
theorem Room.deeper {k:Nat}{A:Around}(r:Room (k+1) A)(env:Env):Room k (A.deeper env) :=
 ⟨r.hd,by have:=r.dp;show A.depth+1+3*k+5<_;omega,by have:=r.un;show A.units+3+16*k+200<_;omega⟩
theorem wA {A:Around}{C:Addr}{us:List Value}{kw:List (Str×Value)}:(A.under (.builtin "type.__call__" ⟨.ref C :: us,kw⟩)).depth=A.depth+1:=by
 first | rfl | simp[Around.under,Code.weight,Code.isCreation,Code.isGuard,Code.isCaller,Code.frames,Code.isFrame,guardIds]
theorem uQ {A:Around}{C:Addr}{us:List Value}{kw:List (Str×Value)}:(A.under (.builtin "type.__call__" ⟨.ref C :: us,kw⟩)).units=A.units+1:=by
 first | rfl | simp[Around.under,Code.cUnits,Code.frames,Code.isFrame]
theorem Room.make {k:Nat}{A:Around}(r:Room (k+1) A)(C:Addr)(us:List Value)(kw:List (Str×Value)):Room k (A.under (.builtin "type.__call__" ⟨.ref C :: us,kw⟩)) :=
 ⟨r.hd,by have:=r.dp;rw[wA];omega,by have:=r.un;rw[uQ];omega⟩
theorem Room.depth {k:Nat}{A:Around}(r:Room k A):A.depth<recursionLimit:=by have:=r.dp;omega
theorem Room.units {k:Nat}{A:Around}(r:Room k A):A.units+64<cLine:=by have:=r.un;omega
def aLx:TA:=fun _ H Q=>Q [] H
def aJo (ta:TE)(tr:TA):TA:=fun σ H Q=>ta σ H fun x H1=>tr σ H1 fun xs H2=>Q (x :: xs) H2
section
variable {X:Cx}{e:Expr}{es:List Expr}{te:TE}{t:TA}{pos:Pos}
theorem qQ:PA X [] aLx:=fun _ _ _ _ H Q I h=>Calls.spliced_nil ⟨[],H,I,.nil,h⟩
theorem jC (ha:PE X e te)(hr:PA X es t)(hs:starEach (e :: es) X.env=(false,eval e X.env) :: starEach es X.env:=by rfl):PA X (e :: es) (aJo te t):=by
 intro pos pins s σ H Q I h;rw[hs];show wpAny _ _ (spliced ((false,eval e X.env) :: backTo pos (starEach es X.env))) _ _ s
 refine Calls.spliced_cons (thn (ha pins s σ H _ I h) fun u s1 ⟨x,H1,I1,r1,q1⟩=>?_)
 exact thn (hr pos pins s1 σ H1 _ I1 q1) fun us s2 ⟨xs,H2,I2,r2,q2⟩=>⟨x :: xs,H2,I2,.cons r1 r2,q2⟩
def aL7 (t:TA):TE:=fun σ H Q=>t σ H fun xs H1=>xs.length<=sizeLine/\∀ p,H1 p=none->Q (.ref p) (upd H1 p (.tup xs))
def aLu (t:TA):TE:=fun σ H Q=>t σ H fun xs H1=>xs.length<=sizeLine/\∀ p,H1 p=none->Q (.ref p) (upd H1 p (.lst xs))
theorem aG9 {x1}(h:PA X es t):PE X (.Tuple es x1 pos) (aL7 t):=by
 intro pins s σ H Q I hq;refine wpAny_Tuple_spliced (thn (h pos pins s σ H _ I hq) fun us s1 ⟨xs,H1,I1,r,z,q⟩=>⟨by rw[←r.length];exact z,?_⟩)
 have hf:H1 s1.heap.objs.size=none:=I1.hok.fresh (An _);refine⟨.ref s1.heap.objs.size,upd H1 s1.heap.objs.size (.tup xs),I1.laid (t':=s1.toks) (fun b u e=>Aa _ e) (An _) ?_,rfl,q _ hf⟩
 exact⟨z,us,r,⟨_,Av _ rfl,rfl,_,rfl⟩⟩
theorem aGn (h:PA X es t):PE X (.List es pos) (aLu t):=by
 intro pins s σ H Q I hq;refine wpAny_List_spliced (thn (h pos pins s σ H _ I hq) fun us s1 ⟨xs,H1,I1,r,z,q⟩=>⟨by rw[←r.length];exact z,?_⟩)
 have hf:H1 s1.heap.objs.size=none:=I1.hok.fresh (An _);refine⟨.ref s1.heap.objs.size,upd H1 s1.heap.objs.size (.lst xs),I1.laid (t':=s1.toks) (fun b u e=>Aa _ e) (An _) ?_,rfl,q _ hf⟩
 exact⟨z,us,0,r,Av _ rfl⟩
end
abbrev Sp:=List V->Hp->VK->XK->Prop
abbrev CXT:=List Env->Hp->Shared->XK->Value->Shared->Prop
structure Env0 (P:Program)(w:World)(K:PySem.W.Frag)(mg:Str->Option Value)(base:Heap)(A:Around)(outer:List Env)(s:Shared)(H:Hp):Prop where
 frames:A.frames=some outer
 mod:Mod K mg base
 bs:∀ b o,base.get? b=some o->s.heap.get? b=some o/\H b=none
 bsz:base.objs.size<=s.heap.objs.size
 funs:s.heap.FunFrames base outer
 frf:∀ b∈frs outer,H b=none
 hok:HOk P w H s.heap
 bare:AllBare s.gens
def CE (outer:List Env)(P:Program)(w:World)(H:Hp)(s:Shared)(Q:VK)(u:Value)(s':Shared):Prop :=
 ∃ v H',s'.os=s.os/\AllBare s'.gens/\Un (frs outer) [] H H' s.heap s'.heap/\HOk P w H' s'.heap/\bM v u/\Q v H'
def CR (CX:CXT)(outer:List Env)(P:Program)(w:World)(H:Hp)(s:Shared)(Q:VK)(E:XK)(r:Result)(s':Shared):Prop :=
 match r with
 | .ok (.ret u)=>CE outer P w H s Q u s'
 | .ok _=>False
 | .error e=>CX outer H s E e s'
structure FnOk (P:Program)(w:World)(K:PySem.W.Frag)(mg:Str->Option Value)(base:Heap)(CX:CXT)(k:Nat)(f:Addr)(fd:FuncData)(ps:List Str)(sp:Sp):Prop where
 len:∀ vs H Q E,sp vs H Q E->vs.length=ps.length
 run:∀ (A:Around) (outer:List Env) (s:Shared) (H:Hp) (args:Args) (us:List Value) (vs:List V) (Q:VK) (E:XK),Room k A->Env0 P w K mg base A outer s H->BindsTo s fd args (ps.zip us)->bH vs us->sp vs H Q E ->
  codeAny (model P w) A (.call (.ref f) args) (CR CX outer P w H s Q E) s
theorem FnOk.mono {P:Program}{w:World}{K:PySem.W.Frag}{mg:Str->Option Value}{base:Heap}{CX:CXT}{j k:Nat}{f:Addr}{fd:FuncData}{ps:List Str}{sp:Sp}(F:FnOk P w K mg base CX j f fd ps sp)(h:j<=k) :
 FnOk P w K mg base CX k f fd ps sp:=⟨F.len,fun A outer s H args us vs Q E hr=>F.run A outer s H args us vs Q E (hr.mono h)⟩
theorem Env0.make {P:Program}{w:World}{K:PySem.W.Frag}{mg:Str->Option Value}{base:Heap}{A:Around}{outer:List Env}{s:Shared}{H:Hp}(e:Env0 P w K mg base A outer s H)(C:Addr)(us:List Value)(kw:List (Str×Value)) :
 Env0 P w K mg base (A.under (.builtin "type.__call__" ⟨.ref C :: us,kw⟩)) outer s H:=⟨by first | exact e.frames | (simpa[Around.under,Code.envs,Code.isFrame,pushEnvs] using e.frames),e.mod,e.bs,e.bsz,e.funs,e.frf,e.hok,e.bare⟩
section
variable {X:Cx}{pins:List (Addr×Obj)}{σ:St}{H:Hp}{s s':Shared}
theorem Inv.env0 (I:Inv X pins σ H s):Env0 X.prog X.w X.K X.mg X.base X.A X.stack s H :=
 ⟨I.ok.frames,I.ok.mod,I.bs,Bn I.ok.bsz I.sz,I.stack,I.stkFree,I.hok,I.bare⟩
theorem Inv.after {Q:VK}{u:Value}(I:Inv X pins σ H s)(h:CE X.stack X.prog X.w H s Q u s'):EP X pins σ Q u s':=by
 obtain⟨v,H',os,bare,un,hok,r,q⟩:=h;obtain⟨hh,g,d,t,os'⟩:=s';obtain rfl:os'=s.os:=os;exact⟨v,H',I.call (h':=hh) (g':=g) (d':=d) (t':=t) (ch:=[]) un hok bare (fun b z=>absurd z (by simp)),r,q⟩
end
def aLa (C:Addr)(sp:Sp)(dvs:List V)(E:XK)(t:TA):TE:=fun σ H Q=>t σ H fun vs H1=>∀ x dx,H1 x=none->H1 dx=none->dx≠x ->
 sp (.ref x :: (vs++dvs)) (upd (upd H1 dx (.own x)) x (.ins C dx [])) (fun v H2=>v=.non/\Q (.ref x) H2) E
def gC (K:PySem.W.Frag)(fd:FuncData)(ps:List Str)(ds:List Value):Prop :=
 ∀ (s:Shared) (us:List Value),K.In s.heap->(us++ds).length=ps.length->BindsTo s fd ⟨us,[]⟩ (ps.zip (us++ds))
theorem gC.all {K:PySem.W.Frag}{fd:FuncData}{ps:List Str}(h:∀ us:List Value,us.length=ps.length->bindArgs fd ⟨us,[]⟩=pure (ps.zip us)):gC K fd ps []:=fun s us _ hl=>by
 rw[Dz]at hl ⊢;exact .of_eq (h us hl)
def vG (CX:CXT)(X:Cx)(E:XK):Prop:=∀ (pins:List (Addr×Obj)) (σ:St) (H:Hp) (s:Shared) (e:Value) (s':Shared),Inv X pins σ H s->CX X.stack H s E e s'->X.xe e s'
section
variable {X:Cx}{CX:CXT}{k:Nat}{f C:Addr}{fd:FuncData}{ps:List Str}{sp:Sp}{dvs:List V}{ds:List Value}{E:XK}{x m:Str}{p pos apos:Pos}{e o:Expr}{es:List Expr}{ta:TE}{t:TA}
structure Mk (K:PySem.W.Frag)(C f:Addr):Prop where
 makes:Fo K C=true
 init:Aq K (.ref C) "__init__" = some (some (.ref f))
 fn:PySem.W.isFn K (.ref f)=true
 kp:Ci K (.ref C)=true
theorem aBx {pins:List (Addr×Obj)}{σ:St}{H:Hp}{s:Shared}{Q:VK}{us:List Value}{vs:List V}(M:Mk X.K C f)(F:FnOk X.prog X.w X.K X.mg X.base CX k f fd ps sp)(hr:Room (k+1) X.A)(hb:gC X.K fd ps ds)(hd:bH dvs ds)
 (hx:vG CX X E) (I:Inv X pins σ H s) (r:bH vs us)
 (h:∀ x dx,H x=none->H dx=none->dx≠x->sp (.ref x :: (vs++dvs)) (upd (upd H dx (.own x)) x (.ins C dx [])) (fun v H2=>v=.non/\Q (.ref x) H2) E) :
 wpAny (model X.prog X.w) X.A (call (.ref C) us) (EP X pins σ Q) X.xe s:=by
 have hq:=h (s.heap.objs.size+1) s.heap.objs.size (I.hok.fresh (Ft _)) (I.hok.fresh (An _)) (Au (Fg _));have I2:=Inv.made (C:=C) I;have r2:bH (V.ref (s.heap.objs.size+1) :: (vs++dvs)) (Value.ref (s.heap.objs.size+1) :: (us++ds)):=.cons rfl (r.append hd)
 have hl:(Value.ref (s.heap.objs.size+1) :: us++ds).length=ps.length:=by
  have e:=r2.length;rw[F.len _ _ _ _ hq]at e;exact e.symm
 refine wpAny_call (aBq (f:=f) I.kIn M.makes M.init (beq_iff_eq.mp M.fn) (codeAny_mono (F.run _ X.stack _ _ ⟨Value.ref (s.heap.objs.size+1) :: us,[]⟩ (Value.ref (s.heap.objs.size+1) :: (us++ds)) _ _ E (hr.make C us [])
  (I2.env0.make C us []) (hb _ (Value.ref (s.heap.objs.size+1) :: us) I2.kIn hl) r2 hq) fun r s' hq'=>?_))
 cases r with
 | error e=>exact hx pins σ _ _ e s' I2 hq'
 | ok fl =>
  cases fl with
  | ret u =>
   obtain⟨v,H',I3,rv,ev,q3⟩:=I2.after hq';subst ev;exact⟨rv,⟨V.ref (s.heap.objs.size+1),H',I3,rfl,q3⟩⟩
  | next=>exact False.elim hq'
  | brk=>exact False.elim hq'
  | cont=>exact False.elim hq'
theorem aEv (M:Mk X.K C f)(F:FnOk X.prog X.w X.K X.mg X.base CX k f fd ps sp)(hr:Room (k+1) X.A)(hg:Gl X x)(hm:X.mg x=some (.ref C))(hb:gC X.K fd ps ds)(hd:bH dvs ds)(hx:vG CX X E)
 (ha:PA X (e :: es) t) (hdb:(x==("__debug__":Str))=false:=by decide) (he:starEach (e :: es) X.env=(false,eval e X.env) :: starEach es X.env:=by rfl) (hpl:(backTo pos (starEach es X.env)).any (·.1)=false:=by rfl) :
 PE X (.Call (.Name x p) (e :: es) [] pos) (aLa C sp dvs E t):=by
 intro pins s σ H Q I h;refine wpAny_Call_Name_kw (hV I hg hm ?_ hdb)
 refine PySem.W.callWith_K (h₀:=X.base) I.ok.mod.kin M.kp (thn (ha pos pins s σ H _ I h) fun us s1 ⟨vs,H1,I1,r,q⟩=>⟨I1.kIn,?_⟩) he hpl
 exact aBx M F hr hb hd hx I1 r q
end
structure FnScope (N P:List Str)(sc:Scope):Prop where
 kind:sc.kind=.function
 co:sc.isCoroutine=false
 gen:sc.isGenerator=false
 nd:N.Nodup
 pre:N.take P.length=P
 par:∀ x∈P,sc.names.lookup x=some .local\/sc.names.lookup x=some .cell
 nofree:∀ y∈sc.names,y.2≠.free
theorem pU {kindOf:Str->Option NameKind}{x:Str}:∀ {binds:List (Str×Value)} {m:Str->Option Value},(∀ v,(x,v)∉binds)->bindL kindOf binds m x=m x
 | [],_,_=>rfl
 | (n,v) :: r,m,h=>by
  unfold bindL;rw[pU fun w hw=>h w (Ab _ hw)];split
  · have:x≠n:=by rintro rfl;exact h v Af
    simp[this]
  · rfl
theorem pM {kindOf:Str->Option NameKind}{x:Str}:∀ {binds:List (Str×Value)} {m:Str->Option Value},(∀ v,(x,v)∉binds)->bindC kindOf binds m x=m x
 | [],_,_=>rfl
 | (n,v) :: r,m,h=>by
  unfold bindC;rw[pM fun w hw=>h w (Ab _ hw)];split
  · rfl
  · have:x≠n:=by rintro rfl;exact h v Af
    simp[this]
theorem pD {kindOf:Str->Option NameKind}{x:Str}{v:Value}:∀ {P:List Str} {vs:List Value} {i:Nat} {m:Str->Option Value},P.Nodup->P[i]?=some x->vs[i]?=some v->kindOf x=some .local ->
 bindL kindOf (P.zip vs) m x=some v
 | [],_,_,_,_,h,_,_=>by simp at h
 | _ :: _,[],_,_,_,_,h,_=>by simp at h
 | p :: P,w :: vs,0,m,nd,h1,h2,hk=>by
  simp at h1 h2;subst h1;subst h2
  show bindL kindOf ((p,w) :: P.zip vs) m p=_
  unfold bindL;rw[pU fun v hv=>(Bw.mp nd).1 (Df hv).1,if_pos hk];simp
 | p :: P,w :: vs,i+1,m,nd,h1,h2,hk=>by
  show bindL kindOf ((p,w) :: P.zip vs) m x=_
  unfold bindL;exact pD (i:=i) (Bw.mp nd).2 (by simpa using h1) (by simpa using h2) hk
theorem pG {kindOf:Str->Option NameKind}{x:Str}{v:Value}:∀ {P:List Str} {vs:List Value} {i:Nat} {m:Str->Option Value},P.Nodup->P[i]?=some x->vs[i]?=some v->kindOf x≠some .local ->
 bindC kindOf (P.zip vs) m x=some v
 | [],_,_,_,_,h,_,_=>by simp at h
 | _ :: _,[],_,_,_,_,h,_=>by simp at h
 | p :: P,w :: vs,0,m,nd,h1,h2,hk=>by
  simp at h1 h2;subst h1;subst h2
  show bindC kindOf ((p,w) :: P.zip vs) m p=_
  unfold bindC;rw[pM fun v hv=>(Bw.mp nd).1 (Df hv).1,if_neg hk];simp
 | p :: P,w :: vs,i+1,m,nd,h1,h2,hk=>by
  show bindC kindOf ((p,w) :: P.zip vs) m x=_
  unfold bindC;exact pG (i:=i) (Bw.mp nd).2 (by simpa using h1) (by simpa using h2) hk
def start (N:List Str)(vs:List V):St:=vs.map some++Ap (N.length-vs.length) none
def jO (CX:CXT)(P:Program)(w:World)(K:PySem.W.Frag)(mg:Str->Option Value)(base:Heap)(N:List Str)(qual:Str)(scope:Scope)(f:Addr)(cd:Value)(A:Around)(outer:List Env)(s:Shared)(H:Hp)(E:XK):Cx where
 prog:=P
 w:=w
 K:=K
 mg:=mg
 base:=base
 A:=A.deeper (envOfC qual scope s.heap.objs.size f cd)
 N:=N
 s₀:=s
 H₀:=H
 env:=envOfC qual scope s.heap.objs.size f cd
 outer:=outer
 stack:=envOfC qual scope s.heap.objs.size f cd :: outer
 ex:=[]
 calm:=true
 fn:=fun _=>true
 pn:=[]
 xe:=fun e s'=>wpAny (model P w) (A.deeper (envOfC qual scope s.heap.objs.size f cd)) (leaving (envOfC qual scope s.heap.objs.size f cd) e) (fun _ s''=>CX outer H s E e s'') (fun e' s''=>CX outer H s E e' s'') s'
theorem tY {sc:Scope}{n:Nat}{x:Str}(h:sc.names.lookup x=some .cell):∃ c,(cellsFrom n sc.names []).lookup x=some c:=by
 have q:=Dd sc.names n [] (.inl h);exact Dx.mp q
theorem yY {CX:CXT}{P:Program}{w:World}{K:PySem.W.Frag}{mg:Str->Option Value}{base:Heap}{N ps:List Str}{qual:Str}{scope:Scope}{f:Addr}{cd:Value}{A:Around}{outer:List Env}{s s1:Shared}{H:Hp}{E:XK}{us:List Value}{vs:List V}
 (S:FnScope N ps scope) (hd:A.handled=none) (e0:Env0 P w K mg base A outer s H) (hl:vs.length=ps.length) (r:bH vs us)
 (x:InCallC s s.heap.objs.size (bindL (envOfC qual scope s.heap.objs.size f cd).kindOf (ps.zip us) fun _=>none) (cellsFrom (s.heap.objs.size+1) scope.names []) (bindC (envOfC qual scope s.heap.objs.size f cd).kindOf (ps.zip us) fun _=>none) s1) :
 Inv (jO CX P w K mg base N qual scope f cd A outer s H E) [] (start N vs) H s1:=by
 have hpl:ps.length<=N.length:=by have:=congrArg Fv S.pre;rw[Bt]at this;omega
 obtain⟨h1,tk,rfl,hk⟩:=x.done;have noA:∀ b:Addr,b∉(jO CX P w K mg base N qual scope f cd A outer s H E).ex:=fun b z=>absurd (show b∈([]:List Addr) from z) (by simp)
 refine⟨⟨e0.mod,S.kind,rfl,rfl,An _,fun y z c h1 h2=>?_,fun y hy=>?_,fun y c _ h=>?_,fun _=>hd,Around.frames_deeper e0.frames,.inr ⟨rfl,rfl⟩,fun b z=>absurd z (noA b),e0.bs,e0.bsz,fun b _ _=>noA b,fun b z=>absurd z (noA b),e0.funs,e0.frf⟩,
  rfl,e0.bare,Un.kept hk,⟨_,x.toInCall.ns,fun i y v h1 h2 h3=>?_⟩,fun y c h=>⟨_,x.cell y c h⟩,e0.hok.fresh (An _),fun y c h=>?_,fun p hp=>absurd (show p∈([]:List (Addr×Obj)) from hp) (by simp),e0.hok.kept hk,?_⟩
 · exact name_of_addr x.apart (PySem.mem_of_lookup h1) (PySem.mem_of_lookup h2)
 · have hy:scope.names.lookup y=some .cell\/scope.names.lookup y=some .free:=hy
   rcases hy with hy | hy
   · exact tY hy
   · exact absurd rfl (S.nofree _ (PySem.mem_of_lookup hy))
 · exact Fk (x.above y c (PySem.mem_of_lookup h))
 · have hi:i<vs.length:=by
    unfold start at h2;by_cases hi:i<vs.length
    · exact hi
    · rw[Ar (by simpa using hi)]at h2
      rw[Dc]at h2;split at h2<;>cases h2
   have ha:vs[i]?=some v:=by
    unfold start at h2;rw[Bx (by simpa using hi),Be]at h2
    cases e:vs[i]? with
    | none=>rw[e]at h2;cases h2
    | some a=>rw[e]at h2;cases h2;rfl
   obtain⟨u,hu,rv⟩:=r.get ha
   have hp:ps[i]?=some y:=by
    rw[←S.pre,List.getElem?_take_of_lt (by omega)];exact h1
   have ndP:ps.Nodup:=by rw[←S.pre];exact S.nd.sublist (List.take_sublist _ _)
   refine⟨u,rv,?_⟩
   rcases S.par y (Cw hp) with k | k
   · exact .inl ⟨k,pD ndP hp hu k⟩
   · obtain⟨c,e⟩:=tY (n:=s.heap.objs.size+1) k
     refine .inr ⟨.inl k,c,e,?_⟩
     have q:=x.cell y c e;rw[pG ndP hp hu (by show scope.names.lookup y≠_;rw[k];decide)]at q
     exact q
 · exact e0.hok.fresh (Fk (x.above y c (PySem.mem_of_lookup h)))
 · unfold start
   show _=N.length
   rw[As,Ah,Cd];omega
theorem zK {CX:CXT}{P:Program}{w:World}{K:PySem.W.Frag}{mg:Str->Option Value}{base:Heap}{k:Nat}{f:Addr}{name qual:Str}{params:Arguments}{body:List Stmt}{scope:Scope}{dV kV doc pm cdv ct oc:Value}{an od:Option Addr}
 {osl:Array (Option Value)} {N ps:List Str} {sp:Sp} (lk:K.lookup f=some ⟨oc,od,.func (Cb name qual params body scope dV kV doc pm an cdv ct),osl⟩) (hcd:Da K cdv qual=true) (S:FnScope N ps scope)
 (len:∀ vs H Q E,sp vs H Q E->vs.length=ps.length)
 (hbody:∀ (A:Around) (outer:List Env) (s:Shared) (H:Hp) (vs:List V) (Q:VK) (E:XK),Room k (A.deeper (envOfC qual scope s.heap.objs.size f cdv))->sp vs H Q E ->
  ∃ t,PSs (jO CX P w K mg base N qual scope f cdv A outer s H E) body t/\t { nx:=fun _ H'=>Q .non H',rt:=Q } (start N vs) H) :
 FnOk P w K mg base CX (k+1) f (Cb name qual params body scope dV kV doc pm an cdv ct) ps sp:=by
 refine⟨len,fun A outer s H args us vs Q E hr e0 hb r hsp=>?_⟩
 have hl:=len _ _ _ _ hsp;have KX:K.In s.heap:=e0.mod.kin.keeps fun b o e=>(e0.bs b o e).1;have lim:s.heap.NoLimit:=e0.mod.nolimit.keeps fun b o e=>(e0.bs b o e).1
 have hkind:∀ y∈ps.zip us,scope.names.lookup y.1=some .local\/(scope.names.lookup y.1=some .cell/\((cellsFrom (s.heap.objs.size+1) scope.names []).lookup y.1).isSome=true):=fun⟨n,v⟩ hy=>by
  rcases S.par n (Df hy).1 with q | q
  · exact .inl q
  · exact .inr ⟨q,Dd _ _ _ (.inl q)⟩
 refine codeAny_call_function hr.depth (KX _ _ lk) rfl S.co S.gen rfl (PySem.W.codeRec_of KX hcd) (hb _ _ _ _ ?_)
 refine wpAny_newFunctionEnv_cells S.kind hkind fun env he s1 x=>?_
 subst he;refine⟨lim.keeps x.toInCall.keep,codeAny_func ?_⟩
 obtain⟨t,ht,hq⟩:=hbody A outer s H vs Q E (hr.deeper _) hsp;have I:Inv (jO CX P w K mg base N qual scope f cdv A outer s H E) [] (start N vs) H s1:=yY S hr.hd e0 hl r x;refine wpAny_mono (ht [] s1 (start N vs) H _ I hq) (fun fl s' hs=>?_) fun e s' hs=>hs
 have fin:∀ {σ':St} {H':Hp} {v:V} {u:Value},Inv (jO CX P w K mg base N qual scope f cdv A outer s H E) [] σ' H' s'->bM v u->Q v H'->CE outer P w H s Q u s' :=
  fun {σ' H' v u} J rv q=>⟨v,H',J.os,J.bare,J.base,J.hok,rv,q⟩
 cases fl with
 | ret u =>
  obtain⟨v,σ',H',J,rv,q⟩:=hs;exact fin J rv q
 | next =>
  obtain⟨σ',H',J,q⟩:=hs;exact fin (v:=V.non) (u:=Value.none) J rfl q
 | brk =>
  obtain⟨_,_,_,q⟩:=hs;exact False.elim q
 | cont =>
  obtain⟨_,_,_,q⟩:=hs;exact False.elim q
end L2
namespace L2
open PySem PySem.Spec PyProof.Rows
section
variable {X:Cx}{x:Str}{p pos:Pos}{e:Expr}{es:List Expr}{t:TA}{id T:String}{r:List V->Hp->VK->Prop}
def tCB (r:List V->Hp->VK->Prop)(t:TA):TE:=fun σ H Q=>t σ H fun vs H1=>r vs H1 Q
theorem iT (hc:kM X (.builtin id) r)(hg:Gl X x)(hm:X.mg x=none)(hv:bootBuiltins x=some (.builtin id))(ha:PA X (e :: es) t)(hn:x ≠ "__name__":=by decide)(hdb:(x==("__debug__":Str))=false:=by decide)
 (he:starEach (e :: es) X.env=(false,eval e X.env) :: starEach es X.env:=by rfl) (hpl:(backTo pos (starEach es X.env)).any (·.1)=false:=by rfl):PE X (.Call (.Name x p) (e :: es) [] pos) (tCB r t):=by
 intro pins s σ H Q I h;refine wpAny_Call_Name_kw (iO I hg hm hv ?_ hn hdb)
 exact PyProof.Rows.callWith_builtin1 (thn (ha pos pins s σ H _ I h) fun us s1 ⟨vs,H1,I1,r1,q1⟩=>hc pins s1 σ H1 vs us Q I1 r1 q1) he hpl
theorem zC (hc:kM X (.type T) r)(hg:Gl X x)(hm:X.mg x=none)(hv:bootBuiltins x=some (.type T))(ha:PA X (e :: es) t)(hn:x ≠ "__name__":=by decide)(hdb:(x==("__debug__":Str))=false:=by decide)
 (he:starEach (e :: es) X.env=(false,eval e X.env) :: starEach es X.env:=by rfl) (hpl:(backTo pos (starEach es X.env)).any (·.1)=false:=by rfl):PE X (.Call (.Name x p) (e :: es) [] pos) (tCB r t):=by
 intro pins s σ H Q I h;refine wpAny_Call_Name_kw (iO I hg hm hv ?_ hn hdb)
 exact Bu (thn (ha pos pins s σ H _ I h) fun us s1 ⟨vs,H1,I1,r1,q1⟩=>hc pins s1 σ H1 vs us Q I1 r1 q1) he hpl
end
end L2
namespace HT
open PySem PyProof.Rows
def aF3:List Int->List Int->Bool
 | [],[]=>false
 | [],_ :: _=>true
 | _ :: _,[]=>false
 | x :: xs,y :: ys=>if x=y then aF3 xs ys else decide (x<y)
section
variable {prog:Program}{w:World}{A:Around}{E:Value->Shared->Prop}{s:Shared}
def sIx (n d:Nat):Option Int->Nat
 | none=>d
 | some v=>if v<0 then (v+(n:Int)).toNat else min v.toNat n
theorem nV (n d:Nat):sIx n d none=d:=rfl
theorem mK (n d k:Nat):sIx n d (some (k:Int))=min k n:=by
 show (if (k:Int)<0 then ((k:Int)+(n:Int)).toNat else min (k:Int).toNat n)=min k n
 rw[if_neg (by omega),Int.toNat_natCast]
end
end HT
namespace L2
open PySem PySem.Spec PyProof.Rows
abbrev TO:=St->Hp->(Option Int->Hp->Prop)->Prop
def PO (X:Cx)(e:Option Expr)(t:TO):Prop :=
 ∀ (pins:List (Addr×Obj)) (s:Shared) (σ:St) (H:Hp) (Q:Option Int->Hp->Prop),Inv X pins σ H s->t σ H Q ->
  wpAny (model X.prog X.w) X.A (evalPart e X.env) (fun u s'=>∃ o H',Inv X pins σ H' s'/\IsPart u o/\Q o H') X.xe s
def aDg:TO:=fun _ H Q=>Q none H
def aJv (t:TE):TO:=fun σ H Q=>t σ H fun x H1=>∃ i,x=.int i/\Q (some i) H1
section
variable {X:Cx}{e:Expr}{te:TE}{lo hi:Option Expr}{tl th:TO}{pos p2:Pos}
theorem aE7:PO X none aDg:=by
 intro pins s σ H Q I h;rw[evalPart_none];exact wpAny_pure ⟨none,H,I,.none,h⟩
theorem aDv (h:PE X e te):PO X (some e) (aJv te):=by
 intro pins s σ H Q I hw;rw[evalPart_some];refine thn (h pins s σ H _ I hw) fun u s1 ⟨x,H1,I1,r1,q1⟩=>?_
 obtain⟨i,rfl,q⟩:=q1;obtain⟨t,rfl⟩:=r1;exact⟨some i,H1,I1,.int i t,q⟩
def SlR (X:Cx)(r:V->Option Int->Option Int->Hp->VK->Prop):Prop :=
 ∀ (pins:List (Addr×Obj)) (s:Shared) (σ:St) (H:Hp) (x:V) (v vl vu:Value) (lo hi:Option Int) (sl:Addr) (Q:VK),Inv X pins σ H s->bM x v->s.heap.IsSliceOf sl vl vu .none->IsPart vl lo->IsPart vu hi->r x lo hi H Q ->
  ∃ T id,typeLookup (.type T) "__getitem__" = pure (some (.builtin id))/\s.TypeIs v T/\wpAny (model X.prog X.w) X.A (getItem v (.ref sl)) (EP X pins σ Q) X.xe s
def tSl (r:V->Option Int->Option Int->Hp->VK->Prop)(te:TE)(tl th:TO):TE:=fun σ H Q=>te σ H fun x H1=>tl σ H1 fun l H2=>th σ H2 fun u H3=>r x l u H3 Q
theorem aAt {r:V->Option Int->Option Int->Hp->VK->Prop}(hr:SlR X r)(he:PE X e te)(hl:PO X lo tl)(hu:PO X hi th):PE X (.Subscript e (.Slice lo hi none p2) pos) (tSl r te tl th):=by
 intro pins s σ H Q I h;refine Subscript_ (thn (he pins s σ H _ I h) fun v s1 ⟨x,H1,I1,r1,q1⟩=>?_)
 refine wpAny_Slice (thn (hl pins s1 σ H1 _ I1 q1) fun vl s2 ⟨l,H2,I2,pl,q2⟩=>thn (hu pins s2 σ H2 _ I2 q2) fun vu s3 ⟨u,H3,I3,pu,q3⟩=>?_)
 rw[evalPart_none];refine wpAny_pure ?_
 have I4:Inv X pins σ H3 { s3 with heap:=s3.heap.push { cls:=.type "slice",data:=.fields #[vl,vu,.none] } }:=I3.kept (t':=s3.toks) fun b ob q=>Aa _ q
 obtain⟨T,id,hT,ht,hg⟩:=hr pins { s3 with heap:=s3.heap.push { cls:=.type "slice",data:=.fields #[vl,vu,.none] } } σ H3 x v vl vu l u s3.heap.objs.size Q I4 r1 (Heap.IsSliceOf.new ..) pl pu q3
 show wpAny (model X.prog X.w) X.A (subscriptTail e (.Slice lo hi none p2) v (.ref s3.heap.objs.size)) (EP X pins σ Q) X.xe { s3 with heap:=s3.heap.push { cls:=.type "slice",data:=.fields #[vl,vu,.none] } }
 exact tail_any (ops:=[.ref s3.heap.objs.size,v]) ht hT hg (by with_unfolding_all rfl)
def zI (xs:List V)(lo hi:Option Int):List V:=(xs.drop (HT.sIx xs.length 0 lo)).take (HT.sIx xs.length xs.length hi-HT.sIx xs.length 0 lo)
theorem tH (xs:List V)(lo hi:Option Int):(zI xs lo hi).length<=xs.length:=by
 unfold zI;rw[Bt,Cf];omega
end
end L2
namespace L2
open PySem PySem.Spec PyProof.Rows
def ixN (n:Nat)(i:Int):Option Nat:=if 0<=i then (if i<n then some i.toNat else none) else if -(n:Int)<=i then some (i+n).toNat else none
def atI {α:Type}(xs:List α)(i:Int):Option α:=(ixN xs.length i).bind fun j=>xs[j]?
theorem xN {n:Nat}{i:Int}{j:Nat}(h:ixN n i=some j):seqIndex? i n=some j/\j<n/\-(n:Int)<=i/\i<n:=by
 unfold ixN at h;by_cases h0:0<=i
 · rw[if_pos h0]at h
   by_cases h1:i<n
   · rw[if_pos h1]at h
     have e:i.toNat=j:=Ca.inj h;exact⟨by rw[seqIndex_of h0 h1,e],by omega,by omega,h1⟩
   · rw[if_neg h1]at h;cases h
 · rw[if_neg h0]at h
   by_cases h1:-(n:Int)<=i
   · rw[if_pos h1]at h
     have e:(i+n).toNat=j:=Ca.inj h;exact⟨by rw[seqIndex_neg (by omega) h1,e],by omega,h1,by omega⟩
   · rw[if_neg h1]at h;cases h
theorem xT {α:Type}{xs:List α}{i:Int}{v:α}(h:atI xs i=some v):∃ j,seqIndex? i xs.length=some j/\xs[j]?=some v/\j<xs.length/\-(xs.length:Int)<=i/\i<xs.length:=by
 unfold atI at h;cases e:ixN xs.length i with
 | none=>rw[e]at h;cases h
 | some j =>
  rw[e]at h;obtain⟨h1,h2,h3,h4⟩:=xN e;exact⟨j,h1,h,h2,h3,h4⟩
theorem wY {α:Type}{xs:List α}{j:Nat}{v:α}(h:xs[j]?=some v):atI xs (j:Int)=some v:=by
 have hj:j<xs.length:=(Ao.mp h).1
 have e:ixN xs.length (j:Int)=some j:=by
  unfold ixN;rw[if_pos (by omega),if_pos (by omega)];simp
 unfold atI;rw[e];exact h
def xA (b:Expr):Prop:=∀ o i,subscripted b false o i=operate [o,i] (getItem o i)
def IxR (X:Cx)(r:R2):Prop :=
 ∀ (value slice:Expr) (pins:List (Addr×Obj)) (s:Shared) (σ:St) (H:Hp) (x y:V) (v u:Value) (Q:VK),Inv X pins σ H s->bM x v->bM y u->r x y H Q ->
  subscripted slice false v u=operate [v,u] (getItem v u)->wpAny (model X.prog X.w) X.A (subscriptTail value slice v u) (EP X pins σ Q) X.xe s
def MtR (X:Cx)(id:String)(r:V->List V->Hp->VK->Prop):Prop :=
 ∀ (pins:List (Addr×Obj)) (s:Shared) (σ:St) (H:Hp) (x:V) (xs:List V) (v:Value) (us:List Value) (Q:VK),Inv X pins σ H s->bM x v->bH xs us->r x xs H Q ->
  wpAny (model X.prog X.w) X.A (call (.builtin id) (v :: us)) (EP X pins σ Q) X.xe s
section
variable {X:Cx}{a b:Expr}{ta tb:TE}{pos:Pos}
theorem aKt {r:R2}(hr:IxR X r)(ha:PE X a ta)(hb:PE X b tb)(hs:xA b):PE X (.Subscript a b pos) (tOp r ta tb):=by
 intro pins s σ H Q I h;exact Subscript_ (aH6 ha hb I h fun v u s2 x y H2 I2 rx ry q=>hr a b pins s2 σ H2 x y v u Q I2 rx ry q (hs _ _))
def aEl (K:PySem.W.Frag):R2:=fun x y H Q=>∃ p xs i v,x=.ref p/\y=.int i/\SqL K H p xs/\atI xs i=some v/\Q v H
def aDo (K:PySem.W.Frag):R2:=fun x y H Q=>∃ p xs i v,x=.ref p/\y=.int i/\SqT K H p xs/\atI xs i=some v/\Q v H
theorem aC8:IxR X (aEl X.K):=by
 intro value slice pins s σ H x y v u Q I rx ry h hs;obtain⟨p,xs,i,z,rfl,rfl,hq,he,q⟩:=h;cases rx;obtain⟨t,rfl⟩:=ry;obtain⟨its,r,pl,hz⟩:=I.list hq;obtain⟨j,h1,h2,h3,h4,h5⟩:=xT he;obtain⟨w,ew,rw'⟩:=r.get h2;have hl:=r.length;have hn:=nJ;have fin:EP X pins σ Q w s:=⟨z,H,I,rw',q⟩;by_cases h0:0<=i
 · have hj:i.toNat=j:=by
    rw[seqIndex_of h0 h5]at h1;exact Ca.inj h1
   exact item_listR pl.isList h0 (by omega) (by rw[hj];simpa using ew) fin hs
 · have hj:(i+(its.toArray.size:Int)).toNat=j:=by
    rw[seqIndex_neg (by omega) h4]at h1
    rw[Aj,←hl];exact Ca.inj h1
   exact subscriptTail_builtinR (x:=w) pl.isList.typeIs slot_list_getitem.lookup
    (wpAny_getItem_list_neg (Q:=fun r s'=>r=w/\EP X pins σ Q r s') pl.isList (by omega) (by rw[Aj]<;>omega) (by omega) (by rw[hj];simpa using ew) ⟨rfl,fin⟩) hs
theorem aH1:IxR X (aDo X.K):=by
 intro value slice pins s σ H x y v u Q I rx ry h hs;obtain⟨p,xs,i,z,rfl,rfl,hq,he,q⟩:=h;cases rx;obtain⟨t,rfl⟩:=ry;obtain⟨its,r,pl,hz⟩:=I.tuple hq;obtain⟨j,h1,h2,h3,h4,h5⟩:=xT he;obtain⟨w,ew,rw'⟩:=r.get h2;have hl:=r.length;have hn:=nJ;have fin:EP X pins σ Q w s:=⟨z,H,I,rw',q⟩
 exact subscriptTail_builtinR (x:=w) pl.typeIs slot_tuple_getitem.lookup
  (getItem_tuple (j:=j) (Q:=fun r s'=>r=w/\EP X pins σ Q r s') pl (by omega) (by omega) (by rw[Aj,←hl];exact h1) (by simpa using ew) ⟨rfl,fin⟩) hs
theorem uS (its:List Value)(n j:Nat)(u:Value):Obj.mapSeq (·.setIfInBounds j u) { cls:=.type "list",data:=.seq its.toArray n }={ cls:=.type "list",data:=.seq (its.set j u).toArray n }:=by
 simp[Obj.mapSeq]
theorem Inv.lst {pins:List (Addr×Obj)}{σ:St}{H:Hp}{s:Shared}{p:Addr}{xs:List V}(I:Inv X pins σ H s)(h:H p=some (.lst xs)) :
 ∃ (its:List Value) (n:Nat),bH xs its/\s.heap.get? p=some { cls:=.type "list",data:=.seq its.toArray n }/\xs.length<=sizeLine:=by
 obtain⟨z,its,n,r,e⟩:=I.hok p _ h;exact⟨its,n,r,e,z⟩
theorem Inv.lstUpd {pins:List (Addr×Obj)}{σ:St}{H:Hp}{s:Shared}{p:Addr}{xs ys:List V}{its its':List Value}{n n':Nat}{f:Obj->Obj}(I:Inv X pins σ H s)(h:H p=some (.lst xs))
 (ho:s.heap.get? p=some { cls:=.type "list",data:=.seq its.toArray n }) (hf:f { cls:=.type "list",data:=.seq its.toArray n }={ cls:=.type "list",data:=.seq its'.toArray n' }) (r:bH ys its') (hz:ys.length<=sizeLine) (t:Nat) :
 Inv X pins σ (upd H p (.lst ys)) { s with heap:=s.heap.update p f,toks:=t }:=by
 have e:(s.heap.update p f).get? p=some { cls:=.type "list",data:=.seq its'.toArray n' }:=by
  rw[Cp f ho (by rw[hf]<;>rfl),hf]
 refine I.write (x:=p) (e:=p) (by rw[h];trivial) (.inl rfl) (fun b u hb q=>(Cn _ _ (Ne.symm hb)).trans q) ⟨_,e⟩ ?_
 exact⟨hz,its',n',r,e⟩
def aFm:V->V->V->Hp->(Hp->Prop)->Prop:=fun o i v H Q=>∃ p xs k j,o=.ref p/\i=.int k/\H p=some (.lst xs)/\ixN xs.length k=some j/\Q (upd H p (.lst (xs.set j v)))
theorem aBs:aI6 X aFm:=by
 intro pins s σ H o i v ov iv u Q I ro ri rv h;obtain⟨p,xs,k,j,rfl,rfl,hp,hj,q⟩:=h;cases ro;obtain⟨t,rfl⟩:=ri;obtain⟨its,n,r,ho,hz⟩:=I.lst hp;obtain⟨h1,h2,h3,h4⟩:=xN hj;have hl:=r.length;have hn:=nJ
 have I':Inv X pins σ (upd H p (.lst (xs.set j v))) { s with heap:=s.heap.update p (Obj.mapSeq (·.setIfInBounds j u)) } :=
  I.lstUpd hp ho (uS its n j u) (r.set rv j) (by rw[Az];exact hz) s.toks
 by_cases h0:0<=k
 · have hk:k.toNat=j:=by
    rw[seqIndex_of h0 h4]at h1;exact Ca.inj h1
   exact PySem.W.ki_setAt ho h0 (by omega) (by rw[Aj,←hl];exact h4) (by rw[hk];exact⟨_,I',q⟩)
 · have hk:(k+(its.toArray.size:Int)).toNat=j:=by
    rw[seqIndex_neg (by omega) h3]at h1
    rw[Aj,←hl];exact Ca.inj h1
   exact PySem.W.ki_setBack ho (by omega) (by rw[Aj,←hl];exact h3) (by omega) (by rw[hk];exact⟨_,I',q⟩)
theorem qN (lo hi:Option Int)(n:Nat):(sliceBounds lo hi none n).1=((HT.sIx n 0 lo:Nat):Int)/\(sliceBounds lo hi none n).2.1=((HT.sIx n n hi:Nat):Int)/\(sliceBounds lo hi none n).2.2=1:=by
 refine⟨?_,?_,rfl⟩
 · cases lo with
   | none=>simp[sliceBounds,HT.sIx]
   | some i =>
    simp only[sliceBounds,HT.sIx,Option.getD_none,show (1:Int)>0 by decide,if_true]
    by_cases h:i<0
    · simp only[h,if_true]<;>omega
    · simp only[h,if_false]<;>omega
 · cases hi with
   | none=>simp[sliceBounds,HT.sIx]
   | some i =>
    simp only[sliceBounds,HT.sIx,Option.getD_none,show (1:Int)>0 by decide,if_true]
    by_cases h:i<0
    · simp only[h,if_true]<;>omega
    · simp only[h,if_false]<;>omega
theorem oQ (its:List Value)(lo hi:Option Int):slicePick its.toArray lo hi none=((its.drop (HT.sIx its.length 0 lo)).take (HT.sIx its.length its.length hi-HT.sIx its.length 0 lo)).toArray:=by
 obtain⟨h1,h2,h3⟩:=qN lo hi its.toArray.size;unfold slicePick;rw[h1,h2,h3];simp only[sliceRange_one,pick_run,Aj]<;>rfl
def aJ0 (K:PySem.W.Frag):V->Option Int->Option Int->Hp->VK->Prop:=fun x lo hi H Q=>∃ a xs,x=.ref a/\SqL K H a xs/\∀ p,H p=none->Q (.ref p) (upd H p (.lst (zI xs lo hi)))
theorem aDk:SlR X (aJ0 X.K):=by
 intro pins s σ H x v vl vu lo hi sl Q I rx hs pl pu h;obtain⟨a,xs,rfl,hx,q⟩:=h;cases rx;obtain⟨its,r,ht,hz⟩:=I.list hx;have hlen:=r.length;refine⟨"list",_,slot_list_getitem.lookup,ht.isList.typeIs,?_⟩
 refine wpAny_getItem_list_slice ht.isList hs pl pu .none (by simp) ?_ (by rw[Aj]<;>omega)
 rw[oQ,←hlen];refine⟨.ref s.heap.objs.size,_,I.laid (t':=s.toks) (o:=.lst (zI xs lo hi)) (fun b ob q=>Aa _ q) (An _) ?_,rfl,q _ (I.hok.fresh (An _))⟩
 exact⟨Bn (tH xs lo hi) hz,_,0,(r.drop (HT.sIx xs.length 0 lo)).take (HT.sIx xs.length xs.length hi-HT.sIx xs.length 0 lo),Av _ rfl⟩
theorem qI:kM X (.builtin "len") (fun xs H Q=>∃ p ys,xs=[.ref p]/\(SqL X.K H p ys\/SqT X.K H p ys)/\Q (.int ys.length) H):=by
 intro pins s σ H xs us Q I r h;obtain⟨p,ys,rfl,hq,q⟩:=h;obtain⟨u,rfl,rx⟩:=xF r;cases rx;have hn:=nJ;rcases hq with hq | hq
 · obtain⟨its,r',pl,hz⟩:=I.list hq
   have hlen:=r'.length;exact Calls.call_len_list pl.isList (by simp only[Aj]<;>omega) ⟨.int ys.length,H,I.tok _,⟨s.toks+1,by rw[Aj,hlen]⟩,q⟩
 · obtain⟨its,r',pl,hz⟩:=I.tuple hq
   have hlen:=r'.length;exact len_tuple pl (by simp only[Aj]<;>omega) ⟨.int ys.length,H,I.tok _,⟨s.toks+1,by rw[Aj,hlen]⟩,q⟩
theorem rX:kM X (.type "list") (fun xs H Q=>∃ p ys,xs=[.ref p]/\(SqL X.K H p ys\/SqT X.K H p ys)/\∀ l,H l=none->Q (.ref l) (upd H l (.lst ys))):=by
 intro pins s σ H xs us Q I r h;obtain⟨p,ys,rfl,hq,q⟩:=h;obtain⟨u,rfl,rx⟩:=xF r;cases rx
 have fin:∀ (its:List Value),bH ys its->ys.length<=sizeLine->∀ (h':Heap) (c':Nat),(∀ b o',s.heap.get? b=some o'->h'.get? b=some o') ->
  h'.get? s.heap.objs.size=some { cls:=.type "list",dict:=none,data:=.seq its.toArray c',slots:=#[] }->EP X pins σ Q (.ref s.heap.objs.size) { s with heap:=h' }:=fun its r' hz h' c' kp e =>
  ⟨.ref s.heap.objs.size,_,I.laid (t':=s.toks) kp (An _) (show cK X.prog X.w _ h' _ (.lst ys) from ⟨hz,its,c',r',e⟩),rfl,q _ (I.hok.fresh (An _))⟩
 rcases hq with hq | hq
 · obtain⟨its,r',pl,hz⟩:=I.list hq
   have hlen:=r'.length;obtain⟨o,ho,hc,n,hd⟩:=pl.isList;exact call_list_seq p (.inl rfl) ho hc hd (fun h' c' kp e=>fin its r' hz h' c' kp e) (by simp only[Aj]<;>omega)
 · obtain⟨its,r',pl,hz⟩:=I.tuple hq
   have hlen:=r'.length;obtain⟨o,ho,hc,n,hd⟩:=pl;exact call_list_seq p (.inr rfl) ho hc hd (fun h' c' kp e=>fin its r' hz h' c' kp e) (by simp only[Aj]<;>omega)
def tyV (K:PySem.W.Frag)(T:String)(x:V)(H:Hp):Prop:=match x with
 | .str _=>T = "str"
 | .int _=>T = "int"
 | .ref p=>(T = "list"/\∃ xs,SqL K H p xs)\/(T = "tuple"/\∃ o,K.lookup p=some o/\o.cls=.type "tuple"/\o.dict=none) \/
  (T = "dict"/\((∃ kvs,H p=some (.dK kvs))\/∃ kvs,H p=some (.dT kvs)))\/(T = "set"/\∃ S n,H p=some (.set S n))
 | _=>False
theorem aIn {pins:List (Addr×Obj)}{σ:St}{H:Hp}{s:Shared}{T:String}{x:V}{v:Value}(I:Inv X pins σ H s)(r:bM x v)(ty:tyV X.K T x H) :
 s.TypeIs v T/\∀ a,v=.ref a->∃ ob,s.heap.get? a=some ob/\ob.dict=none:=by
 cases x with
 | str z =>
  obtain⟨t,rfl⟩:=r;cases (show T = "str" from ty)
  exact⟨typeIs_str s z t,fun _ e=>nomatch e⟩
 | int i =>
  obtain⟨t,rfl⟩:=r;cases (show T = "int" from ty)
  exact⟨typeIs_int s i t,fun _ e=>nomatch e⟩
 | ref p =>
  cases r;rcases ty with ⟨rfl,xs,hq⟩ | ⟨rfl,o,hk,hc,hd⟩ | ⟨rfl,hk⟩ | ⟨rfl,S,n,hk⟩
  · obtain⟨its,_,pl,_⟩:=I.list hq
    refine⟨pl.isList.typeIs,fun a e=>?_⟩
    cases e;obtain⟨o,n,e,c,hd,_⟩:=pl;exact⟨o,e,hd⟩
  · refine⟨⟨o,I.kIn p o hk,hc⟩,fun a e=>?_⟩
    cases e;exact⟨o,I.kIn _ o hk,hd⟩
  · have z:∃ o,s.heap.get? p=some o/\o.ExactDict:=by
     rcases hk with ⟨kvs,hk⟩ | ⟨kvs,hk⟩
     · obtain⟨_,_,_,_,o,_,_,e,ex,_⟩:=I.hok p _ hk
       exact⟨o,e,ex⟩
     · obtain⟨_,_,_,_,o,_,_,e,ex,_⟩:=I.hok p _ hk
       exact⟨o,e,ex⟩
    obtain⟨o,e,ex⟩:=z;refine⟨⟨o,e,ex.1⟩,fun a e2=>?_⟩
    cases e2;exact⟨o,e,ex.2.1⟩
  · obtain⟨o,_,_,_,e,ex,_⟩:=I.hok p _ hk
    refine⟨⟨o,e,ex.1⟩,fun a e2=>?_⟩
    cases e2;exact⟨o,e,ex.2.1⟩
 | _=>exact False.elim ty
def tBM (K:PySem.W.Frag)(T:String)(r:V->List V->Hp->VK->Prop)(to:TE)(t:TA):TE:=fun σ H Q=>to σ H fun x H1=>tyV K T x H1/\t σ H1 fun xs H2=>r x xs H2 Q
variable {o e:Expr}{es:List Expr}{to:TE}{t:TA}{name:Str}{apos cpos:Pos}{T id:String}{r:V->List V->Hp->VK->Prop}
theorem aLk (pa:PlainAttrs T)(slot:Slot T name id)(hty:typeOf (.builtin id)=pure (.type "method_descriptor"))(hm:MtR X id r)(ho:PE X o to)(ha:PA X (e :: es) t)
 (hbase:attributeBase o name X.env (eval o X.env)=eval o X.env:=by rfl)
 (hfew:((backTo cpos (starEach (e :: es) X.env)).all (fun x=>!x.1)&&(backToKw cpos (keywordEach [] X.env)).all (fun x=>x.1.isSome)
  && decide ((e :: es).length+([]:List Keyword).length+(if ([]:List Keyword).isEmpty then 0 else 1)<30))=true:=by rfl)
 (hline:(apos.endLine==cpos.line)=true:=by rfl) (hs:starEach (e :: es) X.env=(false,eval e X.env) :: starEach es X.env:=by rfl) (hplain:(backTo cpos (starEach es X.env)).any (·.1)=false:=by rfl) :
 PE X (.Call (.Attribute o name apos) (e :: es) [] cpos) (tBM X.K T r to t):=by
 intro pins s σ H Q I h;refine wpAny_Call_method_late hbase hfew hline rfl (thn (ho pins s σ H _ I h) fun v s1 ⟨x,H1,I1,r1,ty,q1⟩=>?_)
 obtain⟨h1,h2⟩:=aIn I1 r1 ty;refine⟨T,id,pa,slot,hty,h1,h2,?_⟩
 have hA:=ha cpos pins s1 σ H1 _ I1 q1;rw[hs]at hA ⊢;refine Calls.callWith_builtin (by show (false||(backTo cpos (starEach es X.env)).any (·.1))=false;rw[hplain]<;>rfl) (Calls.evalArgs_plain ?_)
 exact thn hA fun us s2 ⟨vs,H2,I2,r2,q2⟩=>hm pins s2 σ H2 x vs v us Q I2 r1 r2 q2
end
end L2
namespace L2
open PySem PySem.Spec PyProof.Rows
def MtM (X:Cx)(id:String)(r:V->List V->Hp->VK->Prop):Prop :=
 ∀ (pins:List (Addr×Obj)) (s:Shared) (σ:St) (H:Hp) (x:V) (xs:List V) (v:Value) (us:List Value) (Q:VK),Inv X pins σ H s->bM x v->bH xs us->r x xs H Q ->
  wpAny (model X.prog X.w) X.A (call (.builtin id) (v :: us)) (EP X pins σ Q) X.xe s
theorem bH.one:∀ {x:V} {us:List Value},bH [x] us->∃ u,us=[u]/\bM x u
 | _,_,.cons r .nil=>⟨_,rfl,r⟩
theorem bH.zero:∀ {us:List Value},bH [] us->us=[]
 | _,.nil=>rfl
theorem bH.dropLast {xs:List V}{us:List Value}(h:bH xs us):bH xs.dropLast us.dropLast:=by
 induction h with
 | nil=>exact .nil
 | cons r t ih =>
  cases t with
  | nil=>exact .nil
  | cons q t'=>exact .cons r ih
theorem bH.rep {xs:List V}{us:List Value}(h:bH xs us):∀ k:Nat,bH (Ap k xs).flatten (Ap k us).flatten
 | 0=>.nil
 | k+1=>by
  rw[Cc,Cc,Cu,Cu];exact bH.append h (bH.rep h k)
theorem pO (its:List Value):∀ (k:Nat) (acc:List Value),
 List.foldl (fun x1 x2=>x1++x2) acc.toArray (Ap k its.toArray)=(acc++(Ap k its).flatten).toArray
 | 0,acc=>by simp
 | k+1,acc=>by
  have e:acc.toArray++its.toArray=(acc++its).toArray:=by simp
  have e2:(acc++its)++(Ap k its).flatten=acc++(Ap (k+1) its).flatten:=by
   rw[Cc,Cu,Ee]
  rw[←e2,←pO its k (acc++its),←e,Cc,Eo]
section
variable {X:Cx}{pins:List (Addr×Obj)}{σ:St}{H:Hp}{s:Shared}{l b:Addr}{xs ys zs:List V}
theorem Inv.lset {its its':List Value}{n:Nat}{f:Array Value->Array Value}{t':Nat}(I:Inv X pins σ H s)(hH:H l=some (.lst xs))
 (e:s.heap.get? l=some { cls:=.type "list",data:=.seq its.toArray n }) (hf:f its.toArray=its'.toArray) (hv:bH ys its') (hz:ys.length<=sizeLine) :
 Inv X pins σ (upd H l (.lst ys)) { s with heap:=s.heap.update l (Obj.mapSeq f),toks:=t' }:=by
 have q:=PySem.IsL.update e f;rw[hf]at q;refine I.write (x:=l) (e:=l) (by rw[hH];exact trivial) (.inl rfl) (fun b' u hb hu=>(Cn s.heap (Obj.mapSeq f) (Ne.symm hb)).trans hu) ⟨_,q⟩ ?_
 exact⟨hz,its',_,hv,q⟩
theorem Inv.lnew {its:List Value}{t':Nat}(I:Inv X pins σ H s)(hv:bH ys its)(hz:ys.length<=sizeLine) :
 Inv X pins σ (upd H s.heap.objs.size (.lst ys)) { s with heap:=s.heap.push { cls:=.type "list",data:=.seq its.toArray },toks:=t' } :=
 I.laid (fun _ _ q=>Aa _ q) (An _) ⟨hz,its,0,hv,Av _ rfl⟩
theorem Inv.fresh (I:Inv X pins σ H s):H s.heap.objs.size=none:=I.hok.fresh (An _)
theorem Inv.lstM (I:Inv X pins σ H s)(hH:H l=some (.lst xs)):xs.length<=sizeLine/\∃ (its:List Value) (n:Nat),bH xs its/\xs.length=its.length/\s.heap.get? l=some { cls:=.type "list",data:=.seq its.toArray n }:=by
 obtain⟨z,its,n,r,e⟩:=I.hok l _ hH;exact⟨z,its,n,r,r.length,e⟩
theorem aBn {n:Nat}(h:n<=sizeLine):Builtin.List.listTooLong n=false:=by
 unfold Builtin.List.listTooLong;exact decide_eq_false (by omega)
end
section
variable {X:Cx}
def aE3:V->List V->Hp->VK->Prop:=fun x vs H Q=>∃ l xs y,x=.ref l/\vs=[y]/\H l=some (.lst xs)/\xs.length<sizeLine/\Q .non (upd H l (.lst (xs++[y])))
theorem qC:MtM X "list.append" aE3:=by
 intro pins s σ H x vs v us Q I rx rv h;obtain⟨l,xs,y,rfl,rfl,hH,hz,q⟩:=h;cases rx;obtain⟨u,rfl,ru⟩:=rv.one;obtain⟨z,its,n,r,hl,e⟩:=I.lstM hH;refine call_meets F.slot_list_append ⟨_,e,rfl⟩ F.entry_list_append (F.args_list_append_2 _ _) (PySem.list_append l its.toArray n u (by rw[Aj];omega)) ⟨e,?_⟩
 refine⟨.non,_,I.lset (its':=its++[u]) hH e (by simp) (r.append (.cons ru .nil)) ?_,rfl,q⟩
 rw[As,Aw];omega
def aI5:R2:=fun x y H Q=>∃ l k xs,x=.ref l/\y=.int k/\H l=some (.lst xs)/\-(2^63)<=k/\k<2^63/\xs.length*k.toNat<=sizeLine /\
 ∀ p,H p=none->Q (.ref p) (upd H p (.lst (Ap k.toNat xs).flatten))
theorem aEa {α:Type}(xs:List α)(k:Nat):(Ap k xs).flatten.length=k*xs.length:=by
 induction k with
 | zero=>simp
 | succ k ih=>rw[Cc,Cu,As,ih,Nat.succ_mul,Nat.add_comm]
theorem aGb:OpR X (binaryOp .Mult) aI5:=by
 intro pins s σ H x y v u Q I rx ry h;obtain⟨l,k,xs,rfl,rfl,hH,h1,h2,hz,q⟩:=h;cases rx;obtain⟨t,rfl⟩:=ry;obtain⟨z,its,n,r,hl,e⟩:=I.lstM hH;have hlen:its.toArray.size*k.toNat<=sizeLine:=by rw[Aj,←hl];exact hz
 have hcap:¬ its.toArray.size*k.toNat>(2^63-1)/8:=by
  have:(sizeLine:Nat)<=(2^63-1)/8:=by decide
  omega
 have hfit:¬ (!Builtin.List.listFitsIndex k)=true:=by
  rw[fitsIndex_both h1 h2];exact Bv
 have hlong:¬ Builtin.List.listTooLong (its.toArray.size*k.toNat)=true:=by
  rw[aBn hlen];exact Bv
 have hnew:List.foldl (fun x1 x2=>x1++x2) #[] (Ap (if its.toArray.isEmpty=true then 0 else k.toNat) its.toArray)=(Ap k.toNat its).flatten.toArray:=by
  have f0:∀ m:Nat,List.foldl (fun x1 x2=>x1++x2) #[] (Ap m its.toArray)=(Ap m its).flatten.toArray:=fun m=>by
   have:=pO its m []
   rw[En]at this;exact this
  rw[f0];cases its with
  | nil=>simp
  | cons a r'=>rw[if_neg (by simp)]
 refine wpAny_binaryOp_repeat_ref (T:="list") (U:="int") (by decide) ⟨_,e,rfl⟩ (fun s'=>typeIs_int s' k t) noFill_list_mul F.fills_int_mul F.slot_int_rmul repeat_list F.slot_int_index.lookup
  (call_meets F.slot_int_rmul (typeIs_int s k t) F.entry_int_rmul (F.args_int_rmul_2 _ _) (int___rmul___int_list k t l its.toArray n)
   ⟨e,rfl,⟨_,e,rfl⟩,call_meets F.slot_list_mul ⟨_,e,rfl⟩ F.entry_list_mul (F.args_list_mul_2 _ _) (AutoListH.list___mul___list_int_3 l its.toArray n k t hfit hcap hlong) ⟨e,?_⟩⟩)
 rw[hnew];exact⟨.ref _,_,I.lnew (t':=s.toks) (r.rep k.toNat) (by rw[aEa,Nat.mul_comm];exact hz),rfl,q _ I.fresh⟩
end
end L2
namespace Att
open PySem PySem.W PySem.Calls PyProof.Rows
theorem mD {P:Params}{h:Heap}:∀ (ns:List Int) (vs:List Value),WellAll P h vs (ns.map WData.int)->IntsAre vs ns:=by
 intro ns;induction ns with
 | nil =>
  intro vs w;rw[List.map_nil]at w;cases w;exact .nil
 | cons n ns ih =>
  intro vs w;rw[Am]at w;cases w with
  | cons a b =>
   cases a;exact .cons _ _ (ih _ b)
theorem yW {l:OpenLaw}{n:Nat}(hn:l.most=some n){P:Params}{h:Heap}{args:List WData}{vals:List Value}
 (hpre:l.row.toRowW.claim.pre args=true) (hwl:WellAll P h vals args) :
 ∃ a vs ns,vals=[Value.ref a]/\args=[WData.list (ns.map WData.int)]/\h.get? a=some { cls:=.type "list",data:=.seq vs.toArray }/\IntsAre vs ns/\ns.length<=n:=by
 have hsh:WShape.hasAll [] args [.list .int]=true:=(pre_splitW hpre).1;have hc:l.pre.holds [] { args:=args }=true:=(pre_splitW hpre).2;obtain⟨d,r,rfl,h1,h2⟩:=hasAllW_cons hsh;obtain rfl:=hasAllW_nil h2;obtain⟨xs,rfl,h3⟩:=hasW_list h1;obtain⟨ns,rfl⟩:=items_int h3
 have hlen:ns.length<=n:=by
  unfold OpenLaw.pre at hc
  have h4:(WTm.not (.lt (.lit (.int (n:Int))) (.len (.arg 0)))).holds [] { args:=[.list (ns.map .int)] }=true:=by
   have h4:=(holds_andW hc).1;rw[hn]at h4;exact h4
  have h5:=condW_of h4 (w_not (w_lt w_lit (w_len_list (w_arg rfl))));rw[Ah]at h5;refine Nat.le_of_not_lt fun q=>?_
  have q':(n:Int)<((ns.length:Nat):Int):=by omega
  first
   | (rw[decide_eq_true q']at h5;exact absurd h5 (by decide))
   | (simp at h5;omega)
 cases hwl with
 | cons w1 w2 =>
  cases w2;cases w1 with
  | list ho hall=>exact⟨_,_,ns,rfl,rfl,ho,mD ns _ hall,hlen⟩
theorem yZ (l:OpenLaw)(args:List WData):l.row.toRowW.claim.post args (.bool true) args=true :=
 postW_of (r:=l.row.toRowW) (X:=(true==true))
  (show WShape.has [] (.bool true) .bool=true by first | rfl | decide | simp[WShape.has,WShape.arms,WShape.armsAll])
  (show (WTm.eq .res (.lit (.bool true))).value [] { args:=args,res:=some (.bool true),after:=args }=some (.bool (true==true)) from w_eq_bool (w_res rfl) w_lit) rfl
theorem sD {l:OpenLaw}{n:Nat}{q:Program}{loose:List Str}{XP:(Str->Option Value)->Heap->Prop}{YP:World->Heap->Prop}{d:DefRec}
 (hn:l.most=some n) (hdf:d.params.defaults=[])
 (call:∀ (w:World) (s₀ s₁:Shared) (mg mb:Str->Option Value) (fa:Addr) (o:Obj) (pm cd doc:Value) (a:Addr) (vs:List Value) (ns:List Int),
  Ground q loose [] XP w s₀ mg mb s₁.heap->YP w s₁.heap ->
  s₁.heap.get? fa=some o->o.data=.func (docDef d.name d.params d.body d.scope pm cd doc)->s₁.heap.CodeRec cd d.name->mg d.name=some (.ref fa) ->
  s₁.heap.get? a=some { cls:=.type "list",data:=.seq vs.toArray }->IntsAre vs ns->ns.length<=n->s₁.gens=#[] ->
  codeAny (model l.prog w) callerA (.call (.ref fa) ⟨[.ref a],[]⟩) (fun r s'=>r=.ok (.ret (.bool true))/\OldK s₁.heap s'.heap/\s'.os=s₁.os/\AllBare s'.gens) s₁) :
 WalkO q loose XP YP l.row.toRowW d [] (fun f vs=>PySem.call f vs):=by
 intro w s₀ s₁ mg mb G Y fa o pm cd doc dV kV ho hd hcd hD hmg hg args vals as hpre hlay hrd hwl hlo;obtain rfl:dV=.none:=Dflts.none hD hdf;obtain rfl:kV=.none:=Dflts.noKw hD;obtain⟨a,vs,ns,rfl,rfl,hobj,hints,hlen⟩:=yW hn hpre hwl;refine enter_call (codeAny_mono (call w s₀ s₁ mg mb fa o pm cd doc a vs ns G Y ho (fd_plain hd) hcd hmg hobj hints hlen hg) fun r s' hq=>?_)
 obtain⟨rfl,h2,h3,h4⟩:=hq;exact⟨.inl ⟨.bool true,.bool true,[],rfl,fun _=>rfl,.bool true,yZ l _,fun _=>⟨Ct,fun _ hm=>(nomatch hm)⟩⟩,h2,h3,h4⟩
end Att
namespace L2
open PySem PySem.Spec PyProof.Rows
theorem pN:∀ {vs:List Value} {ns:List Int},IntsAre vs ns->bH (ns.map V.int) vs
 | _,_,.nil=>.nil
 | _,_,.cons n t h=>.cons ⟨t,rfl⟩ (pN h)
def aGr (H:Hp):Prop:=∀ b,H b=none\/∃ o xs,H b=some (.frz o (.lst xs))
theorem zW {P:Program}{w:World}{K:PySem.W.Frag}{mg mb:Str->Option Value}{CX:CXT}{k:Nat}{fa a:Addr}{fd:FuncData}{x:Str}{sp:Sp}{s₁:Shared}{vs:List Value}{ns:List Int}
 (KX:K.In s₁.heap) (hns:s₁.heap.Ns mainGlobals mg) (hb:s₁.heap.Ns builtinsNs mb) (hbb:∀ x:Str,x ≠ "__name__"->mb x=bootBuiltins x) (hlim:s₁.heap.NoLimit) (hg:s₁.gens=#[])
 (ha:s₁.heap.get? a=some { cls:=.type "list",data:=.seq vs.toArray }) (hi:IntsAre vs ns) (hl:ns.length<=sizeLine) (hr:Room k callerA)
 (F:∀ base:Heap,K.In base->base.Ns mainGlobals mg->FnOk P w K mg base CX k fa fd [x] sp) (hbind:∀ (s:Shared) (u:Value),BindsTo s fd ⟨[u],[]⟩ [(x,u)])
 (hsp:∀ H:Hp,aGr H->SqL K H a (ns.map V.int)->sp [.ref a] H (fun v _=>v=.bl true) fun _ _ _=>False)
 (hCX:∀ H e s',CX [] H s₁ (fun _ _ _=>False) e s'->False) :
 codeAny (model P w) callerA (.call (.ref fa) ⟨[.ref a],[]⟩) (fun r s'=>r=.ok (.ret (.bool true))/\OldK s₁.heap s'.heap/\s'.os=s₁.os/\AllBare s'.gens) s₁:=by
 have rv:=pN hi;have lenV:=hi.length
 have core:∀ H:Hp,aGr H->SqL K H a (ns.map V.int)->HOk P w H s₁.heap->(∀ b,H b≠none->b=a)->(H a≠none->K.lookup a=none) ->
  codeAny (model P w) callerA (.call (.ref fa) ⟨[.ref a],[]⟩) (fun r s'=>r=.ok (.ret (.bool true))/\OldK s₁.heap s'.heap/\s'.os=s₁.os/\AllBare s'.gens) s₁:=by
  intro H hO hS hok hA hK;have base_of:∀ {b:Addr} {o:Obj},s₁.heap.get? b=some o->H b=none->(rS s₁.heap H).get? b=some o:=fun e n=>aBk e n
  have noA:∀ {b:Addr} {o:Obj} {es:Array DictEntry} {ep:Nat},s₁.heap.get? b=some o->o.data=.dict es ep->H b=none:=fun {b o es ep} e d=>by
   cases q:H b with
   | none=>rfl
   | some u =>
    have e':b=a:=hA b (by rw[q];simp)
    subst e';rw[ha]at e;cases e;have d':Data.seq vs.toArray _=Data.dict es ep:=d;cases d'
  have nsK:∀ {b:Addr} {m:Str->Option Value},s₁.heap.Ns b m->(rS s₁.heap H).Ns b m:=fun {b m} ⟨o,es,ep,e,d,r⟩=>⟨o,es,ep,base_of e (noA e d),d,r⟩
  have hKb:K.In (rS s₁.heap H):=fun b o e=>base_of (KX b o e) (by
   cases q:H b with
   | none=>rfl
   | some u =>
    have e':b=a:=hA b (by rw[q];simp)
    subst e'
    rw[hK (by rw[q];simp)]at e;cases e)
  have hM:Mod K mg (rS s₁.heap H):=⟨hKb,nsK hns,⟨mb,nsK hb,hbb⟩,let ⟨mc,h1,h2⟩:=hlim;⟨mc,nsK h1,h2⟩⟩
  have e0:Env0 P w K mg (rS s₁.heap H) callerA [] s₁ H:=⟨rfl,hM,fun b o e=>aEt e,Nat.le_of_eq (yM _ _),trivial,fun b hb=>absurd (show b∈([]:List Addr) from hb) (by simp),hok,.of_eq hg⟩
  refine codeAny_mono ((F _ hKb (nsK hns)).run callerA [] s₁ H ⟨[.ref a],[]⟩ [.ref a] [.ref a] _ _ hr e0 (hbind s₁ (.ref a)) (.cons rfl .nil) (hsp H hO hS)) fun r s' h=>?_
  cases r with
  | error e=>exact(hCX H e s' h).elim
  | ok fl =>
   cases fl with
   | next=>exact False.elim h
   | brk=>exact False.elim h
   | cont=>exact False.elim h
   | ret u =>
    obtain⟨v,H',os,bare,un,hok',r',q⟩:=h;have q':v=.bl true:=q;subst q';obtain rfl:u=Value.bool true:=r';refine⟨rfl,OldK.of_keep fun b o e=>?_,os,bare⟩
    cases q:H b with
    | none=>exact un.keep b o e q (by intro z;exact absurd (show b∈([]:List Addr) from z) (by simp)) (by simp)
    | some u =>
     rcases hO b with z | ⟨ob,xs,z⟩
     · rw[q]at z;cases z
     · have z2:=un.frzs b ob _ z
       obtain⟨e1,_⟩:=hok b _ z;obtain⟨e2,_⟩:=hok' b _ z2;rw[e]at e1;cases e1;exact e2
 cases hk:K.lookup a with
 | some o =>
  have e:=KX a o hk;rw[ha]at e;cases e;refine core (fun _=>none) (fun _=>.inl rfl) (.inr ⟨_,vs.toArray,_,hk,rfl,rfl,rfl,by rw[Aj,lenV];exact hl,by simpa using rv⟩) (fun b u z=>by have z':(none:Option HO)=some u:=z;cases z') (fun b z=>absurd rfl z) fun z=>absurd rfl z
 | none =>
  refine core (fun b=>if b=a then some (.frz { cls:=.type "list",data:=.seq vs.toArray } (.lst (ns.map V.int))) else none) (fun b=>?_) (.inl (.inr ⟨{ cls:=.type "list",data:=.seq vs.toArray },if_pos rfl⟩)) (fun b u z=>?_) (fun b z=>?_) fun _=>hk
  · by_cases hb:b=a
    · exact .inr ⟨_,_,if_pos hb⟩
    · exact .inl (if_neg hb)
  · by_cases hb:b=a
    · have z':=(if_pos hb).symm.trans z
      cases z';subst hb;exact⟨ha,by rw[Ah];exact hl,vs,_,rv,ha⟩
    · have z':=(if_neg hb).symm.trans z
      cases z'
  · by_cases hb:b=a
    · exact hb
    · exact absurd (if_neg hb) z
end L2
namespace L2
open PySem PySem.Spec PyProof.Rows
theorem aEr {l:PySem.W.OpenLaw}{n k:Nat}{q:Program}{loose:List Str}{XP:(Str->Option Value)->Heap->Prop}{YP:World->Heap->Prop}{d:DefRec}{K:Params->PySem.W.Frag}{CX:World->CXT}{sp:World->Sp}{x:Str}
 (hn:l.most=some n) (hn2:n<=sizeLine) (hdf:d.params.defaults=[]) (hr:Room k callerA)
 (hY:∀ (w:World) (h:Heap),YP w h->(K w.params).In h)
 (F:∀ (w:World) (mg:Str->Option Value) (fa:Addr) (h:Heap),(K w.params).In h->h.Ns mainGlobals mg->mg d.name=some (.ref fa) ->
  ∃ fd:FuncData,(∀ (s:Shared) (u:Value),BindsTo s fd ⟨[u],[]⟩ [(x,u)]) /\
   ∀ base:Heap,(K w.params).In base->base.Ns mainGlobals mg->FnOk l.prog w (K w.params) mg base (CX w) k fa fd [x] (sp w))
 (hsp:∀ (w:World) (H:Hp) (a:Addr) (ns:List Int),ns.length<=n->aGr H->SqL (K w.params) H a (ns.map V.int)->sp w [.ref a] H (fun v _=>v=.bl true) fun _ _ _=>False)
 (hCX:∀ (w:World) (H:Hp) (s:Shared) (e:Value) (s':Shared),CX w [] H s (fun _ _ _=>False) e s'->False) :
 PySem.W.WalkO q loose XP YP l.row.toRowW d [] (fun f vs=>PySem.call f vs):=by
 refine Att.sD hn hdf fun w s₀ s₁ mg mb fa o pm cd doc a vs ns G Y ho hd hcd hmg hobj hints hlen hg=>?_
 have KX:=hY w _ Y;obtain⟨fd,hb,hF⟩:=F w mg fa _ KX G.T.g hmg;exact zW KX G.T.g G.T.b G.T.builtins G.T.nolimit hg hobj hints (Bn hlen hn2) hr hF hb (fun H hO hS=>hsp w H a ns hlen hO hS) fun H e s'=>hCX w H s₁ e s'
end L2
namespace L2
open PySem PySem.Spec PyProof.Rows
def xU (s:Stmt)(j:Nat):Stmt:=match s with
 | .ClassDef _ _ _ body _ _ _ _ _ _ _=>body.getD j (.Pass ⟨0,0,0,0⟩)
 | _=>.Pass ⟨0,0,0,0⟩
def eN (s:Stmt):Arguments:=match s with
 | .FunctionDef _ a _ _ _ _ _ _ _ _=>a
 | _=>{ posonlyargs:=[],args:=[],vararg:=none,kwonlyargs:=[],kw_defaults:=[],kwarg:=none,defaults:=[] }
def cX (s:Stmt):List Stmt:=match s with
 | .FunctionDef _ _ b _ _ _ _ _ _ _=>b
 | _=>[]
def aM (s:Stmt):Scope:=match s with
 | .FunctionDef _ _ _ _ _ _ sc _ _ _=>sc
 | _=>{ kind:=.function,names:=[],isGenerator:=false,isCoroutine:=false }
abbrev E0:XK:=fun _ _ _=>False
structure Fun (K:PySem.W.Frag)(x qual:Str)(st:Stmt)(f:Addr)(fd:FuncData):Prop where
 ex:∃ (oc:Value) (od:Option Addr) (kV doc pm:Value) (an:Option Addr) (cdv ct:Value) (osl:Array (Option Value)),
  fd=Cb x qual (eN st) (cX st) (aM st) .none kV doc pm an cdv ct/\K.lookup f=some ⟨oc,od,.func fd,osl⟩/\Da K cdv qual=true
 kp:Ci K (.ref f)=true
section
variable {P:Program}{w:World}{K:PySem.W.Frag}{mg:Str->Option Value}{base:Heap}
theorem Fun.binds {x qual:Str}{st:Stmt}{f:Addr}{fd:FuncData}{ps:List Str}(F:Fun K x qual st f fd)
 (h:∀ (kV doc pm:Value) (an:Option Addr) (cdv ct:Value) (us:List Value),us.length=ps.length->bindArgs (Cb x qual (eN st) (cX st) (aM st) .none kV doc pm an cdv ct) ⟨us,[]⟩=pure (ps.zip us)):gC K fd ps []:=by
 obtain⟨oc,od,kV,doc,pm,an,cdv,ct,osl,rfl,lk,hcd⟩:=F.ex;exact .all (h kV doc pm an cdv ct)
theorem rK {x qual:Str}{st:Stmt}{f:Addr}{oc:Value}{od an:Option Addr}{osl:Array (Option Value)}{kV doc pm cdv ct:Value}(l:K.lookup f=some ⟨oc,od,.func (Cb x qual (eN st) (cX st) (aM st) .none kV doc pm an cdv ct),osl⟩)
 (c:Da K cdv qual=true) (k:Ci K (.ref f)=true):Fun K x qual st f (Cb x qual (eN st) (cX st) (aM st) .none kV doc pm an cdv ct):=⟨⟨oc,od,kV,doc,pm,an,cdv,ct,osl,rfl,l,c⟩,k⟩
end
section
variable {X:Cx}
theorem pv (i:Nat){x:Str}{pos:Pos}(hN:X.N[i]?=some x:=by rfl)(hv:Vis X.env.scope x:=by first | exact Or.inl rfl | exact Or.inr (Or.inl rfl) | exact Or.inr (Or.inr rfl))(hd:(x==("__debug__":Str))=false:=by decide)
 (hcd:(x==("__classdict__":Str))=false:=by decide):PE X (.Name x pos) (nH i):=lL hN hv hd hcd
end
theorem aC7 {A B:Prop}(h:B):if false=true then A else B:=by
 rw[if_neg Bv];exact h
theorem aDl {A B:Prop}(h:A):if true=true then A else B:=by
 rw[if_pos rfl];exact h
def aD (H H':Hp):Prop:=∀ b o,H b=some o->H' b=some o
theorem aD.refl (H:Hp):aD H H:=fun _ _ h=>h
theorem aD.trans {H H1 H2:Hp}(a:aD H H1)(b:aD H1 H2):aD H H2:=fun c o h=>b c o (a c o h)
theorem aD.free {H H':Hp}(e:aD H H'){l:Addr}(h:H' l=Fs):H l=Fs:=by
 cases q:H l with
 | none=>rfl
 | some o =>
  rw[e l o q]at h;cases h
theorem aD.seq {K:PySem.W.Frag}{H H':Hp}{a:Addr}{xs:List V}(e:aD H H')(h:SqL K H a xs):SqL K H' a xs:=by
 rcases h with (h | ⟨o,h⟩) | h
 · exact .inl (.inl (e _ _ h))
 · exact .inl (.inr ⟨o,e _ _ h⟩)
 · exact .inr h
end L2
namespace L2
open PySem PySem.Spec PyProof.Rows
section
variable {pg:Program}{w:World}{A:Around}
abbrev nox:Value->Shared->Prop:=fun _ _=>False
abbrev wpN {α:Type}(pg:Program)(w:World)(A:Around)(t:Sem α)(Q:α->Shared->Prop)(s:Shared):Prop:=wpAny (model pg w) A t Q nox s
def aA0 (ifs:List Expr)(env:Env):Sem Bool :=
 forIn ifs true fun c r =>
  if r=true then do
   let ok ← isTrue c env (eval c env)
   pure (ForInStep.yield ok)
  else pure (ForInStep.yield r)
def aCd (pg:Program)(w:World)(A:Around)(elt tg:Expr)(ifs:List Expr)(it acc:Value)(env:Env)(J:Shared->Prop)(v:Value)(s:Shared):Prop :=
 wpN pg w A (letOwnedTupleGo tg it v) (fun _ sa=>wpN pg w A (assign tg env v) (fun _ sb=>wpN pg w A (aA0 ifs env) (fun ok sc =>
  if ok=true then wpN pg w A (eval elt env) (fun x sd=>wpN pg w A (call (.builtin "list.append") [acc,x]) (fun _ se=>J se) sd) sc else J sc) sb) sa) s
theorem mo {α:Type}{t:Sem α}{Q Q':α->Shared->Prop}{E:Value->Shared->Prop}{s:Shared}(h:wpN pg w A t Q s)(k:∀ a s',Q a s'->Q' a s'):wpAny (model pg w) A t Q' E s :=
 wpAny_mono h k (fun _ _ f=>False.elim f)
theorem qJ {elt target iter:Expr}{ifs:List Expr}{scope:Scope}{pos:Pos}{it acc:Value}{env:Env}{R:Result->Shared->Prop}{s₀:Shared}(I:Nat->Shared->Prop)
 (turn:∀ n s,I n s->wpN pg w A (pyNext it) (fun r s₁=>match r with
  | none=>R (.ok .next) s₁
  | some v=>aCd pg w A elt target ifs it acc env (fun s'=>∃ m,m<n/\I m s') v s₁) s)
 (top:Nat) (start:I top s₀):codeAny (model pg w) A (.compLoop (.ListComp elt [⟨target,iter,ifs,0⟩] scope pos) 0 it acc env) R s₀:=by
 apply codeAny_loop rfl I _ top start
 intro n s hI;apply wpAny_noted
 rw[compTurn_list];refine wpAny_bind (wpAny_standAt (wpAny_bind (mo (turn n s hI) ?_)))
 rintro (_ | v) s₁ goal
 · exact wpAny_pure goal
 · refine wpAny_bind (mo goal fun _ sa ga=>wpAny_bind (mo ga fun _ sb gb=>wpAny_bind (mo gb ?_)))
   rintro (_ | _) sc gc
   · exact wpAny_pure (And.intro rfl gc)
   · refine wpAny_bind (wpAny_bind (mo gc fun x sd gd=>wpAny_bind (mo gd fun _ se ge=>?_)))
     exact wpAny_pure (wpAny_pure (And.intro rfl ge))
end
theorem bO:∀ (names:List (Str×NameKind)) (n:Nat) (acc:List (Str×Addr)),cellsFrom n names acc=cellsFrom n names []++acc
 | [],_,_=>rfl
 | (x,k) :: r,n,acc=>by
  unfold cellsFrom;split
  · rw[bO r (n+1) ((x,n) :: acc),bO r (n+1) [(x,n)],Ee];rfl
  · exact bO r n acc
theorem gD:∀ (names:List (Str×NameKind)) (n:Nat) {x:Str} {c:Addr},(x,c)∈cellsFrom n names []->(x,NameKind.cell)∈names
 | [],_,_,_,h=>by simp[cellsFrom]at h
 | (y,k) :: r,n,x,c,h=>by
  unfold cellsFrom at h;split at h
  · rename_i hk
    rw[bO]at h;have two:=Bg.mp h;rcases two with h | h
    · exact Ab _ (gD r _ h)
    · have e:(x,c)=(y,n):=by simpa using h
      have e2:k=NameKind.cell:=by simpa using hk
      cases e;rw[e2];exact Af
  · exact Ab _ (gD r n h)
def gH (cells:List (Str×Addr)):List (Str×NameKind)->List (Str×Addr)->List (Str×Addr)
 | [],acc=>acc
 | (n,k) :: r,acc=>gH cells r (if k==.free then ((cells.lookup n).map fun c=>(n,c)).toList++acc else acc)
theorem nD {cells:List (Str×Addr)}:∀ (names:List (Str×NameKind)) (acc:List (Str×Addr)) {x:Str} {c:Addr},(x,c)∈gH cells names acc->(x,c)∈acc\/cells.lookup x=some c
 | [],_,_,_,h=>.inl h
 | (n,k) :: r,acc,x,c,h=>by
  unfold gH at h;rcases nD r _ h with h | h
  · split at h
    · have two:=Bg.mp h
      rcases two with h | h
      · cases e:cells.lookup n with
        | none=>rw[e]at h;simp at h
        | some c' =>
         rw[e]at h;have e2:(x,c)=(n,c'):=by simpa using h
         cases e2;exact .inr e
      · exact .inl h
    · exact .inl h
  · exact .inr h
theorem kZ {cells:List (Str×Addr)}:∀ (names:List (Str×NameKind)) (acc:List (Str×Addr)) {x:Str} {c:Addr},((x,c)∈acc\/((x,NameKind.free)∈names/\cells.lookup x=some c))->(x,c)∈gH cells names acc
 | [],_,_,_,h=>h.elim id fun h=>by simp at h
 | (n,k) :: r,acc,x,c,h=>by
  unfold gH;refine kZ r _ ?_
  rcases h with h | ⟨h,e⟩
  · left
    split
    · exact Bc _ h
    · exact h
  · rcases Ad.mp h with h | h
    · cases h
      left
      rw[if_pos (by rfl),e]
      simp
    · exact .inr ⟨h,e⟩
theorem oP {scope:Scope}{env:Env}(h:∀ y∈scope.names,y.2=.free->∃ c,env.cells.lookup y.1=some c):closureFor scope env=pure (gH env.cells scope.names []):=by
 unfold closureFor
 have go:∀ (names:List (Str×NameKind)) (acc:List (Str×Addr)),(∀ y∈names,y.2=.free->∃ c,env.cells.lookup y.1=some c) ->
  (forIn names acc fun x r=>match x with
   | (name,kind)=>if (kind==NameKind.free)=true then do let a ← cellOf env name;pure (ForInStep.yield ((name,a) :: r)) else pure (ForInStep.yield r):Sem (List (Str×Addr)))=pure (gH env.cells names acc):=by
  intro names;induction names with
  | nil=>intro acc _;rfl
  | cons y r ih =>
   obtain⟨n,k⟩:=y;intro acc hh;rw[List.forIn_cons];unfold gH;by_cases hk:(k==NameKind.free)=true
   · have e2:k=NameKind.free:=by simpa using hk
     obtain⟨c,hc⟩:=hh (n,k) Af e2;have hcell:cellOf env n=pure c:=by unfold cellOf;rw[hc]
     simp only[hk,if_true,hcell,pure_bind,hc,Dy,Option.toList_some,List.singleton_append];exact ih _ fun y hy=>hh y (Ab _ hy)
   · simp only[hk,if_false,pure_bind]
     exact ih _ fun y hy=>hh y (Ab _ hy)
 have:=go scope.names [] h
 simp only[this,pure_bind]
theorem jW {α:Type}:∀ {l:List (Str×α)} {x:Str} {a:α},(l.map (·.1)).Nodup->(x,a)∈l->l.lookup x=some a
 | (y,b) :: r,x,a,hn,h=>by
  have hn:=Bw.mp (show (y :: r.map (·.1)).Nodup from hn)
  rcases Ad.mp h with h | h
  · cases h
    simp
  · have hne:x≠y:=fun e=>hn.1 (by rw[←e];exact Bb.mpr ⟨(x,a),h,rfl⟩)
    rw[Bf,beq_false_of_ne hne];exact jW hn.2 h
theorem bK {α:Type}:∀ {l:List (Str×α)} {x:Str},x∈l.map (·.1)->∃ a,l.lookup x=some a
 | (y,b) :: r,x,h=>by
  rw[Bf];cases e:x==y with
  | true=>exact⟨b,rfl⟩
  | false =>
   rw[Am]at h;rcases Ad.mp h with h | h
   · rw[h]at e;simp at e
   · exact bK h
def tZ (scope:Scope)(C:Addr)(env:Env):Env:=compEnvC scope (cellsFrom (C+1) scope.names (gH env.cells scope.names [])) C env
def cG (X:Cx)(scope:Scope)(N:List Str)(fp:List Addr)(s:Shared)(H:Hp):Cx :=
 { X with N:=N,s₀:=s,H₀:=H,env:=tZ scope s.heap.objs.size X.env,outer:=X.stack,stack:=X.stack,ex:=fp,fn:=fun x=>decide (scope.names.lookup x=some .cell),pn:=[],xe:=fun _ _=>False }
structure CompOk (X:Cx)(scope:Scope)(N:List Str)(k:Nat)(fs:List Nat):Prop where
 kind:scope.kind=.function
 nd:(scope.names.map (·.1)).Nodup
 free:∀ y∈scope.names,y.2=.free->y.1∈X.env.cells.map (·.1)
 len:N.length=k+fs.length
 out:∀ (j i:Nat),fs[j]?=some i->∃ x,N[k+j]?=some x/\X.N[i]?=some x/\scope.names.lookup x=some .free/\(X.env.kindOf x=some .cell\/X.env.kindOf x=some .free)
def dW (k:Nat)(fs:List Nat)(σ:St):St:=Ap k none++fs.map fun i=>(σ[i]?).join
def rC (k:Nat)(g:TG):Prop:=∀ x σ H Q,g x σ H Q->g x σ H fun σ' H'=>Q σ' H'/\σ'.length=σ.length/\∀ i,k<=i->σ'[i]?=σ[i]?
def tJ (k:Nat)(g:TGs):Prop:=∀ x σ H Q,g x σ H Q->g x σ H fun σ' H'=>Q σ' H'/\σ'.length=σ.length/\∀ i,k<=i->σ'[i]?=σ[i]?
theorem aCf {k i:Nat}(h:i<k):rC k (tM i):=fun x σ H Q q=>⟨q,by simp,fun j hj=>by rw[Ai (by omega)]⟩
theorem zP {k:Nat}:tJ k aC5:=fun x σ H Q ⟨e,q⟩=>⟨e,q,rfl,fun _ _=>rfl⟩
def uI (g:TG):Prop:=∀ x σ H Q Q',(∀ σ' H',Q σ' H'->Q' σ' H')->g x σ H Q->g x σ H Q'
def lC (g:TGs):Prop:=∀ x σ H Q Q',(∀ σ' H',Q σ' H'->Q' σ' H')->g x σ H Q->g x σ H Q'
theorem zF {i:Nat}:uI (tM i):=fun _ _ _ _ _ h q=>h _ _ q
theorem yD:lC aC5:=fun _ _ _ _ _ h ⟨e,q⟩=>⟨e,h _ _ q⟩
theorem uO {t:TG}{u:TGs}(h1:uI t)(h2:lC u):lC (wU t u):=fun x σ H Q Q' h ⟨v,r,e,q⟩=>⟨v,r,e,h1 _ _ _ _ _ (fun σ' H' q'=>h2 _ _ _ _ _ h q') q⟩
theorem aBr {K:PySem.W.Frag}{n:Nat}{u:TGs}(h:lC u):uI (aEj K n u):=fun x σ H Q Q' hq ⟨a,xs,e,h1,h2,q⟩=>⟨a,xs,e,h1,h2,h _ _ _ _ _ hq q⟩
theorem zG {k:Nat}{t:TG}{u:TGs}(m1:uI t)(m2:lC u)(h1:rC k t)(h2:tJ k u):tJ k (wU t u):=fun x σ H Q ⟨v,r,e,q⟩=>by
 refine⟨v,r,e,?_⟩
 refine m1 _ _ _ _ _ (fun σ' H' q'=>?_) (h1 _ _ _ _ q)
 obtain⟨q1,l1,a1⟩:=q';refine m2 _ _ _ _ _ (fun σ2 H2 q2=>?_) (h2 _ _ _ _ q1)
 obtain⟨q3,l3,a3⟩:=q2;exact⟨q3,l3.trans l1,fun i hi=>(a3 i hi).trans (a1 i hi)⟩
theorem aCz {k n:Nat}{K:PySem.W.Frag}{u:TGs}(h:tJ k u):rC k (aEj K n u):=fun x σ H Q ⟨a,xs,e,h1,h2,q⟩=>⟨a,xs,e,h1,h2,h _ _ _ _ q⟩
section
variable {X:Cx}{pins:List (Addr×Obj)}{σ:St}{H:Hp}{s:Shared}{scope:Scope}{N:List Str}{k:Nat}{fs:List Nat}{fp:List Addr}
theorem CompOk.clos (C:CompOk X scope N k fs):closureFor scope X.env=pure (gH X.env.cells scope.names []):=oP fun y hy hf=>bK (C.free y hy hf)
theorem CompOk.names (C:CompOk X scope N k fs):∀ y∈scope.names,y.2=.local->scope.names.lookup y.1=some .local:=fun y hy e=>jW C.nd (by rw[←e];exact hy)
theorem sH {cells:List (Str×Addr)}{names:List (Str×NameKind)}{x:Str}{c:Addr}(h:(gH cells names []).lookup x=some c):cells.lookup x=some c :=
 (nD names [] (mem_of_lookup h)).elim (fun z=>by simp at z) id
theorem fK {cells:List (Str×Addr)}{C:Nat}{x:Str}{c:Addr}(h:(cellsFrom (C+1) scope.names (gH cells scope.names [])).lookup x=some c) :
 (x,c)∈cellsFrom (C+1) scope.names []\/cells.lookup x=some c:=by
 rw[bO]at h;rcases Bg.mp (mem_of_lookup h) with z | z
 · exact .inl z
 · exact .inr ((nD _ _ z).elim (fun z=>by simp at z) id)
theorem qK {env:Env}{x:Str}:(relabel scope env).names.lookup x=some .cell\/(relabel scope env).names.lookup x=some .free->scope.names.lookup x=some .cell\/scope.names.lookup x=some .free:=by
 unfold relabel;generalize scope.names=names
 induction names with
 | nil=>simp
 | cons y r ih =>
  obtain⟨n,kd⟩:=y;simp only[Am];by_cases hx:(x==n)=true
  · split
    · rename_i hc
      intro _
      have:(kd==NameKind.free)=true:=by
       have hc:=Bp.mp hc;exact(Bp.mp hc.1).1
      have e:kd=NameKind.free:=by simpa using this
      rw[Bf,hx,e];exact .inr rfl
    · intro h
      simp only[Bf,hx]at h ⊢;exact h
  · have hx':(x==n)=false:=by simpa using hx
    intro h
    have h':(Cr x (r.map fun x=>match x with | (n,k)=>if (k==NameKind.free&&env.scope.kind==.function&&env.kindOf n==some .cell)=true then (n,NameKind.cell) else (n,k))=some .cell\/Cr x (r.map fun x=>match x with | (n,k)=>if (k==NameKind.free&&env.scope.kind==.function&&env.kindOf n==some .cell)=true then (n,NameKind.cell) else (n,k))=some .free):=by
     split at h<;>simpa only[Bf,hx'] using h
    rw[Bf,hx'];exact ih h'
theorem kU {env:Env}{x:Str}:scope.names.lookup x=some .free->(relabel scope env).names.lookup x=some .cell\/(relabel scope env).names.lookup x=some .free:=by
 unfold relabel;generalize scope.names=names
 induction names with
 | nil=>simp
 | cons y r ih =>
  obtain⟨n,kd⟩:=y;simp only[Am];intro h;by_cases hx:(x==n)=true
  · rw[Bf,hx]at h
    cases h;split
    · left;rw[Bf,hx]
    · right;rw[Bf,hx]
  · have hx':(x==n)=false:=by simpa using hx
    rw[Bf,hx']at h;have:=ih h
    split<;>simpa only[Bf,hx'] using this
theorem aD2 (C:CompOk X scope N k fs)(I:Inv X pins σ H s)(hf:∀ b∈fp,jQ X pins H b)(ho:∀ b∈fp,b<s.heap.objs.size):(cG X scope N fp s H).Ok where
 mod:=I.ok.mod
 kind:=C.kind
 glob:=I.ok.glob
 blt:=I.ok.blt
 above:=An _
 inj:=fun x y c hx hy=>by
  have ok:=cellsFrom_ok scope.names (s.heap.push { cls:=.type "dict",data:=.dict #[] }) (s.heap.objs.size+1) [] ⟨fun _ _ hm=>(nomatch hm),Ct⟩ (by rw[Bi];exact An _)
  rw[Bi]at ok;have old:∀ z c,X.env.cells.lookup z=some c->c<s.heap.objs.size:=fun z c e=>let ⟨_,q⟩:=I.cell z c e;q.lt
  rcases fK hx with h1 | h1<;>rcases fK hy with h2 | h2
  · exact name_of_addr ok.apart h1 h2
  · exact absurd (old _ _ h2) (Nat.not_lt.mpr (Dj (ok.empty _ _ h1).2))
  · exact absurd (old _ _ h1) (Nat.not_lt.mpr (Dj (ok.empty _ _ h2).2))
  · exact I.ok.inj x y c h1 h2
 has:=fun x h=>by
  have h':scope.names.lookup x=some .cell\/scope.names.lookup x=some .free:=qK h
  have:((cellsFrom (s.heap.objs.size+1) scope.names (gH X.env.cells scope.names [])).lookup x).isSome=true:=by
   refine Dd _ _ _ ?_
   rcases h' with h' | h'
   · exact .inl h'
   · right
     obtain⟨c,hc⟩:=bK (C.free _ (mem_of_lookup h') rfl);have hm:x∈(gH X.env.cells scope.names []).map (·.1):=Bb.mpr ⟨(x,c),kZ _ _ (.inr ⟨mem_of_lookup h',hc⟩),rfl⟩;obtain⟨a,ha⟩:=bK hm;rw[ha];rfl
  exact Dx.mp this
 cab:=fun x c hx hl=>by
  have hx':scope.names.lookup x=some .cell:=of_decide_eq_true hx;have hsome:((cellsFrom (s.heap.objs.size+1) scope.names []).lookup x).isSome=true:=Dd _ _ _ (.inl hx');obtain⟨c',hc'⟩:=Dx.mp hsome;have hl':(cellsFrom (s.heap.objs.size+1) scope.names (gH X.env.cells scope.names [])).lookup x=some c:=hl;rw[bO,List.lookup_append,hc']at hl';cases hl';have ok:=cellsFrom_ok scope.names (s.heap.push { cls:=.type "dict",data:=.dict #[] }) (s.heap.objs.size+1) [] ⟨fun _ _ hm=>(nomatch hm),Ct⟩ (by rw[Bi];exact An _)
  rw[Bi]at ok;exact Dj (ok.empty _ _ (mem_of_lookup hc')).2
 hd:=I.ok.hd
 frames:=I.ok.frames
 stk:=.inl rfl
 exf:=fun b hb=>⟨Au (ho b hb),fun x c e z=>by
  have ok:=cellsFrom_ok scope.names (s.heap.push { cls:=.type "dict",data:=.dict #[] }) (s.heap.objs.size+1) [] ⟨fun _ _ hm=>(nomatch hm),Ct⟩ (by rw[Bi];exact An _)
  rw[Bi]at ok;rcases fK (cells:=X.env.cells) e with h1 | h1
  · have h2:=(ok.empty _ _ h1).2
    have h3:=ho b hb;rw[z]at h2;exact Cy _ (Ac h3 (Dj h2))
  · exact(hf b hb).2.2.2.2.1 x c h1 z⟩
 bs:=I.bs
 bsz:=Bn I.ok.bsz I.sz
 noex:=fun b o e hb=>by
  rcases (hf b hb).2.2.2.1 with z | z
  · exact I.ok.noex b o e z
  · exact absurd (Ac (Ae e) (Bn I.ok.bsz z)) (Cy _)
 exfs:=fun b hb z=>by
  rcases Ad.mp (I.stkSub b z) with e | e
  · exact(hf b hb).2.1 e
  · exact(hf b hb).2.2.1 e
 funs:=I.stack
 frf:=I.stkFree
theorem vJ (σ:St):(dW k fs σ).length=k+fs.length:=by simp[dW]
theorem oC {σ:St}{i:Nat}{v:V}(h:(dW k fs σ)[i]?=some (some v)):∃ j i',i=k+j/\fs[j]?=some i'/\σ[i']?=some (some v):=by
 unfold dW at h;by_cases hi:i<k
 · rw[Bx (by simpa using hi),List.getElem?_replicate_of_lt hi]at h
   cases h
 · rw[Ar (by simpa using Nat.le_of_not_lt hi),Cd,Be]at h
   cases e:fs[i-k]? with
   | none=>rw[e]at h;cases h
   | some i' =>
    rw[e]at h;refine⟨i-k,i',by omega,e,?_⟩
    have h':(σ[i']?).join=some v:=Ca.inj h;cases e2:σ[i']? with
    | none=>rw[e2]at h';cases h'
    | some o =>
     rw[e2]at h';have:o=some v:=h'
     rw[this]
theorem aCm (C:CompOk X scope N k fs)(I:Inv X pins σ H s)(hf:∀ b∈fp,jQ X pins H b)(ho:∀ b∈fp,b<s.heap.objs.size) :
 Inv (cG X scope N fp s H) [] (dW k fs σ) H { s with heap:=pushCells (s.heap.push { cls:=.type "dict",data:=.dict #[] }) scope.names }:=by
 have keep:∀ b o,s.heap.get? b=some o->(pushCells (s.heap.push { cls:=.type "dict",data:=.dict #[] }) scope.names).get? b=some o:=fun b o e=>pushCells_keeps _ _ b o (Aa _ e);have ok:=cellsFrom_ok scope.names (s.heap.push { cls:=.type "dict",data:=.dict #[] }) (s.heap.objs.size+1) [] ⟨fun _ _ hm=>(nomatch hm),Ct⟩ (by rw[Bi];exact An _)
 rw[Bi]at ok;refine⟨aD2 C I hf ho,rfl,I.bare,Un.kept keep,⟨fun _=>none,?_,fun i x v hN hσ hv=>?_⟩,fun x c e=>?_,I.hok.fresh (An _),fun x c e=>?_,(fun p hp=>by simp[cG]at hp),I.hok.kept keep,by rw[vJ];exact C.len.symm⟩
 · exact(Heap.Ns.new s.heap (.type "dict")).keeps (pushCells_keeps _ _)
 · obtain⟨j,i',rfl,hj,hσ'⟩:=oC hσ
   obtain⟨y,hy1,hy2,hy3,hy4⟩:=C.out j i' hj;have e:y=x:=Ca.inj (hy1.symm.trans hN);subst e;obtain⟨m,hn,hl⟩:=I.loc
   have hvis:Vis X.env.scope y:=by
    rcases hy4 with z | z
    · exact .inr (.inl z)
    · exact .inr (.inr z)
   obtain⟨u,ru,lk⟩:=hl i' y v hy2 hσ' hvis;refine⟨u,ru,.inr ⟨?_,?_⟩⟩
   · exact kU hy3
   · rcases lk with ⟨hk,_⟩ | ⟨_,c,hc,hcell⟩
     · rcases hy4 with z | z<;>(rw[hk]at z;cases z)
     · refine⟨c,?_,hcell.keeps keep⟩
       show (cellsFrom (s.heap.objs.size+1) scope.names (gH X.env.cells scope.names [])).lookup y=some c
       have h1:(cellsFrom (s.heap.objs.size+1) scope.names []).lookup y=none:=by
        cases e2:(cellsFrom (s.heap.objs.size+1) scope.names []).lookup y with
        | none=>rfl
        | some c' =>
         have:=jW C.nd (gD _ _ (mem_of_lookup e2))
         rw[hy3]at this;cases this
       have h2:y∈(gH X.env.cells scope.names []).map (·.1):=Bb.mpr ⟨(y,c),kZ _ _ (.inr ⟨mem_of_lookup hy3,hc⟩),rfl⟩;obtain⟨c2,hc2⟩:=bK h2;have h3:=sH hc2;rw[hc]at h3;cases h3;rw[bO,List.lookup_append,h1,hc2];rfl
 · rcases fK (cells:=X.env.cells) e with h1 | h1
   · exact⟨none,(ok.empty _ _ h1).1⟩
   · obtain⟨v,z⟩:=I.cell x c h1
     exact⟨v,z.keeps keep⟩
 · rcases fK (cells:=X.env.cells) e with h1 | h1
   · exact I.hok.fresh (Dj (ok.empty _ _ h1).2)
   · exact I.freeC x c h1
end
end L2
namespace L2
open PySem PySem.Spec PyProof.Rows
theorem tL {M:Model}{A:Around}{E:Value->Shared->Prop}{s:Shared}{scope:Scope}{env:Env}{Q:Env->Shared->Prop}
 (h:Q (newEnv scope s.heap.objs.size env.globals (cellsFrom (s.heap.objs.size+1) scope.names (gH env.cells scope.names [])) env.qual none .none (some env) builtinsNs)
  { s with heap:=pushCells (s.heap.push { cls:=.type "dict",data:=.dict #[] }) scope.names }) :
 wpAny M A (newFunctionEnv scope env.globals (gH env.cells scope.names []) [] env.qual none .none (some env)) Q E s:=by
 have sz:(s.heap.push { cls:=.type "dict",data:=.dict #[] }).objs.size=s.heap.objs.size+1:=Bi ..;unfold newFunctionEnv;rw[if_pos (show (some env).isSome=true from rfl)]
 apply wpAny_bind
 apply wpAny_alloc
 apply wpAny_bind
 apply wpAny_layCells
 · intro name kind cells
   cases e:kind==NameKind.cell<;>simp[e]
 · rw[sz]
   apply wpAny_bind
   apply wpAny_pure
   exact wpAny_pure h
def qU (J:It)(k:Nat)(fs:List Nat)(g:TG)(tb:St->Hp->(Option V->Hp->Prop)->Prop)(σ:St)(acc:Addr)(Qf:Hp->Prop)(H:Hp):Prop :=
 ∃ W:Nat->Nat->List V->Hp->Prop,(∃ m,W 0 m [] (upd H acc (.lst [])))/\∀ i m ys H2,W i m ys H2->H2 acc=some (.lst ys) /\
  ((J.stop i H2/\Qf H2)\/(J.go i H2/\ys.length<sizeLine/\∀ x H3,J.yld i H2 x H3->g x (dW k fs σ) H3 fun σ4 H4=>tb σ4 H4 fun o H5 =>
   match o with
   | some v=>H5 acc=some (.lst ys)/\∃ m',m'<m/\W (i+1) m' (ys++[v]) (upd H5 acc (.lst (ys++[v])))
   | none=>∃ m',m'<m/\W (i+1) m' ys H5))
def PB (X:Cx)(ifs:List Expr)(elt:Expr)(tb:St->Hp->(Option V->Hp->Prop)->Prop):Prop :=
 ∀ (pins:List (Addr×Obj)) (s:Shared) (σ:St) (H:Hp) (Q:Option V->Hp->Prop),Inv X pins σ H s->tb σ H Q ->
  wpAny (model X.prog X.w) X.A (aA0 ifs X.env)
   (fun ok s1=>if ok=true then wpAny (model X.prog X.w) X.A (eval elt X.env) (fun u s2=>∃ v H',Inv X pins σ H' s2/\bM v u/\Q (some v) H') X.xe s1 else ∃ H',Inv X pins σ H' s1/\Q none H') X.xe s
def aMr (te:TE):St->Hp->(Option V->Hp->Prop)->Prop:=fun σ H Q=>te σ H fun v H'=>Q (some v) H'
def bIf (tc:TT)(te:TE):St->Hp->(Option V->Hp->Prop)->Prop:=fun σ H Q=>tc σ H fun b H1=>if b=true then te σ H1 fun v H'=>Q (some v) H' else Q none H1
theorem aHo {X:Cx}{elt:Expr}{te:TE}(he:PE X elt te):PB X [] elt (aMr te):=by
 intro pins s σ H Q I h;refine wpAny_tests_nil ?_
 rw[if_pos rfl];exact thn (he pins s σ H _ I h) fun u s2 ⟨v,H',I',r,q⟩=>⟨v,H',I',r,q⟩
theorem aIy {X:Cx}{elt c:Expr}{te:TE}{tc:TT}(hc:PT X c tc)(he:PE X elt te):PB X [c] elt (bIf tc te):=by
 intro pins s σ H Q I h;refine wpAny_tests_one (thn (hc pins s σ H _ I h) fun b s1 ⟨H1,I1,q1⟩=>?_)
 cases b with
 | true =>
  rw[if_pos rfl]at q1 ⊢;exact thn (he pins s1 σ H1 _ I1 q1) fun u s2 ⟨v,H',I',r,q⟩=>⟨v,H',I',r,q⟩
 | false =>
  rw[if_neg Bv]at q1 ⊢;exact⟨H1,I1,q1⟩
section
variable {X:Cx}{pins:List (Addr×Obj)}{σ:St}{H:Hp}{s:Shared}{scope:Scope}{N:List Str}{k:Nat}{fs:List Nat}{tg iter elt:Expr}{ifs:List Expr}{pos:Pos}{g:TG}{tb:St->Hp->(Option V->Hp->Prop)->Prop}
theorem nE {J:It}{fp:List Addr}{it:Addr}{tn:Nat->Heap->Prop}{Qf:Addr->Hp->Prop}{RR:Value->Addr->Result->Shared->Prop}{E:Value->Shared->Prop}(hc:X.calm=true)(C:CompOk X scope N k fs)(I:Inv X pins σ H s)
 (T:Turn X.prog X.w X.K tg J fp it tn) (t0:tn 0 s.heap) (f0:∀ b∈fp,jQ X pins H b) (hg:∀ fp s H,PG (cG X scope N fp s H) tg g) (gl:rC k g) (hb:∀ fp s H,PB (cG X scope N fp s H) ifs elt tb)
 (h:∀ acc,H acc=none->qU J k fs g tb σ acc (Qf acc) H)
 (hRR:∀ (acc B:Addr) (H':Hp) (s':Shared) (m:Str->Option Value),Qf acc H'->Inv X pins σ H' s'->jQ X pins H' B->s'.heap.Ns B m->RR (.ref acc) B (.ok .next) s') :
 wpAny (model X.prog X.w) X.A (newList []) (fun acc s₃=>wpAny (model X.prog X.w) X.A (newFunctionEnv scope X.env.globals (gH X.env.cells scope.names []) [] X.env.qual none .none (some X.env)) (fun cenv s₄ =>
  codeAny (model X.prog X.w) X.A (.compStart (.ListComp elt [⟨tg,iter,ifs,0⟩] scope pos) 0 (.ref it) acc { cenv with scope:=relabel scope X.env }) (RR acc cenv.locals) s₄) E s₃) E s:=by
 have hfr:H s.heap.objs.size=none:=I.fresh;refine wpAny_newObj_type ?_
 have I1:Inv X pins σ (upd H s.heap.objs.size (.lst [])) { s with heap:=s.heap.push { cls:=.type "list",data:=.seq ([]:List Value).toArray } }:=I.lnew (t':=s.toks) (its:=[]) .nil (Cq _)
 obtain⟨W,⟨m0,w0⟩,turn⟩:=h _ hfr;generalize hacc:s.heap.objs.size=acc at *
 generalize hs1:({ s with heap:=s.heap.push { cls:=.type "list",data:=.seq ([]:List Value).toArray } }:Shared)=s1 at *
 have keep1:∀ b o,s.heap.get? b=some o->s1.heap.get? b=some o:=fun b o e=>by rw[←hs1];exact Aa _ e
 have fpl:∀ b∈fp,b<s.heap.objs.size:=fun b hb=>let ⟨o,e,_⟩:=T.obj _ _ t0 b hb;Ae e
 have sz1:s1.heap.objs.size=acc+1:=by rw[←hs1,←hacc];exact Bi ..
 have f1:∀ b∈fp,jQ X pins (upd H acc (.lst [])) b:=fun b hb=>⟨by rw[aR (Au (by rw[←hacc];exact fpl b hb))];exact(f0 b hb).1,(f0 b hb).2⟩
 have ho1:∀ b∈fp,b<s1.heap.objs.size:=fun b hb=>by rw[sz1,←hacc];exact Nat.lt_succ_of_lt (fpl b hb)
 have t1:tn 0 s1.heap:=T.keep _ _ _ t0 fun b _ o e=>keep1 b o e;refine tL ?_
 have I2:=aCm (fp:=fp) C I1 f1 ho1;have keep2:∀ b o,s1.heap.get? b=some o->(pushCells (s1.heap.push { cls:=.type "dict",data:=.dict #[] }) scope.names).get? b=some o:=fun b o e=>pushCells_keeps _ _ b o (Aa _ e);generalize hs2:({ s1 with heap:=pushCells (s1.heap.push { cls:=.type "dict",data:=.dict #[] }) scope.names }:Shared)=s2 at *
 have t2:tn 0 s2.heap:=T.keep _ _ _ t1 fun b _ o e=>by rw[←hs2];exact keep2 b o e
 have stat:∀ {H':Hp},(∀ b∈fp,H' b=none)->∀ b∈fp,jQ (cG X scope N fp s1 (upd H acc (.lst []))) [] H' b:=fun {H'} hn b hb =>
  ⟨hn b hb,((I2.ok.exf b hb)).1,I2.ok.exfs b hb,.inl hb,(I2.ok.exf b hb).2,(fun p hp=>by simp[cG]at hp)⟩
 have back:∀ {σ':St} {H':Hp} {s':Shared},Inv (cG X scope N fp s1 (upd H acc (.lst []))) [] σ' H' s'->Inv X pins σ H' s'/\jQ X pins H' s1.heap.objs.size/\∃ m,s'.heap.Ns s1.heap.objs.size m:=fun {σ' H' s'} J=>by
  refine⟨I1.call' (ch:=fp) J.os J.base J.hok J.bare fun b hb=>⟨(f1 b hb).2.2.2.1,(f1 b hb).2.1,(f1 b hb).2.2.2.2.1,(f1 b hb).2.2.2.2.2⟩,I1.fpOk (An _) J.free,?_⟩
  obtain⟨m,hn,_⟩:=J.loc;exact⟨m,hn⟩
 have loop:codeAny (model X.prog X.w) X.A (.compLoop (.ListComp elt [⟨tg,iter,ifs,0⟩] scope pos) 0 (.ref it) (.ref acc) (tZ scope s1.heap.objs.size X.env)) (RR (.ref acc) s1.heap.objs.size) s2:=by
  refine qJ (fun n s'=>∃ i σ' H' ys,Inv (cG X scope N fp s1 (upd H acc (.lst []))) [] σ' H' s'/\tn i s'.heap/\(∀ b∈fp,H' b=none)/\W i n ys H'/\σ'.length=(dW k fs σ).length/\∀ j,k<=j->σ'[j]?=(dW k fs σ)[j]?) ?_ m0
   ⟨0,_,_,[],I2,t2,fun b hb=>(f1 b hb).1,w0,rfl,fun _ _=>rfl⟩
  rintro n s3 ⟨i,σ3,H3,ys,I3,st3,fr3,w3,len3,ag3⟩
  have I3':=I3.weak (σ':=dW k fs σ) len3.symm fun j v e=>by
   obtain⟨j',i',rfl,_,_⟩:=oC e;rw[ag3 _ (Bo _ _)];exact e
  obtain⟨ha,hcase⟩:=turn i n ys H3 w3;rcases hcase with ⟨stop,q⟩ | ⟨go,hlt,step⟩
  · refine thn (T.done (cG X scope N fp s1 (upd H acc (.lst []))) rfl rfl rfl hc i [] s3 _ H3 _ I3' (stat fr3) st3 stop) fun r s4 ⟨hr,I4⟩=>?_
    subst hr;obtain⟨b1,b2,m,b3⟩:=back I4;exact hRR acc _ H3 s4 m q b1 b2 b3
  · refine thn (T.item (cG X scope N fp s1 (upd H acc (.lst []))) rfl rfl rfl hc i [] s3 _ H3 _ I3' (stat fr3) st3 go) fun r s4 ⟨u,hr,h4⟩=>?_
    subst hr;refine thn h4 fun _ s5 ⟨x,H5,I5,r5,y5,st5,fr5⟩=>?_
    have I5':=I5.pinned (stat fr5) (T.obj _ _ st5);refine thn (hg _ _ _ _ s5 _ H5 x u _ I5' r5 (gl _ _ _ _ (step x H5 y5))) fun _ s6 ⟨σ6,H6,I6,q6,len6,ag6⟩=>?_
    refine thn (hb _ _ _ _ s6 σ6 H6 _ I6 q6) fun ok s7 q7=>?_
    have again:∀ {H8:Hp} {s8:Shared} {ys':List V} {m':Nat},Inv (cG X scope N fp s1 (upd H acc (.lst []))) ([]++mY fp s5.heap) σ6 H8 s8->m'<n->W (i+1) m' ys' H8 ->
     ∃ m,m<n/\∃ i σ' H' ys,Inv (cG X scope N fp s1 (upd H acc (.lst []))) [] σ' H' s8/\tn i s8.heap/\(∀ b∈fp,H' b=none)/\W i m ys H'/\σ'.length=(dW k fs σ).length/\∀ j,k<=j->σ'[j]?=(dW k fs σ)[j]?:=fun {H8 s8 ys' m'} I8 hm w8=>by
     refine⟨m',hm,i+1,σ6,H8,ys',I8.unpinned,T.keep _ _ _ st5 fun b hb o e=>(I8.pin (b,o) (Bc _ (Bc _ (fM hb e)))).1,fun b hb=>?_,w8,len6,ag6⟩
     obtain⟨o,e,d⟩:=T.obj _ _ st5 b hb;exact(I8.pin (b,o) (Bc _ (Bc _ (fM hb e)))).2.1
    cases ok with
    | false =>
     rw[if_neg Bv]at q7 ⊢;obtain⟨H8,I8,m',hm,w8⟩:=q7;exact again I8 hm w8
    | true =>
     rw[if_pos rfl]at q7 ⊢;refine thn q7 fun u8 s8 ⟨v,H8,I8,r8,ha8,m',hm,w8⟩=>?_
     refine thn (qC _ s8 σ6 H8 (.ref acc) [v] (.ref acc) [u8] (fun _ H'=>H'=upd H8 acc (.lst (ys++[v]))) I8 rfl (.cons r8 .nil) ⟨acc,ys,v,rfl,rfl,ha8,hlt,rfl⟩) fun _ s9 ⟨_,H9,I9,_,e9⟩=>?_
     subst e9;exact again I9 hm w8
 exact codeAny_compStart_list loop (T.self _ 0 _ _ _ t2 loop)
def aF1 (wi:TI)(k:Nat)(fs:List Nat)(g:TG)(tb:St->Hp->(Option V->Hp->Prop)->Prop):TE:=fun σ H Q=>wi σ H fun J H1=>∀ acc,H1 acc=none->qU J k fs g tb σ acc (fun H2=>Q (.ref acc) H2) H1
theorem aEz {wi:TI}(hc:X.calm=true)(C:CompOk X scope N k fs)(hi:PI X tg iter wi)(hg:∀ fp s H,PG (cG X scope N fp s H) tg g)(gl:rC k g)(hb:∀ fp s H,PB (cG X scope N fp s H) ifs elt tb)
 (hs:∀ x,foldedSetIterable iter X.env x=pure x:=by intro _;rfl):PE X (.ListComp elt [⟨tg,iter,ifs,0⟩] scope pos) (aF1 wi k fs g tb):=by
 intro pins s σ H Q I h;rw[eval_ListComp];refine wpAny_comprehension_free (use:=none) rfl hs C.clos C.kind C.names (thn (hi pins s σ H _ I h) fun v s1 h1=>thn h1 fun itv s2 h2=>?_)
 obtain⟨it,fp,tn,J,H2,e,I2,T,st2,f2,q2⟩:=h2;subst e;refine nE (RR:=fun acc B=>compPost (model X.prog X.w) X.A X.xe none (EP X pins σ Q) acc B) hc C I2 T st2 f2 hg gl hb q2 ?_
 intro acc B H' s' m q I' F n;exact⟨m,n,fun h' sb=>⟨.ref acc,H',I'.turned (t':=s'.toks) (fun b o hb e=>sb.extBut b o hb e) F.1 F.2.1 F.2.2.2.1 F.2.2.2.2.1 F.2.2.2.2.2,rfl,q⟩⟩
def aGa (i:Nat)(wi:TI)(k:Nat)(fs:List Nat)(g:TG)(tb:St->Hp->(Option V->Hp->Prop)->Prop):TS:=fun D σ H=>wi σ H fun J H1=>∀ acc,H1 acc=none->qU J k fs g tb σ acc (fun H2=>D.nx (σ.set i (some (.ref acc))) H2) H1
theorem aEd {wi:TI}{i:Nat}{y:Str}{py spos:Pos}(hc:X.calm=true)(hN:X.N.Nodup)(hi':X.N[i]?=some y)(hy:X.env.scope.names.lookup y=some .local)(C:CompOk X scope N k fs)(hi:PI X tg iter wi)(hg:∀ fp s H,PG (cG X scope N fp s H) tg g)(gl:rC k g)
 (hb:∀ fp s H,PB (cG X scope N fp s H) ifs elt tb) (hsw:swapsWith (.ListComp elt [⟨tg,iter,ifs,0⟩] scope pos) (some (.Name y py)) spos.line X.env=pure true)
 (hs:∀ x,foldedSetIterable iter X.env x=pure x:=by intro _;rfl):PS X (.Assign [.Name y py] (.ListComp elt [⟨tg,iter,ifs,0⟩] scope pos) spos) (aGa i wi k fs g tb):=by
 intro pins s σ H D I h;refine(exec_Assign_Name_used _ _ _ _ hsw).symm▸wpAny_bind (wpAny_standAt (wpAny_bind ?_))
 show wpAny _ X.A (do let _ ← comprehension (.ListComp elt [⟨tg,iter,ifs,0⟩] scope pos) scope X.env _ (newList []) false (eval iter X.env) (some (assign (.Name y py) X.env))) _ _ s
 refine wpAny_bind (wpAny_mono (wpAny_comprehension_free (use:=some (assign (.Name y py) X.env)) (Q:=fun _ s'=>SP X pins D .next s') rfl hs C.clos C.kind C.names
  (thn (hi pins s σ H _ I h) fun v s1 h1=>thn h1 fun itv s2 h2=>?_)) (fun _ s' hq=>wpAny_pure (wpAny_pure hq)) fun _ _ e=>e)
 obtain⟨it,fp,tn,J,H2,e,I2,T,st2,f2,q2⟩:=h2;subst e;refine nE (RR:=fun acc B=>compPost (model X.prog X.w) X.A X.xe (some (assign (.Name y py) X.env)) (fun _ s'=>SP X pins D .next s') acc B) hc C I2 T st2 f2 hg gl hb q2 ?_
 intro acc B H' s' m q I' F n
 have hoB:∃ o,s'.heap.get? B=some o/\∀ v,o.data≠.cell v:=by
  obtain⟨o,es,ep,ho,hd,_⟩:=n;exact⟨o,ho,fun v z=>by rw[hd]at z;cases z⟩
 have I'':=I'.pinned (fp:=[B]) (fun b hb=>by rw[Bz.mp hb];exact F) (fun b hb=>by rw[Bz.mp hb];exact hoB)
 show wpAny _ X.A (assign (.Name y py) X.env (.ref acc)) _ _ _
 refine wpAny_assign_Name (gV (v:=.ref acc) I'' hN hi' (.inl hy) rfl (fun s3 I3=>?_) (.inr hy))
 obtain⟨o,ho,_⟩:=hoB;have pin:=(I3.pin (B,o) (Bc _ (Bc _ (fM (Bz.mpr rfl) ho)))).1;refine⟨m,n.at' fun o' e'=>?_,fun h' sb=>?_⟩
 · rw[ho]at e'
   cases e';exact pin
 · exact⟨_,H',(I3.unpinned).turned (t':=s3.toks) (fun b o hb e=>sb.extBut b o hb e) F.1 F.2.1 F.2.2.2.1 F.2.2.2.2.1 F.2.2.2.2.2,q⟩
end
end L2
namespace Zp
open PySem
section
variable {prog:Program}{w:World}{A:Around}{E:Value->Shared->Prop}{s:Shared}
def Out (N:List Addr)(h h':Heap):Prop:=∀ c o,c∉N->h.get? c=some o->h'.get? c=some o
theorem Out.of {a:Addr}{N:List Addr}{h h':Heap}(e:Heap.ExtBut a h h')(m:a∈N):Out N h h':=fun c o n q=>e c o (fun x=>n (x▸m)) q
theorem Out.then {N:List Addr}{h h1 h2:Heap}(a:Out N h h1)(b:Out N h1 h2):Out N h h2:=fun c o n q=>b c o n (a c o n q)
variable {z TI TO T i1 i2 l1 l2:Addr}{f:Bool}{oT:Obj}{k:Nat}{xs ys:Array Value}
theorem nxt {o:Obj}{Q:Option Value->Shared->Prop}(ho:s.heap.get? z=some o)(hc:o.cls=.type "zip")
 (h:wpAny (model prog w) A.in1 (Builtin.«zip.__next__» ⟨[.ref z],[]⟩) (fun r s'=>∃ v,r=.done (.ret v)/\Q (some v) s') (fun e s'=>∃ a u,e=.ref a/\s'.heap.get? a=some u/\u.cls=.type "StopIteration"/\Q none s') s):wpAny (model prog w) A (pyNext (.ref z)) Q E s:=by
 have ty:s.TypeIs (.ref z) "zip":=⟨o,ho,hc⟩;refine wpAny_bind (wpAny_attempt (wpAny_mono (Q:=fun r s'=>∃ v,r=some v/\Q (some v) s') (wpAny_callSpecial?_slot ty F.slot_zip_next (wpAny_call_entry F.slot_zip_next ty F.entry_zip_next (wpAny_mono h ?_ fun _ _ e=>e) (F.args_zip_next_1 _))) ?_ ?_))
 · rintro _ s' ⟨v,rfl,q⟩
   exact⟨v,rfl,v,rfl,q⟩
 · rintro _ s' ⟨v,rfl,q⟩
   exact wpAny_pure q
 · rintro _ s' ⟨a,u,rfl,e1,e2,q⟩
   exact wpAny_bind (wpAny_isInstance (T:="StopIteration") (b:=true) ⟨u,e1,e2⟩ isSubtype_stop (wpAny_pure q))
end
end Zp
namespace Zp
open PySem
def mk (vs:List Value)(c:Nat):Obj:={ cls:=.type "list",data:=.seq vs.toArray c }
section
variable {prog:Program}{w:World}{A:Around}{z S:Addr}{P:Nat->List Value->Heap->Prop}{L:List Value->Heap->Prop}{R:Result->Shared->Prop}
theorem upd {E:Value->Shared->Prop}{s:Shared}{vs:List Value}{c:Nat}{f:Array Value->Array Value}{Q:Unit->Shared->Prop}(e:s.heap.get? S=some (mk vs c))(l:vs.length<=1)(m:(f vs.toArray).size<=1)
 (q:∀ h' c',h'.get? S=some (mk (f vs.toArray).toList c')->Heap.SameBut S s.heap h'->Q () { s with heap:=h' }):wpAny (model prog w) A (updateSeq S f) Q E s :=
 have one:1<=sizeLine:=by decide
 wpAny_updateSeq e rfl (q _ _ (Cp _ e rfl) (Heap.SameBut.update ..)) (by simp;omega) (by omega)
end
end Zp
namespace Zp
open PySem
structure Pl (old z TI TO i1 i2 l1 l2 S:Addr):Prop where
 ap:ZipApart z TI TO i1 i2 l1 l2
 new:∀ a∈[z,TO,i1,i2],old<=a
 low:∀ a∈[z,TO,i1,i2],a<S
 lo2:∀ a∈[TI,l1,l2],a<S
section
variable {h0 h h':Heap}{old z TI TO i1 i2 l1 l2 S:Addr}{xs ys:Array Value}{n:Nat}{vs:List Value}
theorem Pl.ns (P:Pl old z TI TO i1 i2 l1 l2 S):S∉[z,TO,i1,i2]:=fun m=>Cy _ (P.low _ m)
theorem Pl.lt (P:Pl old z TI TO i1 i2 l1 l2 S){b:Addr}(m:b<old):b∉[z,TO,i1,i2]:=fun k=>Nat.not_le.mpr m (P.new _ k)
end
end Zp
namespace L2
open PySem PySem.Spec PyProof.Rows
mutual
inductive Has (K:PySem.W.Frag) (H:Hp):V->PyData->Prop
 | non:Has K H .non .none
 | bl (b:Bool):Has K H (.bl b) (.bool b)
 | int (i:Int):Has K H (.int i) (.int i)
 | str (x:Str):Has K H (.str x) (.str x)
 | lst {a:Addr} {xs:List V} {ds:List PyData}:SqL K H a xs->HasAll K H xs ds->Has K H (.ref a) (.list ds)
 | tup {a:Addr} {xs:List V} {ds:List PyData}:SqT K H a xs->HasAll K H xs ds->Has K H (.ref a) (.tuple ds)
inductive HasAll (K:PySem.W.Frag) (H:Hp):List V->List PyData->Prop
 | nil:HasAll K H [] []
 | cons {v:V} {d:PyData} {vs:List V} {ds:List PyData}:Has K H v d->HasAll K H vs ds->HasAll K H (v :: vs) (d :: ds)
end
theorem aD.seqT {K:PySem.W.Frag}{H H':Hp}{a:Addr}{xs:List V}(e:aD H H')(h:SqT K H a xs):SqT K H' a xs:=by
 rcases h with (h | ⟨o,h⟩) | h
 · exact .inl (.inl (e _ _ h))
 · exact .inl (.inr ⟨o,e _ _ h⟩)
 · exact .inr h
mutual
theorem Has.same {K:PySem.W.Frag}{H H':Hp}(e:aD H H'):∀ {v:V} {d:PyData},Has K H v d->Has K H' v d
 | _,_,.non=>.non
 | _,_,.bl b=>.bl b
 | _,_,.int i=>.int i
 | _,_,.str x=>.str x
 | _,_,.lst h r=>.lst (e.seq h) (HasAll.same e r)
 | _,_,.tup h r=>.tup (e.seqT h) (HasAll.same e r)
theorem HasAll.same {K:PySem.W.Frag}{H H':Hp}(e:aD H H'):∀ {v:List V} {d:List PyData},HasAll K H v d->HasAll K H' v d
 | _,_,.nil=>.nil
 | _,_,.cons h r=>.cons (Has.same e h) (HasAll.same e r)
end
mutual
theorem Has.reads {X:Cx}{pins:List (Addr×Obj)}{σ:St}{H:Hp}{s:Shared}(I:Inv X pins σ H s):∀ {v:V} {d:PyData},Has X.K H v d->∀ {u:Value},bM v u->∃ as,Reads s.heap u d as
 | _,_,.non,u,r=>by cases (show u=Value.none from r);exact⟨_,.none⟩
 | _,_,.bl b,u,r=>by cases (show u=Value.bool b from r);exact⟨_,.bool b⟩
 | _,_,.int i,u,r=>by obtain⟨t,rfl⟩:=(show ∃ t,u=Value.int i t from r);exact⟨_,.int i t⟩
 | _,_,.str x,u,r=>by obtain⟨t,rfl⟩:=(show ∃ t,u=Value.str x t from r);exact⟨_,.str x t⟩
 | _,_,.lst (a:=a) h r,u,q=>by
  cases (show u=Value.ref a from q)
  obtain⟨its,rv,p,_⟩:=I.list h;obtain⟨as,ra⟩:=HasAll.reads I r rv;obtain⟨o,ho,hc,n,hd⟩:=p.isList;exact⟨_,.list ho hc hd (by rw[List.toList_toArray];exact ra)⟩
 | _,_,.tup (a:=a) h r,u,q=>by
  cases (show u=Value.ref a from q)
  obtain⟨its,rv,p,_⟩:=I.tuple h;obtain⟨as,ra⟩:=HasAll.reads I r rv;obtain⟨o,ho,hc,n,hd⟩:=p;exact⟨_,.tuple ho hc hd (by rw[List.toList_toArray];exact ra)⟩
theorem HasAll.reads {X:Cx}{pins:List (Addr×Obj)}{σ:St}{H:Hp}{s:Shared}(I:Inv X pins σ H s):∀ {vs:List V} {ds:List PyData},HasAll X.K H vs ds->∀ {us:List Value},bH vs us->∃ as,ReadsAll s.heap us ds as
 | _,_,.nil,us,r=>by cases r;exact⟨_,.nil⟩
 | _,_,.cons h t,us,r=>by
  cases r with
  | cons r1 r2 =>
   obtain⟨a1,h1⟩:=Has.reads I h r1;obtain⟨a2,h2⟩:=HasAll.reads I t r2;exact⟨_,.cons h1 h2⟩
end
section
variable {X:Cx}
def aLq (K:PySem.W.Frag):R2:=fun x y H Q=>∃ d e,Has K H x d/\Has K H y e/\SeqAt.shaped d=true/\SeqAt.shaped e=true/\Q (.bl (PyData.eqv d e)) H
def aMs (K:PySem.W.Frag):R2:=fun x y H Q=>∃ d e,Has K H x d/\Has K H y e/\SeqAt.shaped d=true/\SeqAt.shaped e=true/\Q (.bl (!PyData.eqv d e)) H
theorem aCh (hu:X.A.units+64<cLine):OpR X (compareOp .Eq) (aLq X.K):=by
 intro pins s σ H x y v u Q I rx ry h;obtain⟨d,e,hd,he,sd,se,q⟩:=h;obtain⟨as,ra⟩:=hd.reads I rx;obtain⟨bs,rb⟩:=he.reads I ry;exact SeqAt.compareEq_shaped ra rb sd se hu ⟨.bl _,H,I,rfl,q⟩
theorem aHe (hu:X.A.units+64<cLine):OpR X (compareOp .NotEq) (aMs X.K):=by
 intro pins s σ H x y v u Q I rx ry h;obtain⟨d,e,hd,he,sd,se,q⟩:=h;obtain⟨as,ra⟩:=hd.reads I rx;obtain⟨bs,rb⟩:=he.reads I ry;exact SeqAt.compareNe_shaped ra rb sd se hu ⟨.bl _,H,I,rfl,q⟩
theorem aCo:kM X (.builtin "isinstance") (fun xs H Q=>∃ x t n b,xs=[x,.ty n]/\TyOf X.K H x t/\Bk X.K t (.type n)=some b/\Q (.bl b) H):=by
 intro pins s σ H xs us Q I r h;obtain⟨x,t,n,b,rfl,ty,e,q⟩:=h;obtain⟨u,v,rfl,r1,r2⟩:=xM r;cases (show v=Value.type n from r2)
 exact pT I r1 ty e fun tk=>⟨.bl b,H,I.tok tk,rfl,q⟩
end
end L2
namespace L2
open PySem PySem.Spec PyProof.Rows
theorem Inv.turnedNew {X:Cx}{pins:List (Addr×Obj)}{σ:St}{H:Hp}{s:Shared}{h':Heap}{t':Nat}{fp:List Addr}{a:Addr}{o:HO}(I:Inv X pins σ H s)
 (k:∀ b u,b∉fp->s.heap.get? b=some u->h'.get? b=some u) (hf:∀ b∈fp,jQ X pins H b) (ho:∀ b∈fp,∃ u,h'.get? b=some u) (hp:s.heap.objs.size<=a) (new:cK X.prog X.w (upd H a o) h' a o) :
 Inv X pins σ (upd H a o) { s with heap:=h',toks:=t' }:=by
 have fr:H a=none:=I.hok.fresh hp
 have nfp:∀ b u,H b=some u->b∉fp:=fun b u e z=>by
  have:=(hf b z).1
  rw[e]at this;cases this
 refine I.step (g':=s.gens) (d':=s.drawn) (ch:=fp) (fun b hb=>⟨(hf b hb).2.2.2.1,(hf b hb).2.1,(hf b hb).2.2.2.2.1,(hf b hb).2.2.2.2.2⟩) (fun b u _ _ hc e _=>k b u hc e) (fun b u _ _ hc e _=>⟨u.slots,k b u hc e⟩)
  (fun b u _ e n=>?_) (fun b u hc e=>⟨u,k b u hc e⟩) (fun b xs e=>?_) (fun b u v e=>?_) (fun b ps e=>⟨#[],?_⟩) (fun m hm=>?_) (fun b u e=>?_) I.bare
 · rw[aR (Au (Ac (Ae e) hp))];exact n
 · rw[aR (bJ e fr)];exact e
 · rw[aR (bJ e fr)];exact e
 · rw[aR (bJ e fr),e];simp
 · obtain⟨ob,es,ep,hob,r⟩:=hm
   exact⟨ob,es,ep,k _ ob (fun z=>(hf _ z).2.1 rfl) hob,r⟩
 · by_cases hb:b=a
   · subst hb
     rw[bC]at e;cases e;exact new
   · rw[aR hb]at e
     refine(I.hok b u e).stay (fun c v hc q=>k c v ?_ q) (fun c q=>by rw[aR (bJ q fr)];exact q) fun c xs q=>by rw[aR (bJ q fr)];exact q
     rcases hc with z | z
     · rw[z];exact nfp b u e
     · exact nfp c _ z
theorem Inv.turnedL {X:Cx}{pins:List (Addr×Obj)}{σ:St}{H:Hp}{s:Shared}{h':Heap}{t':Nat}{fp:List Addr}(I:Inv X pins σ H s)
 (k:∀ b u,b∉fp->s.heap.get? b=some u->h'.get? b=some u) (hf:∀ b∈fp,jQ X pins H b):Inv X pins σ H { s with heap:=h',toks:=t' }:=by
 have nfp:∀ b u,H b=some u->b∉fp:=fun b u e z=>by
  have:=(hf b z).1
  rw[e]at this;cases this
 refine I.step (g':=s.gens) (d':=s.drawn) (ch:=fp) (fun b hb=>⟨(hf b hb).2.2.2.1,(hf b hb).2.1,(hf b hb).2.2.2.2.1,(hf b hb).2.2.2.2.2⟩) (fun b u _ _ hc e _=>k b u hc e) (fun b u _ _ hc e _=>⟨u.slots,k b u hc e⟩)
  (fun b u _ _ n=>n) (fun b u hc e=>⟨u,k b u hc e⟩) (fun b xs e=>e) (fun b u v e=>e) (fun b ps e=>⟨#[],by rw[e];simp⟩) (fun m hm=>?_) (fun b u e=>?_) I.bare
 · obtain⟨ob,es,ep,hob,r⟩:=hm
   exact⟨ob,es,ep,k _ ob (fun z=>(hf _ z).2.1 rfl) hob,r⟩
 · refine(I.hok b u e).stay (fun c v hc q=>k c v ?_ q) (fun c q=>q) fun c xs q=>q
   rcases hc with z | z
   · rw[z];exact nfp b u e
   · exact nfp c _ z
def Itz (K:PySem.W.Frag)(a b:Addr):It :=
  ⟨fun i H=>∃ xs ys x y,SqL K H a xs/\SqL K H b ys/\xs[i]?=some x/\ys[i]?=some y,
   fun i H v H'=>∃ t x y,v=.ref t/\H t=none/\H'=upd H t (.tup [x,y])/\(∀ xs,SqL K H a xs->xs[i]?=some x)/\∀ ys,SqL K H b ys->ys[i]?=some y,
   fun i H=>∃ xs ys,SqL K H a xs/\SqL K H b ys/\(xs.length<=i\/ys.length<=i)⟩
def ZTn (z TI TO i1 i2 a b:Addr)(i:Nat)(h:Heap):Prop:=IsZip h z TI TO .none/\IsPair h TI (.ref i1) (.ref i2)/\(∃ u v,IsPair h TO u v)/\h.IsListIter i1 a i/\h.IsListIter i2 b i
theorem zO {P:Program}{w:World}{K:PySem.W.Frag}{es:List Expr}{k:Nat}{pos:Pos}{z TI TO i1 i2 a b:Addr}(D:ZipApart z TI TO i1 i2 a b) :
 Turn P w K (.Tuple es k pos) (Itz K a b) [z,TI,TO,i1,i2] z (ZTn z TI TO i1 i2 a b) where
 mem:=by simp
 obj:=fun i h st c hc=>by
  obtain⟨hz,hTI,⟨u,v,hTO⟩,⟨o1,e1,c1,d1⟩,⟨o2,e2,c2,d2⟩⟩:=st;simp only[Ad,Ak,or_false]at hc;rcases hc with rfl | rfl | rfl | rfl | rfl
  · exact⟨_,hz,fun v z=>nomatch z⟩
  · exact⟨_,hTI,fun v z=>nomatch z⟩
  · exact⟨_,hTO,fun v z=>nomatch z⟩
  · exact⟨o1,e1,fun v z=>by rw[d1]at z;cases z⟩
  · exact⟨o2,e2,fun v z=>by rw[d2]at z;cases z⟩
 keep:=fun i h h' st kp=>by
  obtain⟨hz,hTI,⟨u,v,hTO⟩,h1,h2⟩:=st;exact⟨kp _ (by simp) _ hz,kp _ (by simp) _ hTI,⟨u,v,kp _ (by simp) _ hTO⟩,h1.at fun o e=>kp _ (by simp) o e,h2.at fun o e=>kp _ (by simp) o e⟩
 item:=by
  intro X hP hw hK hc i pins s σ H E I hf st hg;subst hP hw hK;obtain⟨xs,ys,x,y,ha,hb,hx,hy⟩:=hg;obtain⟨us,ru,pu,_⟩:=I.list ha;obtain⟨vs,rv,pv,_⟩:=I.list hb;obtain⟨u,eu,rxu⟩:=ru.get hx;obtain⟨v,ev,ryv⟩:=rv.get hy;obtain⟨hz,hTI,⟨u0,v0,hTO⟩,h1,h2⟩:=st;refine wpAny_pyNext_zip_item D hz hTI hTO h1 h2 pu.isList pv.isList (x:=u) (y:=v) (by simpa using eu) (by simpa using ev) fun h' b1 b2 b3 b4 b5 b6 b7=>⟨_,rfl,?_⟩
  refine wpAny_letOwnedTupleGo_zip b1 fun hp2 c1 cs=>?_
  have nz:s.heap.objs.size≠z:=Eu (Ae hz)
  have kp:∀ c o,c∉[z,TI,TO,i1,i2]->s.heap.get? c=some o->hp2.get? c=some o:=fun c o hc' e=>by
   simp only[Ad,Ak,or_false,not_or]at hc';exact cs.extBut c o hc'.1 (b7 c o hc'.1 hc'.2.2.1 hc'.2.2.2.1 hc'.2.2.2.2 e)
  have st':ZTn z TI TO i1 i2 a b (i+1) hp2:=⟨c1,cs.extBut _ _ D.TIz (b7 _ _ D.TIz D.TITO D.TIi1 D.TIi2 hTI),⟨_,_,cs.extBut _ _ D.TOz b2⟩,b3.extBut cs.extBut D.i1z,b4.extBut cs.extBut D.i2z⟩;have pr:IsPair hp2 s.heap.objs.size u v:=cs.extBut _ _ nz b5;have fr:H s.heap.objs.size=none:=I.fresh
  refine⟨.ref s.heap.objs.size,upd H s.heap.objs.size (.tup [x,y]),I.turnedNew (t':=s.toks) kp hf (fun c hc'=>?_) (An _) ⟨by show 2<=sizeLine;decide,[u,v],.cons rxu (.cons ryv .nil),⟨_,pr,rfl,_,rfl⟩⟩,rfl,
   ⟨_,x,y,rfl,fr,rfl,fun zs hq=>by rw[I.list_inj hq ha];exact hx,fun zs hq=>by rw[I.list_inj hq hb];exact hy⟩,st',fun c hc'=>?_⟩
  · obtain⟨d1,d2,⟨p,q,d3⟩,⟨p1,d4,_⟩,⟨p2,d5,_⟩⟩:=st'
    simp only[Ad,Ak,or_false]at hc';rcases hc' with rfl | rfl | rfl | rfl | rfl
    · exact⟨_,d1⟩
    · exact⟨_,d2⟩
    · exact⟨_,d3⟩
    · exact⟨_,d4⟩
    · exact⟨_,d5⟩
  · have:c<s.heap.objs.size:=by
     obtain⟨p1,d4,_⟩:=h1;obtain⟨p2,d5,_⟩:=h2;simp only[Ad,Ak,or_false]at hc';rcases hc' with rfl | rfl | rfl | rfl | rfl
     · exact Ae hz
     · exact Ae hTI
     · exact Ae hTO
     · exact Ae d4
     · exact Ae d5
    rw[aR (Au this)];exact(hf c hc').1
 done:=by
  intro X hP hw hK hc i pins s σ H E I hf st hg;subst hP hw hK;obtain⟨xs,ys,ha,hb,hend⟩:=hg;obtain⟨us,ru,pu,_⟩:=I.list ha;obtain⟨vs,rv,pv,_⟩:=I.list hb;have lu:=ru.length;have lv:=rv.length;obtain⟨hz,hTI,⟨u0,v0,hTO⟩,h1,h2⟩:=st;refine wpAny_pyNext_zip_end (I.ok.hd hc) D hz hTI hTO h1 h2 pu.isList pv.isList ?_ fun h' kp=>⟨rfl,I.turnedL (t':=s.toks) (fun c o hc' e=>?_) hf⟩
  · rcases hend with q | q
    · exact .inl (Array.getElem?_eq_none (by rw[Aj];omega))
    · exact .inr (Array.getElem?_eq_none (by rw[Aj];omega))
  · simp only[Ad,Ak,or_false,not_or]at hc'
    exact kp c o hc'.1 hc'.2.2.1 hc'.2.2.2.1 hc'.2.2.2.2 e
 self:=fun _ _ _ _ _ st h=>wpAny_pyIter_zip st.1 h
def aLv (K:PySem.W.Frag)(ta:TA):TI:=fun σ H R=>ta σ H fun vs H1=>∃ a b,vs=[.ref a,.ref b]/\(∃ xs,SqL K H1 a xs)/\(∃ ys,SqL K H1 b ys)/\R (Itz K a b) H1
theorem aG5 {X:Cx}{es:List Expr}{k:Nat}{tp:Pos}{a b:Expr}{t:TA}{p pos:Pos}(hc:X.calm=true)(hg:Gl X "zip")(hm:X.mg "zip" = none)(ha:PA X [a,b] t)
 (hs:starEach [a,b] X.env=[(false,eval a X.env),(false,eval b X.env)]:=by rfl) (hs2:starEach [b] X.env=[(false,eval b X.env)]:=by rfl) :
 PI X (.Tuple es k tp) (.Call (.Name "zip" p) [a,b] [] pos) (aLv X.K t):=by
 intro pins s σ H R I h;refine Call_ (iO I hg hm boot_zip (Bu (thn (ha pos pins s σ H _ I h) fun us s1 ⟨vs,H1,I1,r1,x,y,e,⟨xs,hx⟩,⟨ys,hy⟩,q⟩=>?_) (by rw[hs,hs2]) (by rw[hs2];rfl)))
 subst e;obtain⟨u,v,rfl,rx,ry⟩:=xM r1;cases rx;cases ry;obtain⟨us',ru,pu,zu⟩:=I1.list hx;obtain⟨vs',rv,pv,zv⟩:=I1.list hy;have a1:x<s1.heap.objs.size:=by obtain⟨_,e,_⟩:=pu.isList;exact Ae e
 have a2:y<s1.heap.objs.size:=by obtain⟨_,e,_⟩:=pv.isList;exact Ae e
 refine call_zip_2 pu.isList pv.isList fun h1 hz hTI hTO hi1 hi2 hsz hk=>?_
 refine wpAny_pyIter_zip hz ?_
 have big:∀ c∈[s1.heap.objs.size+4,s1.heap.objs.size+2,s1.heap.objs.size+3,s1.heap.objs.size,s1.heap.objs.size+1],s1.heap.objs.size<=c:=fun c hc'=>by
  simp only[Ad,Ak,or_false]at hc';rcases hc' with rfl | rfl | rfl | rfl | rfl
  · exact Bo _ 4
  · exact Bo _ 2
  · exact Bo _ 3
  · exact An _
  · exact Bo _ 1
 exact⟨_,[s1.heap.objs.size+4,s1.heap.objs.size+2,s1.heap.objs.size+3,s1.heap.objs.size,s1.heap.objs.size+1],_,_,H1,rfl,I1.kept (t':=s1.toks) hk,zO (zipApart_new a1 a2),⟨hz,hTI,⟨_,_,hTO⟩,hi1,hi2⟩,
  fun c hc'=>I1.fpOk (big c hc') (I1.hok.fresh (big c hc')),q⟩
section
variable {X:Cx}
def aKg (i j:Int):Prop:=i.natAbs.log2<1000000/\j.natAbs.log2<1000000
def aJw (i j:Int):Prop:=0<j/\j.natAbs.log2<9000
theorem kA {i:Int}(h:i.natAbs.log2<1000000):Builtin.Int.intBits i<=2^20:=by
 have million:1000000<(2:Nat)^20:=by decide
 unfold Builtin.Int.intBits
 first
  | omega
  | (split<;>omega)
theorem aEs:OpR X (binaryOp .Mult) (rI aKg fun i j=>.int (i*j)):=opI fun _ _ _ _ _ _ _ hc q=>mul_int q (.of_bits (kA hc.1) (kA hc.2))
theorem zQ:OpR X (binaryOp .FloorDiv) (rI aJw fun i j=>.int (i/j)):=opI fun i j _ _ _ _ _ hc q=>by
 have h1:(0:Int)<j:=hc.1;exact floordiv_int (by omega) (by rw[Dp i (by omega)];exact q) (.inl (PyProof.noPylong_of_log2 hc.2))
end
end L2
namespace L2
open PySem PySem.Spec PyProof.Rows
def aN (P:Program)(w:World)(K:PySem.W.Frag)(mg:Str->Option Value)(base:Heap)(CX:CXT)(k:Nat)(x:Str)(ps:List Str)(sp:Sp):Prop :=
 ∃ (f:Addr) (fd:FuncData),FnOk P w K mg base CX k f fd ps sp/\mg x=some (.ref f)/\Ci K (.ref f)=true/\gC K fd ps []
def bR (K:PySem.W.Frag)(mg:Str->Option Value)(x:Str)(st:Stmt)(ps:List Str):Prop :=
 ∃ (f:Addr) (fd:FuncData),Fun K x x st f fd/\mg x=some (.ref f)/\gC K fd ps []
theorem aN.mono {P:Program}{w:World}{K:PySem.W.Frag}{mg:Str->Option Value}{base:Heap}{CX:CXT}{j k:Nat}{x:Str}{ps:List Str}{sp:Sp}(c:aN P w K mg base CX j x ps sp)(h:j<=k):aN P w K mg base CX k x ps sp :=
 let ⟨f,fd,F,m,kp,b⟩:=c
 ⟨f,fd,F.mono h,m,kp,b⟩
theorem bU {K:PySem.W.Frag}{mg:Str->Option Value}{h:Heap}{x:Str}{st:Stmt}{ps:List Str}{f:Addr}{oc:Value}{od an:Option Addr}{osl:Array (Option Value)}{kV doc pm cdv ct:Value}(X:K.In h)(G:h.Ns mainGlobals mg)
 (a:Ay K mainGlobals x=some (some (.ref f))) (l:K.lookup f=some ⟨oc,od,.func (Cb x x (eN st) (cX st) (aM st) .none kV doc pm an cdv ct),osl⟩)
 (c:Da K cdv x=true) (kp:Ci K (.ref f)=true)
 (hb:∀ (kV doc pm:Value) (an:Option Addr) (cdv ct:Value) (us:List Value),us.length=ps.length->bindArgs (Cb x x (eN st) (cX st) (aM st) .none kV doc pm an cdv ct) ⟨us,[]⟩=pure (ps.zip us)):bR K mg x st ps:=by
 have F:=rK (st:=st) l c kp;exact⟨f,_,F,Dw X G a,F.binds hb⟩
def wK (sc:Scope)(XN:List Str)(scope:Scope)(N:List Str)(k:Nat)(fs:List Nat):Bool :=
 scope.kind==.function&&decide (scope.names.map (·.1)).Nodup&&scope.names.all (fun y=>y.2 != .free||((sc.names.filter (·.2==.cell)).map (·.1)).contains y.1)&&N.length==k+fs.length &&
  fs.zipIdx.all fun p=>match N[k+p.2]?,XN[p.1]? with
   | some x,some y=>decide (x=y)&&scope.names.lookup x==some .free&&sc.names.lookup x==some .cell
   | _,_=>false
theorem fX:∀ (names:List (Str×NameKind)) (n:Nat),∀ x,x∈(names.filter (·.2==.cell)).map (·.1)->x∈(cellsFrom n names []).map (·.1)
 | [],_,x,h=>by simp at h
 | (y,k) :: r,n,x,h=>by
  unfold cellsFrom;by_cases hk:(k==NameKind.cell)=true
  · rw[if_pos hk,bO,Cm,Bg]
    rw[List.filter_cons_of_pos (by exact hk),Am,Ad]at h
    rcases h with h | h
    · right;simp[h]
    · left;exact fX r (n+1) x h
  · rw[if_neg hk]
    rw[List.filter_cons_of_neg (by exact hk)]at h
    exact fX r n x h
theorem bG {X:Cx}{sc scope:Scope}{n k:Nat}{N XN:List Str}{fs:List Nat}(hN:X.N=XN)(he:X.env.cells=cellsFrom n sc.names [])(hs:X.env.scope=sc)(h:wK sc XN scope N k fs=true):CompOk X scope N k fs:=by
 unfold wK at h;simp only[Bp]at h;obtain⟨⟨⟨⟨h1,h2⟩,h3⟩,h4⟩,h5⟩:=h;refine⟨by simpa using h1,of_decide_eq_true h2,fun y hy hf=>?_,by simpa using h4,fun j i e=>?_⟩
 · have:=Ds.mp h3 y hy
   rw[hf]at this;have c:((sc.names.filter (·.2==.cell)).map (·.1)).contains y.1=true:=by simpa using this
   rw[he];exact fX _ _ _ (by simpa using c)
 · have hm:(i,j)∈fs.zipIdx:=by
    rw[Er];exact e
   have:=Ds.mp h5 (i,j) hm
   dsimp only at this
   cases e1:N[k+j]? with
   | none=>rw[e1]at this;cases this
   | some x =>
    cases e2:XN[i]? with
    | none=>rw[e1,e2]at this;cases this
    | some y =>
     rw[e1,e2]at this;simp only[Bm]at this;obtain⟨⟨q1,q2⟩,q3⟩:=this;have q1':x=y:=of_decide_eq_true q1;subst q1';refine⟨x,rfl,by rw[hN];exact e2,by simpa using q2,.inl ?_⟩
     show X.env.scope.names.lookup x=some .cell
     rw[hs];simpa using q3
theorem aD.upd_new {H:Hp}{a:Addr}{o:HO}(h:H a=none):aD H (upd H a o):=fun b u e=>by rw[aR (bJ e h)];exact e
theorem aD.none {H H':Hp}(e:aD H H'){l:Addr}(h:H' l=Fs):H l=Fs:=e.free h
end L2
namespace Mir
open PySem
inductive XC where
 | NotAlike | BadCount | BadRows | BadRow | OtherSpace | BadSize | BadPlaces | ZeroSum | NoBox | BadTable | NoLine | BadName | NoRow | NoName
 deriving DecidableEq
def XC.nm:XC->Str
 | .NotAlike=>"NotAlike" | .BadCount=>"BadCount" | .BadRows=>"BadRows" | .BadRow=>"BadRow" | .OtherSpace=>"OtherSpace" | .BadSize=>"BadSize" | .BadPlaces=>"BadPlaces"
 | .ZeroSum=>"ZeroSum" | .NoBox=>"NoBox" | .BadTable=>"BadTable" | .NoLine=>"NoLine" | .BadName=>"BadName" | .NoRow=>"NoRow" | .NoName=>"NoName"
inductive D where
 | non | bl (b:Bool) | int (i:Int) | str (x:Str)
 | lst (ds:List D) | tup (ds:List D)
 | obj (c:Nat) (ds:List D)
 | dct (ks:List (List Int)) (ds:List D)
 | any
 | exc (c:XC) (ds:List D)
mutual
/-- no list within -/
def D.imm:D->Bool
 | .lst _=>false
 | .obj _ _=>false
 | .dct _ _=>false
 | .any=>false
 | .tup ds=>D.imms ds
 | .exc _ ds=>D.imms ds
 | _=>true
def D.imms:List D->Bool
 | []=>true
 | d :: r=>d.imm&&D.imms r
end
def D.con:D->Bool
 | .lst _=>true
 | .dct _ _=>true
 | _=>false
inductive Kd where
 | shr | own | tmp | old
 deriving DecidableEq
@[simp] def Kd.rd:Kd->Kd
 | .old=>.shr
 | k=>k
structure Res where
 k:Kd
 fr:Bool
 d:D
abbrev Env:=List (Option Res)
structure Xc where
 c:XC
 ds:List D
inductive R (α:Type) where
 | ok (a:α) | exc (x:Xc) | stk
@[simp] def R.bind {α β:Type}:R α->(α->R β)->R β
 | .ok a,f=>f a
 | .exc x,_=>.exc x
 | .stk,_=>.stk
instance:Monad R where
 pure:=.ok
 bind:=R.bind
@[simp] theorem R.ok_bind {α β:Type} (a:α) (f:α->R β):(R.ok a >>= f)=f a:=rfl
@[simp] theorem R.pure_bind' {α β:Type} (a:α) (f:α->R β):((pure a:R α) >>= f)=f a:=rfl
@[simp] theorem R.exc_bind {α β:Type} (x:Xc) (f:α->R β):(R.exc x >>= f)=.exc x:=rfl
@[simp] theorem R.stk_bind {α β:Type} (f:α->R β):((R.stk:R α) >>= f)=.stk:=rfl
@[simp] theorem R.pure_eq {α:Type} (a:α):(pure a:R α)=.ok a:=rfl
abbrev FE:=Env->R Res
abbrev FT:=Env->R Bool
@[simp] def sc (d:D):Res:=⟨.shr,true,d⟩
def Res.give (r:Res):R Res:=if r.k=.own then .stk else .ok ⟨.shr,r.fr,r.d⟩
def vE (i:Nat):FE:=fun ρ=>match ρ[i]? with
 | some (some e)=>.ok ⟨e.k.rd,e.fr||e.d.imm,e.d⟩
 | _=>.stk
def cE (d:D):FE:=fun _=>.ok (sc d)
def asI:D->R Int
 | .int i=>.ok i
 | _=>.stk
def asB:D->R Bool
 | .bl b=>.ok b
 | _=>.stk
def asL:D->R (List D)
 | .lst ds=>.ok ds
 | _=>.stk
def asS:D->R (List D)
 | .lst ds=>.ok ds
 | .tup ds=>.ok ds
 | _=>.stk
def i2E (C:Int->Int->Bool)(g:Int->Int->Int)(a b:FE):FE:=fun ρ=>do
 let x ← a ρ
 let y ← b ρ
 let i ← asI x.d
 let j ← asI y.d
 if C i j then .ok (sc (.int (g i j))) else .stk
def zL (g:Int->Int->Bool)(a b:FE):FE:=fun ρ=>do
 let x ← a ρ
 let y ← b ρ
 let i ← asI x.d
 let j ← asI y.d
 .ok (sc (.bl (g i j)))
def gN (a:FE):FE:=fun ρ=>do
 let x ← a ρ
 let i ← asI x.d
 .ok (sc (.int (-i)))
def C0:Int->Int->Bool:=fun _ _=>true
def CM:Int->Int->Bool:=fun i j=>decide (i.natAbs.log2<1000000)&&decide (j.natAbs.log2<1000000)
def CD:Int->Int->Bool:=fun _ j=>decide (0<j)&&decide (j.natAbs.log2<9000)
def CP:Int->Int->Bool:=fun _ j=>decide (0<j)
def CW:Int->Int->Bool:=fun i j=>decide (0<=j)&&decide (j<=1000000)&&decide (i.natAbs<2^64)
def eW:=i2E C0 (fun i j=>i+j)
def oW:=i2E C0 (fun i j=>i-j)
def nA:=i2E CM (fun i j=>i*j)
def gI:=i2E CD (fun i j=>i/j)
def dO:=i2E CP (fun i j=>i%j)
def yH:=i2E CW (fun i j=>i^j.toNat)
def ltE:=zL fun i j=>decide (i<j)
def gtE:=zL fun i j=>decide (j<i)
end Mir
namespace Mir
open PySem L2
noncomputable def cut (H:Hp)(B:Addr->Prop):Hp:=fun a=>haveI:=Classical.propDecidable (B a);if B a then none else H a
theorem aJ {H:Hp}{B:Addr->Prop}{a:Addr}{o:HO}:cut H B a=some o↔¬ B a/\H a=some o:=by
 unfold cut;by_cases h:B a
 · simp[h]
 · simp[h]
def stab:HO->Bool
 | .tup _=>true
 | .ext _=>true
 | .frz _ u=>stab u
 | _=>false
def Ban (fr:Bool)(H0:Hp)(B:Addr->Prop):Addr->Prop:=fun a=>B a\/(fr=true/\∃ o,H0 a=some o/\stab o=false)
noncomputable abbrev aW (fr:Bool)(H0 H:Hp)(B:Addr->Prop):Hp:=cut H (Ban fr H0 B)
theorem fG {H:Hp}{B:Addr->Prop}:aD (cut H B) H:=fun b o e=>(aJ.mp e).2
theorem dN {H H':Hp}{B B':Addr->Prop}(s:∀ b o,H b=some o->¬ B b->H' b=some o)(h:∀ b,B' b->B b\/H b=none):aD (cut H B) (cut H' B'):=fun b o e=>by
 obtain⟨n,e⟩:=aJ.mp e;refine aJ.mpr ⟨fun z=>?_,s b o e n⟩
 rcases h b z with h | h
 · exact n h
 · rw[h]at e;cases e
theorem aS {fr:Bool}{H0 H H':Hp}{B B':Addr->Prop}(s:∀ b o,H b=some o->¬ B b->H' b=some o)(h:∀ b,B' b->B b\/H b=none):aD (aW fr H0 H B) (aW fr H0 H' B') :=
 dN (fun b o e n=>s b o e fun z=>n (.inl z)) fun b z=>by
  rcases z with z | z
  · exact(h b z).imp .inl id
  · exact .inl (.inr z)
theorem gT {fr:Bool}{H0 H:Hp}{B:Addr->Prop}:aD (aW fr H0 H B) (aW false H0 H B) :=
 dN (fun _ _ e _=>e) fun b z=>by
  rcases z with z | ⟨z,_⟩
  · exact .inl (.inl z)
  · cases z
theorem aD.rd {H H':Hp}{a:Addr}{u:HO}(e:aD H H')(h:Rd H a u):Rd H' a u:=by
 rcases h with h | ⟨o,h⟩
 · exact .inl (e _ _ h)
 · exact .inr ⟨o,e _ _ h⟩
def clK (K:PySem.W.Frag)(c:XC):Addr:=match Ay K mainGlobals c.nm with
 | some (some (.ref C))=>C
 | _=>0
def dR (a C:Addr)(h:Heap):Prop:=∃ o,h.get? a=some o/\o.cls=.ref C/\Fw o=true
theorem dR.stay {a C:Addr}{h h':Heap}(x:dR a C h)(k:∀ o,h.get? a=some o->h'.get? a=some o):dR a C h' :=
 let ⟨o,e,c⟩:=x
 ⟨o,k o e,c⟩
def vO (a C dx:Addr)(h:Heap):Prop:=∃ o,h.get? a=some o/\o.cls=.ref C/\Fw o=true/\o.dict=some dx
theorem vO.stay {a C dx:Addr}{h h':Heap}(x:vO a C dx h)(k:∀ o,h.get? a=some o->h'.get? a=some o):vO a C dx h' :=
 let ⟨o,e,c⟩:=x
 ⟨o,k o e,c⟩
def cU (a:Addr)(p:Int)(h:Heap):Prop:=∃ mA t,h.Ns1 a mA/\mA "place" = some (.int p t)
theorem cU.stay {a:Addr}{p:Int}{h h':Heap}(x:cU a p h)(k:∀ o,h.get? a=some o->h'.get? a=some o):cU a p h' :=
 let ⟨mA,t,n,e⟩:=x
 ⟨mA,t,n.at k,e⟩
def wG:Nat->Str
 | 0=>"Flat"
 | _=>"Cleared"
def cY:Nat->List Str
 | 0=>["many","rows"]
 | _=>["bottom","heads","lines"]
def clO (K:PySem.W.Frag)(c:Nat):Addr:=match Ay K mainGlobals (wG c) with
 | some (some (.ref C))=>C
 | _=>0
variable {K:PySem.W.Frag}
def uP (K:PySem.W.Frag)(G:Hp)(c:XC)(ds:List D)(v:V):Prop:=∃ a φ,v=.ref a/\G a=some (.ext φ)/\(∀ h,φ h->dR a (clK K c) h)/\match ds with
 | []=>True
 | [.int p]=>∃ dx,φ=vO a (clK K c) dx/\G dx=some (.ext (cU dx p))
 | _=>False
theorem uP.map {G G':Hp}{c:XC}{ds:List D}{v:V}(h:uP K G c ds v)(f:∀ b φ,G b=some (.ext φ)->G' b=some (.ext φ)):uP K G' c ds v:=by
 obtain⟨a,φ,h1,h2,h3,h4⟩:=h;refine⟨a,φ,h1,f _ _ h2,h3,?_⟩
 split at h4
 · trivial
 · obtain⟨dx,h5,h6⟩:=h4
   exact⟨dx,h5,f _ _ h6⟩
 · exact h4.elim
def kQ (ks:List (List Int))(kvs:List (List Key×V)):Prop:=kvs.map (·.1)=ks.map (·.map Sum.inl)
mutual
def Rep (K:PySem.W.Frag)(G:Hp):D->V->Prop
 | .non,v=>v=.non
 | .bl b,v=>v=.bl b
 | .int i,v=>v=.int i
 | .str x,v=>v=.str x
 | .lst ds,v=>∃ a xs,v=.ref a/\Rd G a (.lst xs)/\aL K G ds xs
 | .tup ds,v=>∃ a xs,v=.ref a/\G a=some (.tup xs)/\aL K G ds xs
 | .obj c ds,v=>∃ a dx fs,v=.ref a/\G a=some (.ins (clO K c) dx fs)/\fs.map (·.1)=cY c/\aL K G ds (fs.map (·.2))
 | .any,_=>True
 | .dct ks ds,v=>∃ a kvs,v=.ref a/\Rd G a (.dT kvs)/\kQ ks kvs/\aL K G ds (kvs.map (·.2))
 | .exc c ds,v=>uP K G c ds v
def aL (K:PySem.W.Frag)(G:Hp):List D->List V->Prop
 | [],xs=>xs=[]
 | d :: r,xs=>∃ x xr,xs=x :: xr/\Rep K G d x/\aL K G r xr
end
mutual
theorem Rep.same {G G':Hp}(e:aD G G'):∀ {d:D} {v:V},Rep K G d v->Rep K G' d v
 | .non,_,h=>h
 | .bl _,_,h=>h
 | .int _,_,h=>h
 | .str _,_,h=>h
 | .lst _,_,⟨a,xs,h1,h2,h3⟩=>⟨a,xs,h1,aD.rd e h2,aL.same e h3⟩
 | .tup _,_,⟨a,xs,h1,h2,h3⟩=>⟨a,xs,h1,e _ _ h2,aL.same e h3⟩
 | .obj _ _,_,⟨a,dx,fs,h1,h2,h3,h4⟩=>⟨a,dx,fs,h1,e _ _ h2,h3,aL.same e h4⟩
 | .any,_,h=>h
 | .dct _ _,_,⟨a,xs,h1,h2,h3,h4⟩=>⟨a,xs,h1,aD.rd e h2,h3,aL.same e h4⟩
 | .exc _ _,_,h=>uP.map h fun _ _ q=>e _ _ q
theorem aL.same {G G':Hp}(e:aD G G'):∀ {ds:List D} {vs:List V},aL K G ds vs->aL K G' ds vs
 | [],_,h=>h
 | _ :: _,_,⟨x,xr,h1,h2,h3⟩=>⟨x,xr,h1,Rep.same e h2,aL.same e h3⟩
end
theorem aL.length {G:Hp}:∀ {ds:List D} {vs:List V},aL K G ds vs->ds.length=vs.length
 | [],vs,h=>by have e:vs=[]:=h;rw[e];rfl
 | _ :: _,_,⟨x,xr,h1,_,h3⟩=>by rw[h1];simp[aL.length h3]
theorem aL.get {G:Hp}:∀ {ds:List D} {vs:List V} {i:Nat} {d:D},aL K G ds vs->ds[i]?=some d->∃ v,vs[i]?=some v/\Rep K G d v
 | [],_,_,_,_,e=>by simp at e
 | _ :: _,_,0,_,⟨x,xr,h1,h2,_⟩,e=>by simp at e;subst e;exact⟨x,by rw[h1];rfl,h2⟩
 | _ :: _,_,i+1,d,⟨x,xr,h1,_,h3⟩,e=>by
  obtain⟨v,a,b⟩:=aL.get (i:=i) (d:=d) h3 (by simpa using e)
  exact⟨v,by rw[h1];simpa using a,b⟩
theorem aL.append {G:Hp}:∀ {ds es:List D} {vs ws:List V},aL K G ds vs->aL K G es ws->aL K G (ds++es) (vs++ws)
 | [],_,_,_,h,q=>by rw[show _=[] from h];exact q
 | _ :: _,_,_,_,⟨x,xr,h1,h2,h3⟩,q=>by subst h1;exact⟨x,_,rfl,h2,aL.append h3 q⟩
theorem aL.take {G:Hp}:∀ {ds:List D} {vs:List V} (n:Nat),aL K G ds vs->aL K G (ds.take n) (vs.take n)
 | _,_,0,_=>by simp only[List.take_zero];rfl
 | [],_,_+1,h=>by rw[show _=[] from h];rfl
 | _ :: _,_,n+1,⟨x,xr,h1,h2,h3⟩=>by subst h1;exact⟨x,_,rfl,h2,aL.take n h3⟩
theorem aL.drop {G:Hp}:∀ {ds:List D} {vs:List V} (n:Nat),aL K G ds vs->aL K G (ds.drop n) (vs.drop n)
 | _,_,0,h=>h
 | [],_,_+1,h=>by rw[show _=[] from h];rfl
 | _ :: _,_,n+1,⟨x,xr,h1,_,h3⟩=>by subst h1;exact aL.drop n h3
theorem aL.set {G:Hp}{d:D}{v:V}(r:Rep K G d v):∀ {ds:List D} {vs:List V} (i:Nat),aL K G ds vs->aL K G (ds.set i d) (vs.set i v)
 | [],_,_,h=>by rw[show _=[] from h];rfl
 | _ :: _,_,0,⟨x,xr,h1,_,h3⟩=>by subst h1;exact⟨v,xr,rfl,r,h3⟩
 | _ :: _,_,i+1,⟨x,xr,h1,h2,h3⟩=>by subst h1;exact⟨x,_,rfl,h2,aL.set r i h3⟩
theorem aL.one {G:Hp}{d:D}{v:V}(r:Rep K G d v):aL K G [d] [v]:=⟨v,[],rfl,r,rfl⟩
theorem qB {H0 H:Hp}{B:Addr->Prop}{a:Addr}{o:HO}(s:aD H0 H)(st:stab o=true)(e:aW false H0 H B a=some o):aW true H0 H B a=some o:=by
 obtain⟨n,e⟩:=aJ.mp e;refine aJ.mpr ⟨fun z=>?_,e⟩
 rcases z with z | ⟨_,o',q1,q2⟩
 · exact n (.inl z)
 · rw[s a o' q1]at e;cases e;rw[st]at q2;cases q2
mutual
theorem Rep.imm {H0 H:Hp}{B:Addr->Prop}(s:aD H0 H):∀ {d:D} {v:V},d.imm=true->Rep K (aW false H0 H B) d v->Rep K (aW true H0 H B) d v
 | .non,_,_,h=>h
 | .bl _,_,_,h=>h
 | .int _,_,_,h=>h
 | .str _,_,_,h=>h
 | .lst _,_,i,_=>by cases i
 | .tup ds,_,i,⟨a,xs,h1,h2,h3⟩=>by
  refine⟨a,xs,h1,?_,aL.imm s (by simpa[D.imm] using i) h3⟩
  exact qB s rfl h2
 | .obj _ _,_,i,_=>by cases i
 | .any,_,i,_=>by cases i
 | .dct _ _,_,i,_=>by cases i
 | .exc _ _,_,_,h=>uP.map h fun _ _ q=>qB s rfl q
theorem aL.imm {H0 H:Hp}{B:Addr->Prop}(s:aD H0 H):∀ {ds:List D} {vs:List V},D.imms ds=true->aL K (aW false H0 H B) ds vs->aL K (aW true H0 H B) ds vs
 | [],_,_,h=>h
 | d :: r,_,i,⟨x,xr,h1,h2,h3⟩=>by
  have i':d.imm=true/\D.imms r=true:=by simpa[D.imms] using i
  exact⟨x,xr,h1,Rep.imm s i'.1 h2,aL.imm s i'.2 h3⟩
end
theorem Rep.fr {H0 H:Hp}{B:Addr->Prop}{fr:Bool}{d:D}{v:V}(s:aD H0 H)(h:Rep K (aW fr H0 H B) d v):Rep K (aW (fr||d.imm) H0 H B) d v:=by
 cases fr with
 | true=>exact h
 | false =>
  cases e:d.imm with
  | false=>exact h
  | true=>exact Rep.imm s e h
def gW (K:PySem.W.Frag)(G:Hp)(d:D)(o:HO):Prop:=match d with
 | .lst ds=>∃ vs,o=.lst vs/\aL K G ds vs
 | .dct ks ds=>∃ kvs,o=.dT kvs/\kQ ks kvs/\aL K G ds (kvs.map (·.2))
 | _=>False
theorem gW.same {G G':Hp}(e:aD G G'){d:D}{o:HO}(h:gW K G d o):gW K G' d o:=by
 cases d with
 | lst ds=>obtain⟨vs,h1,h2⟩:=h;exact⟨vs,h1,aL.same e h2⟩
 | dct ks ds=>obtain⟨kvs,h1,h2,h3⟩:=h;exact⟨kvs,h1,h2,aL.same e h3⟩
 | _=>exact h.elim
theorem gW.con {G:Hp}{d:D}{o:HO}(h:gW K G d o):d.con=true:=by
 cases d with
 | lst ds=>rfl
 | dct ks ds=>rfl
 | _=>exact h.elim
theorem gW.imm {G:Hp}{d:D}{o:HO}(h:gW K G d o):d.imm=false:=by
 cases d with
 | lst ds=>rfl
 | dct ks ds=>rfl
 | _=>exact h.elim
theorem gW.stab {G:Hp}{d:D}{o:HO}(h:gW K G d o):stab o=false:=by
 cases d with
 | lst ds=>obtain⟨vs,h1,h2⟩:=h;subst h1;rfl
 | dct ks ds=>obtain⟨kvs,h1,h2,h3⟩:=h;subst h1;rfl
 | _=>exact h.elim
theorem gW.lst {G:Hp}{ds:List D}{vs:List V}(h:aL K G ds vs):gW K G (.lst ds) (.lst vs):=⟨vs,rfl,h⟩
theorem gW.rep {G G':Hp}{a:Addr}{d:D}{o:HO}(h:gW K G d o)(e:aD G G')(q:G' a=some o):Rep K G' d (.ref a):=by
 cases d with
 | lst ds=>obtain⟨vs,h1,h2⟩:=h;subst h1;exact⟨a,vs,rfl,Rd.of q,aL.same e h2⟩
 | dct ks ds=>obtain⟨kvs,h1,h2,h3⟩:=h;subst h1;exact⟨a,kvs,rfl,Rd.of q,h2,aL.same e h3⟩
 | _=>exact h.elim
def jT (K:PySem.W.Frag)(H0 H:Hp)(B:Addr->Prop)(v:V)(e:Res):Prop :=
 match e.k with
 | .shr=>Rep K (aW e.fr H0 H B) e.d v
 | .own=>∃ a o,v=.ref a/\B a/\H0 a=none/\H a=some o/\gW K (aW e.fr H0 H B) e.d o
 | .tmp=>False
 | .old=>e.fr=false/\Rep K (cut H0 B) e.d v
structure DenE (K:PySem.W.Frag)(H0 H:Hp)(B:Addr->Prop)(σ:St)(ρ:Env):Prop where
 len:ρ.length=σ.length
 sam:aD H0 H
 bnd:∀ b,B b->∃ o,H b=some o/\stab o=false
 ent:∀ (i:Nat) (e:Res),ρ[i]?=some (some e)->∃ v,σ[i]?=some (some v)/\jT K H0 H B v e
def aI (K:PySem.W.Frag)(H0 H H':Hp)(B:Addr->Prop)(v:V)(r:Res):Prop :=
 match r.k with
 | .shr=>Rep K (aW r.fr H0 H' B) r.d v
 | .own=>∃ a o,v=.ref a/\B a/\H0 a=none/\H' a=some o/\gW K (aW r.fr H0 H' B) r.d o
 | .tmp=>∃ a o,v=.ref a/\H a=none/\H' a=some o/\gW K (aW r.fr H0 H' fun b=>B b\/b=a) r.d o
 | .old=>False
section
variable {H0 H H' H'':Hp}{B B':Addr->Prop}{v:V}{r e:Res}{σ:St}{ρ:Env}
theorem jT.mono (g:jT K H0 H B v e)(s:aD H H'):jT K H0 H' B v e:=by
 unfold jT at g ⊢;have m:∀ fr,aD (aW fr H0 H B) (aW fr H0 H' B):=fun fr=>aS (fun b o e _=>s b o e) fun b z=>.inl z;cases k:e.k with
 | shr=>rw[k]at g;exact Rep.same (m _) g
 | own=>rw[k]at g;obtain⟨a,o,h1,h2,h3,h4,h5⟩:=g;exact⟨a,o,h1,h2,h3,s _ _ h4,h5.same (m _)⟩
 | tmp=>rw[k]at g;exact g
 | old=>rw[k]at g;exact g
theorem DenE.mono (d:DenE K H0 H B σ ρ)(s:aD H H'):DenE K H0 H' B σ ρ :=
 ⟨d.len,d.sam.trans s,fun b h=>let ⟨o,e,n⟩:=d.bnd b h;⟨o,s _ _ e,n⟩,fun i e h=>let ⟨v,a,g⟩:=d.ent i e h;⟨v,a,g.mono s⟩⟩
theorem aI.mono (g:aI K H0 H H' B v r)(s:aD H' H''):aI K H0 H H'' B v r:=by
 unfold aI at g ⊢;have m:∀ fr (B:Addr->Prop),aD (aW fr H0 H' B) (aW fr H0 H'' B):=fun fr B=>aS (fun b o e _=>s b o e) fun b z=>.inl z;cases k:r.k with
 | shr=>rw[k]at g;exact Rep.same (m _ _) g
 | own=>rw[k]at g;obtain⟨a,o,h1,h2,h3,h4,h5⟩:=g;exact⟨a,o,h1,h2,h3,s _ _ h4,h5.same (m _ _)⟩
 | tmp=>rw[k]at g;obtain⟨a,o,h1,h2,h3,h4⟩:=g;exact⟨a,o,h1,h2,s _ _ h3,h4.same (m _ _)⟩
 | old=>rw[k]at g;exact g
theorem aI.sc {d:D}(h:Rep K (aW true H0 H' B) d v):aI K H0 H H' B v (sc d):=h
theorem aI.con (g:aI K H0 H H' B v r)(e:r.k≠.shr):∃ a o,v=.ref a/\H' a=some o/\gW K (aW r.fr H0 H' B) r.d o:=by
 unfold aI at g;cases k:r.k with
 | shr=>exact absurd k e
 | own=>rw[k]at g;obtain⟨a,o,h1,_,_,h4,h5⟩:=g;exact⟨a,o,h1,h4,h5⟩
 | tmp=>rw[k]at g;obtain⟨a,o,h1,_,h3,h4⟩:=g;exact⟨a,o,h1,h3,h4.same (aS (fun b o e _=>e) fun b z=>.inl (.inl z))⟩
 | old=>rw[k]at g;exact g.elim
theorem aI.list {ds:List D}(g:aI K H0 H H' B v r)(e:r.d=.lst ds):∃ a xs,v=.ref a/\Rd H' a (.lst xs)/\aL K (aW r.fr H0 H' B) ds xs:=by
 by_cases k:r.k=.shr
 · unfold aI at g
   rw[k,e]at g;obtain⟨a,xs,h1,h2,h3⟩:=g;exact⟨a,xs,h1,aD.rd fG h2,h3⟩
 · obtain⟨a,o,h1,h2,h3⟩:=g.con k
   rw[e]at h3;obtain⟨vs,h4,h5⟩:=h3;subst h4;exact⟨a,vs,h1,Rd.of h2,h5⟩
theorem aI.dict {ks:List (List Int)}{ds:List D}(g:aI K H0 H H' B v r)(e:r.d=.dct ks ds):∃ a kvs,v=.ref a/\Rd H' a (.dT kvs)/\kQ ks kvs/\aL K (aW r.fr H0 H' B) ds (kvs.map (·.2)):=by
 by_cases k:r.k=.shr
 · unfold aI at g
   rw[k,e]at g;obtain⟨a,xs,h1,h2,h3,h4⟩:=g;exact⟨a,xs,h1,aD.rd fG h2,h3,h4⟩
 · obtain⟨a,o,h1,h2,h3⟩:=g.con k
   rw[e]at h3;obtain⟨kvs,h4,h5,h6⟩:=h3;subst h4;exact⟨a,kvs,h1,Rd.of h2,h5,h6⟩
theorem aI.shr_of (g:aI K H0 H H' B v r)(h:r.d.con=false):Rep K (aW r.fr H0 H' B) r.d v:=by
 by_cases k:r.k=.shr
 · unfold aI at g
   rw[k]at g;exact g
 · obtain⟨a,o,h1,h2,h3⟩:=g.con k
   rw[h3.con]at h;cases h
theorem aI.int {i:Int}(g:aI K H0 H H' B v r)(e:r.d=.int i):v=.int i:=by
 have:=g.shr_of (by rw[e];rfl)
 rw[e]at this;exact this
theorem aI.bl {b:Bool}(g:aI K H0 H H' B v r)(e:r.d=.bl b):v=.bl b:=by
 have:=g.shr_of (by rw[e];rfl)
 rw[e]at this;exact this
theorem aI.tuple {ds:List D}(g:aI K H0 H H' B v r)(e:r.d=.tup ds):∃ a xs,v=.ref a/\H' a=some (.tup xs)/\aL K (aW r.fr H0 H' B) ds xs:=by
 have:=g.shr_of (by rw[e];rfl)
 rw[e]at this;obtain⟨a,xs,h1,h2,h3⟩:=this;exact⟨a,xs,h1,fG _ _ h2,h3⟩
theorem aI.give {r':Res}(den:DenE K H0 H B σ ρ)(g:aI K H0 H H' B v r)(e:r.give=.ok r'):r'=⟨.shr,r.fr,r.d⟩/\Rep K (aW r.fr H0 H' B) r.d v:=by
 unfold Res.give at e;unfold aI at g;cases k:r.k with
 | shr=>rw[k]at g e;simp at e;exact⟨e.symm,g⟩
 | own=>rw[k]at e;simp at e
 | old=>rw[k]at g;exact g.elim
 | tmp =>
  rw[k]at g e;simp at e
  obtain⟨a,o,h1,h2,h3,h4⟩:=g;refine⟨e.symm,?_⟩
  subst h1;refine h4.rep (aS (fun b o e _=>e) fun b z=>.inl (.inl z)) (aJ.mpr ⟨fun z=>?_,h3⟩)
  rcases z with z | ⟨_,o,z,_⟩
  · obtain⟨o,q,_⟩:=den.bnd a z;rw[h2]at q;cases q
  · rw[den.sam _ _ z]at h2;cases h2
theorem jT.res (s:aD H0 H)(g:jT K H0 H B v e):aI K H0 H H B v ⟨e.k.rd,e.fr||e.d.imm,e.d⟩:=by
 unfold jT at g;unfold aI;cases k:e.k with
 | shr=>rw[k]at g;exact Rep.fr s g
 | own =>
  rw[k]at g;obtain⟨a,o,h1,h2,h3,h4,h5⟩:=g;refine⟨a,o,h1,h2,h3,h4,?_⟩
  rw[h5.imm,Ej];exact h5
 | tmp=>rw[k]at g;exact g.elim
 | old =>
  rw[k]at g;refine Rep.fr s (Rep.same ?_ g.2)
  rw[g.1];intro b o q;obtain⟨n,q⟩:=aJ.mp q;refine aJ.mpr ⟨fun z=>?_,s b o q⟩
  rcases z with z | ⟨z,_⟩
  · exact n z
  · cases z
end
structure XP where
 p:Xc->St->Hp->Prop
 mono:∀ {x:Xc} {σ:St} {H H':Hp},p x σ H->aD H H'->p x σ H'
def XP0:XP:=⟨fun _ _ _=>False,fun h _=>h⟩
def tE (K:PySem.W.Frag)(P:XP)(f:FE):TE:=fun σ H Q=>∃ H0 B ρ,DenE K H0 H B σ ρ/\match f ρ with
 | .ok r=>∀ v H',aD H H'->aI K H0 H H' B v r->Q v H'
 | .exc x=>P.p x σ H
 | .stk=>False
def tT (K:PySem.W.Frag)(P:XP)(f:FT):TT:=fun σ H Q=>∃ H0 B ρ,DenE K H0 H B σ ρ/\match f ρ with
 | .ok b=>∀ H',aD H H'->Q b H'
 | .exc x=>P.p x σ H
 | .stk=>False
theorem PE.imp {X:Cx}{e:Expr}{t t':TE}(p:PE X e t)(h:∀ σ H Q,t' σ H Q->t σ H Q):PE X e t':=fun pins s σ H Q I q=>p pins s σ H Q I (h σ H Q q)
theorem PT.imp {X:Cx}{e:Expr}{t t':TT}(p:PT X e t)(h:∀ σ H Q,t' σ H Q->t σ H Q):PT X e t':=fun pins s σ H Q I q=>p pins s σ H Q I (h σ H Q q)
theorem fW {X:Cx}{P:XP}{f:FE}{H0 H:Hp}{B:Addr->Prop}{σ:St}{ρ:Env}{Q:VK}{r:Res}(d:DenE X.K H0 H B σ ρ)(e:f ρ=.ok r)
 (h:∀ v H',aD H H'->DenE X.K H0 H' B σ ρ->aI X.K H0 H H' B v r->Q v H'):tE X.K P f σ H Q :=
 ⟨H0,B,ρ,d,by rw[e];exact fun v H' s g=>h v H' s (d.mono s) g⟩
theorem eE {X:Cx}{P:XP}{f:FE}{H0 H:Hp}{B:Addr->Prop}{σ:St}{ρ:Env}{Q:VK}{x:Xc}(d:DenE X.K H0 H B σ ρ)(e:f ρ=.exc x)(h:P.p x σ H):tE X.K P f σ H Q :=
 ⟨H0,B,ρ,d,by rw[e];exact h⟩
end Mir
namespace Mir
open PySem
abbrev FEs:=List FE
def evs:FEs->Env->R (List Res)
 | [],_=>.ok []
 | f :: r,ρ=>do
  let x ← f ρ
  let xs ← evs r ρ
  .ok (x :: xs)
def gives:List Res->R (Bool×List D)
 | []=>.ok (true,[])
 | r :: rs=>do
  let x ← r.give
  let y ← gives rs
  .ok (x.fr&&y.1,x.d :: y.2)
def aX (fs:FEs):FE:=fun ρ=>do
 let rs ← evs fs ρ
 let y ← gives rs
 if y.2.length<=sizeLine then .ok ⟨.tmp,y.1,.lst y.2⟩ else .stk
def yV (fs:FEs):FE:=fun ρ=>do
 let rs ← evs fs ρ
 let y ← gives rs
 if y.2.length<=sizeLine then .ok ⟨.shr,y.1,.tup y.2⟩ else .stk
def dF (a:FE):FE:=fun ρ=>do
 let x ← a ρ
 let ds ← asS x.d
 .ok (sc (.int ds.length))
def bA (a i:FE):FE:=fun ρ=>do
 let x ← a ρ
 let y ← i ρ
 let ds ← asS x.d
 let j ← asI y.d
 match L2.atI ds j with
 | some d=>.ok ⟨.shr,x.fr||d.imm,d⟩
 | none=>.stk
def lJ (a:FE):FE:=fun ρ=>do
 let x ← a ρ
 let ds ← asS x.d
 .ok ⟨.tmp,x.fr,.lst ds⟩
def dX (a b:FE):FE:=fun ρ=>do
 let x ← a ρ
 let y ← b ρ
 let xs ← asL x.d
 let ys ← asL y.d
 if xs.length+ys.length<=sizeLine then .ok ⟨.tmp,x.fr&&y.fr,.lst (xs++ys)⟩ else .stk
def lF (xs:List D)(lo hi:Option Int):List D:=(xs.drop (HT.sIx xs.length 0 lo)).take (HT.sIx xs.length xs.length hi-HT.sIx xs.length 0 lo)
abbrev FO:=Env->R (Option Int)
def noO:FO:=fun _=>.ok none
def soO (a:FE):FO:=fun ρ=>do
 let x ← a ρ
 let i ← asI x.d
 .ok (some i)
def fP (a:FE)(lo hi:FO):FE:=fun ρ=>do
 let x ← a ρ
 let l ← lo ρ
 let h ← hi ρ
 let ds ← asL x.d
 .ok ⟨.tmp,x.fr,.lst (lF ds l h)⟩
mutual
def fS:D->Option PyData
 | .non=>some .none
 | .bl b=>some (.bool b)
 | .int i=>some (.int i)
 | .str x=>some (.str x)
 | .lst ds=>(lZ ds).map .list
 | .tup ds=>(lZ ds).map .tuple
 | _=>none
def lZ:List D->Option (List PyData)
 | []=>some []
 | d :: r=>(fS d).bind fun p=>(lZ r).map (p :: ·)
end
def iD (x y:D):R Bool:=match fS x,fS y with
 | some p,some q=>if SeqAt.shaped p&&SeqAt.shaped q then .ok (PyData.eqv p q) else .stk
 | _,_=>.stk
def eqE (a b:FE):FE:=fun ρ=>do
 let x ← a ρ
 let y ← b ρ
 let t ← iD x.d y.d
 .ok (sc (.bl t))
def neE (a b:FE):FE:=fun ρ=>do
 let x ← a ρ
 let y ← b ρ
 let t ← iD x.d y.d
 .ok (sc (.bl (!t)))
def aK4:D->Bool
 | .non=>true
 | _=>false
def aEp:D->R Bool
 | .any=>.stk
 | d=>.ok (aK4 d)
def aGe (a:FE):FE:=fun ρ=>do
 let x ← a ρ
 let b ← aEp x.d
 .ok (sc (.bl b))
def bT (a:FE):FT:=fun ρ=>do
 let x ← a ρ
 asB x.d
def vS (t:FT):FT:=fun ρ=>do
 let b ← t ρ
 .ok (!b)
def orT (t u:FT):FT:=fun ρ=>do
 let b ← t ρ
 if b then .ok true else u ρ
def ifE (t:FT)(a b:FE):FE:=fun ρ=>do
 let c ← t ρ
 if c then a ρ else b ρ
structure Its where
 st:Bool
 fr:Bool
 ds:List D
abbrev FI:=Env->R Its
def dY (a:FE):FI:=fun ρ=>do
 let x ← a ρ
 let ds ← asL x.d
 .ok ⟨x.k != .own,x.fr,ds⟩
def aMt (a:FE):FI:=fun ρ=>do
 let x ← a ρ
 match x.d with
 | .tup ds=>.ok ⟨true,x.fr,ds⟩
 | _=>.stk
def nY (lo:Int)(n:Nat):List D:=(Bj n).map fun (i:Nat)=>.int (lo+(i:Int))
def dE (a:FE):FI:=fun ρ=>do
 let x ← a ρ
 let j ← asI x.d
 if -(2^62)<=j/\j<2^62 then .ok ⟨true,true,nY 0 j.toNat⟩ else .stk
def nX (a b:FE):FI:=fun ρ=>do
 let x ← a ρ
 let y ← b ρ
 let i ← asI x.d
 let j ← asI y.d
 if -(2^62)<=i/\i<2^62/\-(2^62)<=j/\j<2^62 then .ok ⟨true,true,nY i (j-i).toNat⟩ else .stk
def uD:List D->List D->List D:=List.zipWith fun a b=>.tup [a,b]
def qO (a b:FE):FI:=fun ρ=>do
 let x ← a ρ
 let y ← b ρ
 let xs ← asL x.d
 let ys ← asL y.d
 .ok ⟨x.k != .own&&y.k != .own,x.fr&&y.fr,uD xs ys⟩
inductive Tg where
 | nm (i:Nat) | tp (ts:List Tg)
mutual
def Tg.bind (fr:Bool):Tg->D->Env->R Env
 | .nm i,d,ρ=>.ok (ρ.set i (some ⟨.shr,fr,d⟩))
 | .tp ts,.tup ds,ρ=>Tg.binds fr ts ds ρ
 | .tp _,_,_=>.stk
def Tg.binds (fr:Bool):List Tg->List D->Env->R Env
 | [],[],ρ=>.ok ρ
 | t :: ts,d :: ds,ρ=>do
  let ρ1 ← Tg.bind fr t d ρ
  Tg.binds fr ts ds ρ1
 | _,_,_=>.stk
end
def eG (k:Nat)(fs:List Nat)(ρ:Env):Env:=Ap k none++fs.map fun i=>(ρ[i]?).join
abbrev FB:=Env->R (Option Res)
def bE (f:FE):FB:=fun ρ=>do
 let x ← f ρ
 .ok (some x)
def bIf (t:FT)(f:FE):FB:=fun ρ=>do
 let c ← t ρ
 if c then (do let x ← f ρ;.ok (some x)) else .ok none
def fN (tg:Tg)(b:FB)(fr:Bool)(ρ:Env):List D->R (Bool×List D)
 | []=>.ok (true,[])
 | d :: r=>do
  let ρ1 ← tg.bind fr d ρ
  match b ρ1 with
  | .ok (some x)=>do
   let x' ← x.give
   let y ← fN tg b fr ρ r
   .ok (x'.fr&&y.1,x'.d :: y.2)
  | .ok none=>fN tg b fr ρ r
  | _=>.stk
def bB (it:FI)(k:Nat)(fs:List Nat)(tg:Tg)(b:FB):FE:=fun ρ=>do
 let x ← it ρ
 let y ← fN tg b x.fr (eG k fs ρ) x.ds
 if x.ds.length<=sizeLine then .ok ⟨.tmp,y.1,.lst y.2⟩ else .stk
abbrev Φ:=List D->R Res
def aG (φ:Φ)(fs:FEs):FE:=fun ρ=>do
 let rs ← evs fs ρ
 let r ← φ (rs.map (·.d))
 if r.fr=true then .ok ⟨if r.k=.shr then .shr else .tmp,true,r.d⟩ else do
  let y ← gives rs
  .ok ⟨if r.k=.shr then .shr else .tmp,y.1,r.d⟩
inductive RS where
 | nx (ρ:Env) | rt (r:Res) | bk (ρ:Env) | ct (ρ:Env) | exc (x:Xc) (ρ:Env) | stk
abbrev FS:=Env->RS
def R.at (r:R α)(ρ:Env)(k:α->RS):RS:=match r with
 | .ok a=>k a
 | .exc x=>.exc x ρ
 | .stk=>.stk
def bZ:FS:=.nx
def aP (s t:FS):FS:=fun ρ=>match s ρ with
 | .nx ρ1=>t ρ1
 | r=>r
def Res.keep (r:Res):R Res:=match r.k with
 | .shr=>.ok r
 | .tmp=>.ok ⟨.own,r.fr,r.d⟩
 | .own=>.stk
 | .old=>.stk
def aO (i:Nat)(f:FE):FS:=fun ρ=>(f ρ).at ρ fun r=>(r.keep).at ρ fun e=>.nx (ρ.set i (some e))
def dH (f:FE):FS:=fun ρ=>(f ρ).at ρ fun _=>.nx ρ
def bF (f:FE):FS:=fun ρ=>(f ρ).at ρ fun r=>.rt ⟨if r.k=.shr then .shr else .tmp,r.fr,r.d⟩
def ifS (t:FT)(a b:FS):FS:=fun ρ=>(t ρ).at ρ fun c=>if c then a ρ else b ρ
def frz (i:Nat)(ρ:Env):Env:=match ρ[i]? with
 | some (some e)=>ρ.set i (some ⟨.shr,e.fr,e.d⟩)
 | _=>ρ
def fO (i:Nat)(s:FS):FS:=fun ρ=>s (frz i ρ)
def oK (i:Nat)(ρ:Env):R (Bool×List D):=match ρ[i]? with
 | some (some ⟨.own,fr,.lst ds⟩)=>.ok (fr,ds)
 | _=>.stk
def mW (i:Nat)(f:FE):FS:=fun ρ=>(oK i ρ).at ρ fun y=>(f ρ).at ρ fun r=>(r.give).at ρ fun x =>
 if y.2.length<sizeLine then .nx (ρ.set i (some ⟨.own,y.1&&x.fr,.lst (y.2++[x.d])⟩)) else .stk
def mC (i:Nat)(j f:FE):FS:=fun ρ=>(f ρ).at ρ fun r=>(r.give).at ρ fun x=>(oK i ρ).at ρ fun y=>(j ρ).at ρ fun jr=>(asI jr.d).at ρ fun k =>
 match L2.ixN y.2.length k with
 | some n=>.nx (ρ.set i (some ⟨.own,y.1&&x.fr,.lst (y.2.set n x.d)⟩))
 | none=>.stk
def eS (tg:Tg)(b:FS)(fr:Bool):List D->FS
 | [],ρ=>.nx ρ
 | d :: r,ρ=>(tg.bind fr d ρ).at ρ fun ρ1=>match b ρ1 with
  | .nx ρ2=>eS tg b fr r ρ2
  | .ct ρ2=>eS tg b fr r ρ2
  | .bk ρ2=>.nx ρ2
  | o=>o
def gL (it:FI)(tg:Tg)(b:FS):FS:=fun ρ=>(it ρ).at ρ fun x=>if x.st then eS tg b x.fr x.ds ρ else .stk
def mB (t:FT)(b:FS):Nat->FS
 | 0,_=>.stk
 | n+1,ρ=>(t ρ).at ρ fun c=>if c then (match b ρ with
  | .nx ρ2=>mB t b n ρ2
  | .ct ρ2=>mB t b n ρ2
  | .bk ρ2=>.nx ρ2
  | o=>o) else .nx ρ
def aA1 (t:FT)(b:FS):FS:=fun ρ=>mB t b (2^64) ρ
def stE (n:Nat)(ds:List D):Env:=ds.map (fun d=>some ⟨.shr,false,d⟩)++Ap (n-ds.length) none
def bY (np n:Nat)(s:FS):Φ:=fun ds=>if ds.length=np then (match s (stE n ds) with
 | .nx _=>.ok (sc .non)
 | .rt r=>.ok ⟨r.k,r.fr||r.d.imm,r.d⟩
 | .exc x _=>.exc x
 | _=>.stk) else .stk
end Mir
namespace Mir
open PySem L2
variable {X:Cx}{P:XP}{a b c:Expr}{f g:FE}{pos:Pos}
theorem aMo {i:Nat}{x:Str}(hN:X.N[i]?=some x)(hv:Vis X.env.scope x)(hd:(x==("__debug__":Str))=false:=by decide)(hcd:(x==("__classdict__":Str))=false:=by decide):PE X (.Name x pos) (tE X.K P (vE i)):=by
 refine PE.imp (lL hN hv hd hcd) ?_
 rintro σ H Q ⟨H0,B,ρ,d,h⟩
 unfold vE at h;cases e:ρ[i]? with
 | none=>rw[e]at h;exact h.elim
 | some o =>
  cases o with
  | none=>rw[e]at h;exact h.elim
  | some r =>
   rw[e]at h;obtain⟨v,hv,gd⟩:=d.ent i r e;exact⟨v,hv,h v H (aD.refl H) (gd.res d.sam)⟩
theorem m_v (i:Nat){x:Str}(hN:X.N[i]?=some x:=by rfl)(hv:Vis X.env.scope x:=by first | exact Or.inl rfl | exact Or.inr (Or.inl rfl) | exact Or.inr (Or.inr rfl))(hd:(x==("__debug__":Str))=false:=by decide)
 (hcd:(x==("__classdict__":Str))=false:=by decide):PE X (.Name x pos) (tE X.K P (vE i)):=aMo hN hv hd hcd
theorem m_c {d:D}{v:V}{e:Expr}(h:PE X e (tC v))(r:∀ G,Rep X.K G d v):PE X e (tE X.K P (cE d)):=by
 refine PE.imp h ?_
 rintro σ H Q ⟨H0,B,ρ,den,h⟩
 exact h v H (aD.refl H) (r _)
theorem aT {i:Int}{j pos}:PE X (.Constant (.int i) j pos) (tE X.K P (cE (.int i))):=m_c aGh fun _=>rfl
theorem yO {b:Bool}{j pos}:PE X (.Constant (.bool b) j pos) (tE X.K P (cE (.bl b))):=m_c aJc fun _=>rfl
theorem wH {j pos}:PE X (.Constant .none j pos) (tE X.K P (cE .non)):=m_c aG8 fun _=>rfl
theorem dP {x:Str}{j pos}:PE X (.Constant (.str x) j pos) (tE X.K P (cE (.str x))):=m_c aH4 fun _=>rfl
theorem dA {d:D}{i:Int}(h:asI d=.ok i):d=.int i:=by cases d<;>simp[asI]at h;rw[h]
theorem cM {d:D}{x:Xc}(h:asI d=.exc x):False:=by cases d<;>simp[asI]at h
theorem aGm {d:D}{i:Bool}(h:asB d=.ok i):d=.bl i:=by cases d<;>simp[asB]at h;rw[h]
theorem aC0 {d:D}{x:Xc}(h:asB d=.exc x):False:=by cases d<;>simp[asB]at h
theorem cW {d:D}{i:List D}(h:asL d=.ok i):d=.lst i:=by cases d<;>simp[asL]at h;rw[h]
theorem eB {d:D}{x:Xc}(h:asL d=.exc x):False:=by cases d<;>simp[asL]at h
theorem aAw {d:D}{i:List D}(h:asS d=.ok i):d=.lst i\/d=.tup i:=by cases d<;>simp[asS]at h<;>simp[h]
theorem mH {d:D}{x:Xc}(h:asS d=.exc x):False:=by cases d<;>simp[asS]at h
theorem t1 {k:Res->R Res}{σ:St}{H:Hp}{Q:VK}{q:VK}(h:tE X.K P (fun ρ=>f ρ >>= k) σ H Q)
 (hk:∀ H0 B ρ v H' r,DenE X.K H0 H' B σ ρ->aI X.K H0 H H' B v r->aD H H'->(match k r with
  | .ok r1=>∀ v1 H1,aD H' H1->aI X.K H0 H H1 B v1 r1->Q v1 H1
  | .exc x=>P.p x σ H'
  | .stk=>False)->q v H'):tE X.K P f σ H q:=by
 obtain⟨H0,B,ρ,d,h⟩:=h;cases e:f ρ with
 | stk=>simp[e]at h
 | exc x=>simp[e]at h;exact eE d e h
 | ok r =>
  simp[e]at h
  refine fW d e fun v H' s d' gd=>hk H0 B ρ v H' r d' gd s ?_
  cases e2:k r with
  | stk=>rw[e2]at h;exact h
  | exc x=>rw[e2]at h;exact P.mono h s
  | ok r1=>rw[e2]at h;exact fun v1 H1 s1 g1=>h v1 H1 (s.trans s1) g1
theorem t2 {k:Res->Res->R Res}{σ:St}{H:Hp}{Q:VK}{q:V->V->Hp->Prop}(h:tE X.K P (fun ρ=>f ρ >>= fun x=>g ρ >>= fun y=>k x y) σ H Q)
 (hk:∀ H0 B ρ v w H' r r',DenE X.K H0 H' B σ ρ->aI X.K H0 H H' B v r->aI X.K H0 H H' B w r'->aD H H'->(match k r r' with
  | .ok r1=>∀ v1 H1,aD H' H1->aI X.K H0 H H1 B v1 r1->Q v1 H1
  | .exc x=>P.p x σ H'
  | .stk=>False)->q v w H'):tE X.K P f σ H fun v H1=>tE X.K P g σ H1 fun w H2=>q v w H2:=by
 obtain⟨H0,B,ρ,d,h⟩:=h;cases e:f ρ with
 | stk=>simp[e]at h
 | exc x=>simp[e]at h;exact eE d e h
 | ok r =>
  simp[e]at h
  refine fW d e fun v H1 s1 d1 g1=>?_
  cases e2:g ρ with
  | stk=>simp[e2]at h
  | exc x=>simp[e2]at h;exact eE d1 e2 (P.mono h s1)
  | ok r' =>
   simp[e2]at h
   refine fW d1 e2 fun w H2 s2 d2 g2=>hk H0 B ρ v w H2 r r' d2 (g1.mono s2) ?_ (s1.trans s2) ?_
   · unfold aI at g2 ⊢
     cases k:r'.k with
     | shr=>rw[k]at g2;exact g2
     | own=>rw[k]at g2;exact g2
     | tmp=>rw[k]at g2;obtain⟨a,o,h1,h2,h3⟩:=g2;exact⟨a,o,h1,s1.none h2,h3⟩
     | old=>rw[k]at g2;exact g2
   · cases e3:k r r' with
     | stk=>rw[e3]at h;exact h
     | exc x=>rw[e3]at h;exact P.mono h (s1.trans s2)
     | ok r1=>rw[e3]at h;exact fun v1 H3 s3 g3=>h v1 H3 ((s1.trans s2).trans s3) g3
theorem vP {op:Operator}{C:Int->Int->Bool}{C':Int->Int->Prop}{G:Int->Int->Int}(ho:OpR X (binaryOp op) (rI C' fun i j=>.int (G i j)))(hC:∀ i j,C i j=true->C' i j)(ha:PE X a (tE X.K P f))(hb:PE X b (tE X.K P g)) :
 PE X (.BinOp a op b pos) (tE X.K P (i2E C G f g)):=by
 refine PE.imp (aCa ho ha hb) ?_
 intro σ H Q h;refine t2 (q:=fun x y H2=>rI C' (fun i j=>.int (G i j)) x y H2 Q) h ?_
 intro H0 B ρ v w H' r r' d g1 g2 s h;cases e1:asI r.d with
 | stk=>simp[e1]at h
 | exc x=>exact(cM e1).elim
 | ok i =>
  cases e2:asI r'.d with
  | stk=>simp[e1,e2]at h
  | exc x=>exact(cM e2).elim
  | ok j =>
   simp only[e1,e2,R.ok_bind]at h;by_cases hc:C i j=true
   · rw[if_pos hc]at h
     exact⟨i,j,g1.int (dA e1),g2.int (dA e2),hC i j hc,h _ H' (aD.refl _) (aI.sc (show Rep _ _ (.int (G i j)) _ from rfl))⟩
   · rw[if_neg hc]at h;exact h.elim
theorem aFl {G:Int->Int->Int}{F:Value->Value->Sem Value}(h:OpR X F (rI0 fun i j=>.int (G i j))):OpR X F (rI (fun _ _=>True) fun i j=>.int (G i j)) :=
 fun pins s σ H x y v u Q I rx ry ⟨i,j,e1,e2,_,q⟩=>h pins s σ H x y v u Q I rx ry ⟨i,j,e1,e2,q⟩
theorem nU (ha:PE X a (tE X.K P f))(hb:PE X b (tE X.K P g)):PE X (.BinOp a .Add b pos) (tE X.K P (eW f g)):=vP (aFl aGz) (fun _ _ _=>trivial) ha hb
theorem wJ (ha:PE X a (tE X.K P f))(hb:PE X b (tE X.K P g)):PE X (.BinOp a .Sub b pos) (tE X.K P (oW f g)):=vP (aFl aGf) (fun _ _ _=>trivial) ha hb
theorem wQ (ha:PE X a (tE X.K P f))(hb:PE X b (tE X.K P g)):PE X (.BinOp a .Mult b pos) (tE X.K P (nA f g)):=vP aEs (fun i j h=>by
 unfold CM at h;simp at h;exact h) ha hb
theorem uB (ha:PE X a (tE X.K P f))(hb:PE X b (tE X.K P g)):PE X (.BinOp a .FloorDiv b pos) (tE X.K P (gI f g)):=vP zQ (fun i j h=>by
 unfold CD at h;simp at h;exact h) ha hb
theorem iF (ha:PE X a (tE X.K P f))(hb:PE X b (tE X.K P g)):PE X (.BinOp a .Mod b pos) (tE X.K P (dO f g)):=vP aGp (fun i j h=>by
 unfold CP at h;simp at h;exact h) ha hb
theorem aFk (ha:PE X a (tE X.K P f))(hb:PE X b (tE X.K P g)):PE X (.BinOp a .Pow b pos) (tE X.K P (yH f g)):=vP aHt (fun i j h=>by
 unfold CW at h;simp at h;exact⟨h.1.1,h.1.2,h.2⟩) ha hb
theorem sR (ha:PE X a (tE X.K P f)):PE X (.UnaryOp .USub a pos) (tE X.K P (gN f)):=by
 refine PE.imp (aI0 aH0 ha) ?_
 intro σ H Q h;refine t1 (q:=fun x H2=>rU (fun i=>.int (-i)) x H2 Q) h ?_
 intro H0 B ρ v H' r d g1 s h;cases e1:asI r.d with
 | stk=>simp[e1]at h
 | exc x=>exact(cM e1).elim
 | ok i =>
  simp only[e1,R.ok_bind]at h;exact⟨i,g1.int (dA e1),h _ H' (aD.refl _) (aI.sc (show Rep _ _ (.int (-i)) _ from rfl))⟩
theorem aF2 {G:Int->Int->Bool}(σ:St)(H:Hp)(Q:VK)(h:tE X.K P (zL G f g) σ H Q):tOp (rI0 fun i j=>.bl (G i j)) (tE X.K P f) (tE X.K P g) σ H Q:=by
 refine t2 (q:=fun x y H2=>rI0 (fun i j=>.bl (G i j)) x y H2 Q) h ?_
 intro H0 B ρ v w H' r r' d g1 g2 s h;cases e1:asI r.d with
 | stk=>simp[e1]at h
 | exc x=>exact(cM e1).elim
 | ok i =>
  cases e2:asI r'.d with
  | stk=>simp[e1,e2]at h
  | exc x=>exact(cM e2).elim
  | ok j =>
   simp only[e1,e2,R.ok_bind]at h;exact⟨i,j,g1.int (dA e1),g2.int (dA e2),h _ H' (aD.refl _) (aI.sc (show Rep _ _ (.bl (G i j)) _ from rfl))⟩
mutual
theorem Rep.has {G H:Hp}(s:aD G H):∀ {d:D} {p:PyData} {v:V},fS d=some p->Rep X.K G d v->Has X.K H v p
 | .non,_,_,e,h=>by simp[fS]at e;subst e;rw[show _=V.non from h];exact .non
 | .bl b,_,_,e,h=>by simp[fS]at e;subst e;rw[show _=V.bl b from h];exact .bl b
 | .int i,_,_,e,h=>by simp[fS]at e;subst e;rw[show _=V.int i from h];exact .int i
 | .str x,_,_,e,h=>by simp[fS]at e;subst e;rw[show _=V.str x from h];exact .str x
 | .lst ds,_,_,e,⟨a,xs,h1,h2,h3⟩=>by
  simp[fS]at e
  obtain⟨ps,e1,e2⟩:=e;subst e2;subst h1;exact .lst (.inl (aD.rd s h2)) (aL.has s e1 h3)
 | .tup ds,_,_,e,⟨a,xs,h1,h2,h3⟩=>by
  simp[fS]at e
  obtain⟨ps,e1,e2⟩:=e;subst e2;subst h1;exact .tup (.inl (.inl (s _ _ h2))) (aL.has s e1 h3)
 | .obj _ _,_,_,e,_=>by simp[fS]at e
 | .any,_,_,e,_=>by simp[fS]at e
 | .dct _ _,_,_,e,_=>by simp[fS]at e
 | .exc _ _,_,_,e,_=>by simp[fS]at e
theorem aL.has {G H:Hp}(s:aD G H):∀ {ds:List D} {ps:List PyData} {vs:List V},lZ ds=some ps->aL X.K G ds vs->HasAll X.K H vs ps
 | [],_,_,e,h=>by simp[lZ]at e;subst e;rw[show _=[] from h];exact .nil
 | d :: r,_,_,e,⟨x,xr,h1,h2,h3⟩=>by
  simp[lZ,Option.bind_eq_some_iff]at e
  obtain⟨p,e1,q,e2,e3⟩:=e;subst e3;subst h1;exact .cons (Rep.has s e1 h2) (aL.has s e2 h3)
end
theorem aI.has {H0 H H':Hp}{B:Addr->Prop}{v:V}{r:Res}{p:PyData}(g:aI X.K H0 H H' B v r)(e:fS r.d=some p):Has X.K H' v p:=by
 cases k:r.d with
 | lst ds =>
  obtain⟨a,xs,h1,h2,h3⟩:=g.list k;rw[k]at e;simp[fS]at e
  obtain⟨ps,e1,e2⟩:=e;subst e2;subst h1;exact .lst (.inl h2) (aL.has fG e1 h3)
 | dct ks ds=>rw[k]at e;simp[fS]at e
 | _=>exact Rep.has fG e (g.shr_of (by rw[k];rfl))
theorem aAs {x y:D}{z:Xc}(h:iD x y=.exc z):False:=by
 unfold iD at h;split at h
 · split at h<;>cases h
 · cases h
theorem aBo {n:Bool->Bool}(σ:St)(H:Hp)(Q:VK)(h:tE X.K P (fun ρ=>f ρ >>= fun x=>g ρ >>= fun y=>iD x.d y.d >>= fun t=>.ok (sc (.bl (n t)))) σ H Q) :
 tOp (fun x y H Q=>∃ d e,Has X.K H x d/\Has X.K H y e/\SeqAt.shaped d=true/\SeqAt.shaped e=true/\Q (.bl (n (PyData.eqv d e))) H) (tE X.K P f) (tE X.K P g) σ H Q:=by
 refine t2 (q:=fun x y H2=>∃ d e,Has X.K H2 x d/\Has X.K H2 y e/\SeqAt.shaped d=true/\SeqAt.shaped e=true/\Q (.bl (n (PyData.eqv d e))) H2) h ?_
 intro H0 B ρ v w H' r r' d g1 g2 s h;cases e1:iD r.d r'.d with
 | stk=>simp[e1]at h
 | exc x=>exact(aAs e1).elim
 | ok t =>
  simp only[e1,R.ok_bind]at h;unfold iD at e1;split at e1
  · rename_i p q hp hq
    split at e1
    · rename_i hs
      rw[Bm]at hs;cases e1;exact⟨p,q,g1.has hp,g2.has hq,hs.1,hs.2,h _ H' (aD.refl _) (aI.sc (show Rep _ _ (.bl _) _ from rfl))⟩
    · cases e1
  · cases e1
theorem aB1 {d:D}{x:Xc}(h:aEp d=.exc x):False:=by
 cases d<;>cases h
theorem aI.isN {H0 H H':Hp}{B:Addr->Prop}{v:V}{r:Res}(g:aI X.K H0 H H' B v r){b:Bool}(hb:aEp r.d=.ok b):decide (v=.non)=b:=by
 suffices h:decide (v=.non)=aK4 r.d by
  rw[h];cases k:r.d<;>rw[k]at hb<;>first | (cases hb;rfl) | cases hb
 cases k:r.d with
 | lst ds =>
  obtain⟨a,xs,h1,_⟩:=g.list k;rw[h1];rfl
 | dct ks ds =>
  obtain⟨a,xs,h1,_⟩:=g.dict k;rw[h1];rfl
 | any=>rw[k]at hb;cases hb
 | non=>have:=g.shr_of (by rw[k];rfl);rw[k]at this;rw[show v=.non from this];rfl
 | bl b=>have:=g.shr_of (by rw[k];rfl);rw[k]at this;rw[show v=.bl b from this];rfl
 | int b=>have:=g.shr_of (by rw[k];rfl);rw[k]at this;rw[show v=.int b from this];rfl
 | str b=>have:=g.shr_of (by rw[k];rfl);rw[k]at this;rw[show v=.str b from this];rfl
 | tup b=>have:=g.shr_of (by rw[k];rfl);rw[k]at this;obtain⟨a,_,h1,_⟩:=this;rw[h1];rfl
 | obj c b=>have:=g.shr_of (by rw[k];rfl);rw[k]at this;obtain⟨a,_,_,h1,_⟩:=this;rw[h1];rfl
 | exc c b=>have:=g.shr_of (by rw[k];rfl);rw[k]at this;obtain⟨_,a,h1,_⟩:=this;rw[h1];rfl
theorem aLj (σ:St)(H:Hp)(Q:VK)(h:tE X.K P (aGe f) σ H Q):aKn (tE X.K P f) σ H Q:=by
 refine t1 (q:=fun x H1=>Q (.bl (decide (x=.non))) H1) h ?_
 intro H0 B ρ v H' r d g1 s h;cases e1:aEp r.d with
 | stk=>simp[e1]at h
 | exc x=>exact(aB1 e1).elim
 | ok b =>
  simp only[e1,R.ok_bind]at h;rw[g1.isN e1];exact h _ H' (aD.refl _) (aI.sc (show Rep _ _ (.bl _) _ from rfl))
theorem qF {σ:St}{H:Hp}{Q:Bool->Hp->Prop}(h:tT X.K P (bT f) σ H Q):tE X.K P f σ H fun x H1=>∃ k,x=.bl k/\Q k H1:=by
 obtain⟨H0,B,ρ,d,h⟩:=h;unfold bT at h;cases e:f ρ with
 | stk=>simp[e]at h
 | exc x=>simp[e]at h;exact eE d e h
 | ok r =>
  cases e1:asB r.d with
  | stk=>simp[e,e1]at h
  | exc x=>exact(aC0 e1).elim
  | ok t =>
   simp[e,e1]at h
   exact fW d e fun v H' s d' g'=>⟨t,g'.bl (aGm e1),h H' s⟩
theorem aL5 (hu:X.A.units+64<cLine)(ha:PE X a (tE X.K P f))(hb:PE X b (tE X.K P g)):PE X (.Compare a [.Eq] [b] pos) (tE X.K P (eqE f g)):=PE.imp (aE5 (aCh hu) ha hb (nW _)) (aBo (n:=id))
theorem qM {op:CmpOp}{r:R2}(ho:OpR X (compareOp op) r)(ha:PE X a (tE X.K P f))(hb:PE X b (tE X.K P g))(hm:behindInMarks op b=false){F:FE}(himp:∀ σ H Q,tE X.K P F σ H Q->tOp r (tE X.K P f) (tE X.K P g) σ H Q) :
 PT X (.Compare a [op] [b] pos) (tT X.K P (bT F)):=by
 refine PT.imp (aCt ho ha hb hm) ?_
 intro σ H Q h;exact himp σ H _ (qF h)
theorem aBy (ha:PE X a (tE X.K P f))(hb:PE X b (tE X.K P g)):PT X (.Compare a [.Lt] [b] pos) (tT X.K P (bT (ltE f g))):=qM aIt ha hb (nW _) aF2
theorem aAo (ha:PE X a (tE X.K P f))(hb:PE X b (tE X.K P g)):PT X (.Compare a [.Gt] [b] pos) (tT X.K P (bT (gtE f g))):=qM aI4 ha hb (nW _) aF2
theorem xQ (hu:X.A.units+64<cLine)(ha:PE X a (tE X.K P f))(hb:PE X b (tE X.K P g)):PT X (.Compare a [.Eq] [b] pos) (tT X.K P (bT (eqE f g))):=qM (aCh hu) ha hb (nW _) (aBo (n:=id))
theorem iI (hu:X.A.units+64<cLine)(ha:PE X a (tE X.K P f))(hb:PE X b (tE X.K P g)):PT X (.Compare a [.NotEq] [b] pos) (tT X.K P (bT (neE f g))):=qM (aHe hu) ha hb (nW _) (aBo (n:=not))
theorem aHf {j p'}(ha:PE X a (tE X.K P f)):PT X (.Compare a [.Is] [.Constant .none j p'] pos) (tT X.K P (bT (aGe f))):=PT.imp (aHv (aG0 ha)) fun σ H Q h=>aLj σ H _ (qF h)
theorem uU {e:Expr}(h:PE X e (tE X.K P f))(he:∀ whole,isTrue e X.env whole=(do let v ← whole;standAt e.pos;holding [v] (truthy v)):=by intro _;rfl):PT X e (tT X.K P (bT f)):=by
 refine PT.imp (aGi h he) ?_
 intro σ H Q h;exact qF h
variable {t u:FT}{rest:List Expr}
theorem tT1 {k:Bool->R Bool}{σ:St}{H:Hp}{Q:Bool->Hp->Prop}{q:Bool->Hp->Prop}(h:tT X.K P (fun ρ=>t ρ >>= k) σ H Q)
 (hk:∀ c H',aD H H'->(match k c with
  | .ok b=>∀ H1,aD H' H1->Q b H1
  | .exc x=>P.p x σ H'
  | .stk=>False)->q c H'):tT X.K P t σ H q:=by
 obtain⟨H0,B,ρ,d,h⟩:=h;cases e:t ρ with
 | stk=>simp[e]at h
 | exc x=>simp[e]at h;exact⟨H0,B,ρ,d,by rw[e];exact h⟩
 | ok c =>
  simp[e]at h
  refine⟨H0,B,ρ,d,?_⟩
  rw[e];intro H' s;refine hk c H' s ?_
  cases e2:k c with
  | stk=>rw[e2]at h;exact h
  | exc x=>rw[e2]at h;exact P.mono h s
  | ok b=>rw[e2]at h;exact fun H1 s1=>h H1 (s.trans s1)
theorem aHy (h:PT X a (tT X.K P t)):PT X (.UnaryOp .Not a pos) (tT X.K P (vS t)):=by
 refine PT.imp (aH8 h) ?_
 intro σ H Q h;exact tT1 (q:=fun c H1=>Q (!c) H1) h fun c H' s h=>h H' (aD.refl _)
theorem tT2 {σ:St}{H:Hp}{Q:Bool->Hp->Prop}{stop:Bool}{h2:Hp->Prop}
 (h:tT X.K P (fun ρ=>t ρ >>= fun b=>if b=stop then .ok stop else u ρ) σ H Q):tT X.K P t σ H fun c H1=>if c=stop then Q stop H1 else tT X.K P u σ H1 Q:=by
 obtain⟨H0,B,ρ,d,h⟩:=h;cases e:t ρ with
 | stk=>simp[e]at h
 | exc x=>simp[e]at h;exact⟨H0,B,ρ,d,by rw[e];exact h⟩
 | ok c =>
  simp only[e,R.ok_bind]at h;refine⟨H0,B,ρ,d,?_⟩
  rw[e];intro H' s;by_cases hc:c=stop
  · rw[if_pos hc]at h ⊢
    exact h H' s
  · rw[if_neg hc]at h ⊢
    refine⟨H0,B,ρ,d.mono s,?_⟩
    cases e2:u ρ with
    | stk=>rw[e2]at h;exact h
    | exc x=>rw[e2]at h;exact P.mono h s
    | ok b=>rw[e2]at h;exact fun H1 s1=>h H1 (s.trans s1)
theorem aId:orT t u=fun ρ=>t ρ >>= fun b=>if b=true then .ok true else u ρ:=by
 funext ρ
 unfold orT;cases t ρ with
 | ok b=>cases b<;>rfl
 | _=>rfl
theorem aAz (ha:PT X a (tT X.K P t)):PW X (.BoolOp .Or [a] pos) (tT X.K P t):=aHu ha
theorem PW.imp {e:Expr}{t t':TT}(p:PW X e t)(h:∀ σ H Q,t' σ H Q->t σ H Q):PW X e t':=fun wh pins s σ H Q I q=>p wh pins s σ H Q I (h σ H Q q)
theorem aF6 (ha:PT X a (tT X.K P t))(hb:PW X (.BoolOp .Or (b :: rest) pos) (tT X.K P u)):PW X (.BoolOp .Or (a :: b :: rest) pos) (tT X.K P (orT t u)):=by
 refine PW.imp (aKo ha hb) ?_
 intro σ H Q h;rw[aId]at h;exact tT2 (h2:=fun _=>True) h
end Mir
namespace Mir
open PySem L2
variable {X:Cx}{P:XP}{a b c e:Expr}{es:List Expr}{f g:FE}{fs:FEs}{pos:Pos}
def dD (K:PySem.W.Frag)(H0 H H':Hp)(B:Addr->Prop):List V->List Res->Prop
 | [],rs=>rs=[]
 | v :: vs,rs=>∃ r rr,rs=r :: rr/\aI K H0 H H' B v r/\dD K H0 H H' B vs rr
theorem aI.old {K:PySem.W.Frag}{H0 H H1 H2:Hp}{B:Addr->Prop}{v:V}{r:Res}(s:aD H H1)(g:aI K H0 H1 H2 B v r):aI K H0 H H2 B v r:=by
 unfold aI at g ⊢;cases k:r.k with
 | shr=>rw[k]at g;exact g
 | own=>rw[k]at g;exact g
 | tmp=>rw[k]at g;obtain⟨a,o,h1,h2,h3⟩:=g;exact⟨a,o,h1,s.none h2,h3⟩
 | old=>rw[k]at g;exact g
theorem dD.old {K:PySem.W.Frag}{H0 H H1 H2:Hp}{B:Addr->Prop}(s:aD H H1):∀ {vs:List V} {rs:List Res},dD K H0 H1 H2 B vs rs->dD K H0 H H2 B vs rs
 | [],_,h=>h
 | _ :: _,_,⟨r,rr,e,g,gs⟩=>⟨r,rr,e,g.old s,dD.old s gs⟩
theorem dD.len {K:PySem.W.Frag}{H0 H H1:Hp}{B:Addr->Prop}:∀ {vs:List V} {rs:List Res},dD K H0 H H1 B vs rs->vs.length=rs.length
 | [],rs,h=>by have e:rs=[]:=h;rw[e];rfl
 | _ :: _,_,⟨r,rr,e,g,gs⟩=>by rw[e];simp[dD.len gs]
def tAs (K:PySem.W.Frag)(P:XP)(fs:FEs):TA:=fun σ H Q=>∃ H0 B ρ,DenE K H0 H B σ ρ/\match evs fs ρ with
 | .ok rs=>∀ vs H',aD H H'->dD K H0 H H' B vs rs->Q vs H'
 | .exc x=>P.p x σ H
 | .stk=>False
theorem PA.imp {t t':TA}(p:PA X es t)(h:∀ σ H Q,t' σ H Q->t σ H Q):PA X es t':=fun pos pins s σ H Q I q=>p pos pins s σ H Q I (h σ H Q q)
theorem aF:PA X [] (tAs X.K P []):=PA.imp qQ fun σ H Q ⟨H0,B,ρ,d,h⟩=>h [] H (aD.refl H) rfl
theorem aA (ha:PE X e (tE X.K P f))(hr:PA X es (tAs X.K P fs))(hs:starEach (e :: es) X.env=(false,eval e X.env) :: starEach es X.env:=by rfl):PA X (e :: es) (tAs X.K P (f :: fs)):=by
 refine PA.imp (jC ha hr hs) ?_
 rintro σ H Q ⟨H0,B,ρ,d,h⟩
 unfold evs at h;show tE X.K P f σ H fun x H1=>tAs X.K P fs σ H1 fun xs H2=>Q (x :: xs) H2
 cases e1:f ρ with
 | stk=>simp[e1]at h
 | exc x=>simp[e1]at h;exact eE d e1 h
 | ok r =>
  simp only[e1,R.ok_bind]at h;refine fW d e1 fun v H1 s1 d1 g1=>⟨H0,B,ρ,d1,?_⟩
  cases e2:evs fs ρ with
  | stk=>simp[e2]at h
  | exc x=>simp[e2]at h;exact P.mono h s1
  | ok rs =>
   simp only[e2,R.ok_bind]at h;exact fun vs H2 s2 gs=>h (v :: vs) H2 (s1.trans s2) ⟨r,rs,rfl,g1.mono s2,gs.old s1⟩
theorem tA1 {k:List Res->R Res}{σ:St}{H:Hp}{Q:VK}{q:List V->Hp->Prop}(h:tE X.K P (fun ρ=>evs fs ρ >>= k) σ H Q)
 (hk:∀ H0 B ρ vs H' rs,DenE X.K H0 H B σ ρ->DenE X.K H0 H' B σ ρ->dD X.K H0 H H' B vs rs->aD H H'->(match k rs with
  | .ok r1=>∀ v1 H1,aD H' H1->aI X.K H0 H H1 B v1 r1->Q v1 H1
  | .exc x=>P.p x σ H'
  | .stk=>False)->q vs H'):tAs X.K P fs σ H q:=by
 obtain⟨H0,B,ρ,d,h⟩:=h;refine⟨H0,B,ρ,d,?_⟩
 cases e:evs fs ρ with
 | stk=>simp[e]at h
 | exc x=>simp[e]at h;exact h
 | ok rs =>
  simp only[e,R.ok_bind]at h;intro vs H' s gs;refine hk H0 B ρ vs H' rs d (d.mono s) gs s ?_
  cases e2:k rs with
  | stk=>rw[e2]at h;exact h
  | exc x=>rw[e2]at h;exact P.mono h s
  | ok r1=>rw[e2]at h;exact fun v1 H1 s1 g1=>h v1 H1 (s.trans s1) g1
theorem dD.gives {K:PySem.W.Frag}{H0 H H':Hp}{B:Addr->Prop}{σ:St}{ρ:Env}(den:DenE K H0 H B σ ρ):∀ {vs:List V} {rs:List Res} {y:Bool×List D},dD K H0 H H' B vs rs->gives rs=.ok y->aL K (aW y.1 H0 H' B) y.2 vs
 | [],_,y,h,e=>by rw[show _=[] from h]at e;simp[Mir.gives]at e;subst e;rfl
 | v :: vs,_,y,⟨r,rr,e1,g,gs⟩,e=>by
  subst e1;simp only[Mir.gives]at e;cases e2:r.give with
  | stk=>simp[e2]at e
  | exc x=>simp[e2]at e
  | ok r' =>
   cases e3:Mir.gives rr with
   | stk=>simp[e2,e3]at e
   | exc x=>simp[e2,e3]at e
   | ok y' =>
    simp only[e2,e3,R.ok_bind]at e;cases e;obtain⟨q1,q2⟩:=g.give den e2;have q3:=dD.gives den gs e3;subst q1
    have w:∀ {fr fr':Bool} {d:D} {v:V},Rep K (aW fr H0 H' B) d v->Rep K (aW (fr&&fr') H0 H' B) d v:=fun {fr fr' d v} h=>by
     cases fr' with
     | true=>simpa using h
     | false=>simp;exact Rep.same gT h
    have w2:∀ {fr fr':Bool} {d:List D} {v:List V},aL K (aW fr' H0 H' B) d v->aL K (aW (fr&&fr') H0 H' B) d v:=fun {fr fr' d v} h=>by
     cases fr with
     | true=>simpa using h
     | false=>simp;exact aL.same gT h
    exact⟨v,vs,rfl,w q2,w2 q3⟩
theorem gQ {x:Xc}:∀ {rs:List Res},gives rs=.exc x->False
 | [],h=>by simp[gives]at h
 | r :: rs,h=>by
  simp only[gives]at h;cases e2:r.give with
  | stk=>simp[e2]at h
  | exc x=>unfold Res.give at e2;split at e2<;>cases e2
  | ok r' =>
   cases e3:gives rs with
   | stk=>simp[e2,e3]at h
   | exc x=>exact gQ e3
   | ok y=>simp[e2,e3]at h
theorem iH {K:PySem.W.Frag}{H0 H H':Hp}{B:Addr->Prop}{σ:St}{ρ:Env}{p:Addr}{vs:List V}{ds:List D}{fr:Bool}(den:DenE K H0 H' B σ ρ)(s:aD H H')(hp:H' p=none)(r:aL K (aW fr H0 H' B) ds vs) :
 aI K H0 H (upd H' p (.lst vs)) B (.ref p) ⟨.tmp,fr,.lst ds⟩:=by
 refine⟨p,_,rfl,s.none hp,bC,.lst (aL.same (aS (fun b o e _=>aD.upd_new hp b o e) fun b z=>?_) r)⟩
 rcases z with z | z
 · exact .inl z
 · exact .inr (by rw[z];exact hp)
theorem aDx {K:PySem.W.Frag}{H0 H':Hp}{B:Addr->Prop}{σ:St}{ρ:Env}{p:Addr}{vs:List V}{ds:List D}{fr:Bool}(den:DenE K H0 H' B σ ρ)(hp:H' p=none)(r:aL K (aW fr H0 H' B) ds vs) :
 Rep K (aW fr H0 (upd H' p (.tup vs)) B) (.tup ds) (.ref p):=by
 refine⟨p,vs,rfl,aJ.mpr ⟨fun z=>?_,bC⟩,aL.same (aS (fun b o e _=>aD.upd_new hp b o e) fun b z=>.inl z) r⟩
 rcases z with z | ⟨_,o,z,_⟩
 · obtain⟨o,q,_⟩:=den.bnd p z;rw[hp]at q;cases q
 · rw[den.sam _ _ z]at hp;cases hp
theorem cD (h:PA X es (tAs X.K P fs)):PE X (.List es pos) (tE X.K P (aX fs)):=by
 refine PE.imp (aGn h) ?_
 intro σ H Q h;refine tA1 h ?_
 intro H0 B ρ vs H' rs d0 d gs s h;cases e:gives rs with
 | stk=>simp[e]at h
 | exc x=>exact(gQ e).elim
 | ok y =>
  simp only[e,R.ok_bind]at h;have r:=gs.gives d0 e;by_cases hz:y.2.length<=sizeLine
  · rw[if_pos hz]at h
    exact⟨by rw[←r.length];exact hz,fun p hp=>h _ _ (aD.upd_new hp) (iH d s hp r)⟩
  · rw[if_neg hz]at h;exact h.elim
theorem aIr {x1}(h:PA X es (tAs X.K P fs)):PE X (.Tuple es x1 pos) (tE X.K P (yV fs)):=by
 refine PE.imp (aG9 h) ?_
 intro σ H Q h;refine tA1 h ?_
 intro H0 B ρ vs H' rs d0 d gs s h;cases e:gives rs with
 | stk=>simp[e]at h
 | exc x=>exact(gQ e).elim
 | ok y =>
  simp only[e,R.ok_bind]at h;have r:=gs.gives d0 e;by_cases hz:y.2.length<=sizeLine
  · rw[if_pos hz]at h
    exact⟨by rw[←r.length];exact hz,fun p hp=>h _ _ (aD.upd_new hp) (aDx d hp r)⟩
  · rw[if_neg hz]at h;exact h.elim
theorem aI.seq {K:PySem.W.Frag}{H0 H H':Hp}{B:Addr->Prop}{v:V}{r:Res}{ds:List D}(g:aI K H0 H H' B v r)(e:asS r.d=.ok ds):∃ a xs,v=.ref a/\(Rd H' a (.lst xs)\/H' a=some (.tup xs))/\aL K (aW r.fr H0 H' B) ds xs:=by
 rcases aAw e with e | e
 · obtain⟨a,xs,h1,h2,h3⟩:=g.list e
   exact⟨a,xs,h1,.inl h2,h3⟩
 · obtain⟨a,xs,h1,h2,h3⟩:=g.tuple e
   exact⟨a,xs,h1,.inr h2,h3⟩
theorem aAa {k:Res->R Res}{rule:List V->Hp->VK->Prop}{σ:St}{H:Hp}{Q:VK}(h:tE X.K P (fun ρ=>f ρ >>= k) σ H Q)
 (hk:∀ H0 B ρ v H' r,DenE X.K H0 H B σ ρ->DenE X.K H0 H' B σ ρ->aI X.K H0 H H' B v r->aD H H'->(match k r with
  | .ok r1=>∀ v1 H1,aD H' H1->aI X.K H0 H H1 B v1 r1->Q v1 H1
  | .exc x=>P.p x σ H'
  | .stk=>False)->rule [v] H' Q):tCB rule (tAs X.K P [f]) σ H Q:=by
 show tAs X.K P [f] σ H fun vs H1=>rule vs H1 Q
 have e:(fun ρ=>evs [f] ρ >>= fun rs=>match rs with | [r]=>k r | _=>.stk)=fun ρ=>f ρ >>= k:=by
  funext ρ
  unfold evs;cases f ρ with
  | ok r=>rfl
  | _=>rfl
 rw[←e]at h;refine tA1 h ?_
 intro H0 B ρ vs H' rs d0 d gs s h;match vs,rs,gs with
 | [],rs,gs=>have e:rs=[]:=gs;subst e;exact h.elim
 | [v],_,⟨r,rr,e1,g1,g2⟩ =>
  subst e1;rw[show rr=[] from g2]at h
  exact hk H0 B ρ v H' r d0 d g1 s h
 | v :: w :: _,_,⟨r,rr,e1,g1,r2,rr2,e2,g2⟩ =>
  subst e1;subst e2;exact h.elim
variable {x:Str}{p:Pos}
theorem lW (hg:Gl X "len")(hm:X.mg "len" = none)(ha:PE X a (tE X.K P f))(he:starEach [a] X.env=[(false,eval a X.env)]:=by rfl):PE X (.Call (.Name "len" p) [a] [] pos) (tE X.K P (dF f)):=by
 refine PE.imp (iT qI hg hm PySem.boot_len (aA ha aF he) (he:=he)) ?_
 intro σ H Q h;refine aAa h ?_
 intro H0 B ρ v H' r d0 d g s h;cases e:asS r.d with
 | stk=>simp[e]at h
 | exc x=>exact(mH e).elim
 | ok ds =>
  simp only[e,R.ok_bind]at h;obtain⟨a,xs,h1,h2,h3⟩:=g.seq e;exact⟨a,xs,by rw[h1],h2.imp .inl fun z=>.inl (.inl z),h _ H' (aD.refl _) (by rw[h3.length];exact aI.sc (show Rep _ _ (.int _) _ from rfl))⟩
theorem xZ (hg:Gl X "list")(hm:X.mg "list" = none)(ha:PE X a (tE X.K P f))(he:starEach [a] X.env=[(false,eval a X.env)]:=by rfl):PE X (.Call (.Name "list" p) [a] [] pos) (tE X.K P (lJ f)):=by
 refine PE.imp (zC rX hg hm (by decide +kernel) (aA ha aF he) (he:=he)) ?_
 intro σ H Q h;refine aAa h ?_
 intro H0 B ρ v H' r d0 d g s h;cases e:asS r.d with
 | stk=>simp[e]at h
 | exc x=>exact(mH e).elim
 | ok ds =>
  simp only[e,R.ok_bind]at h;obtain⟨a,xs,h1,h2,h3⟩:=g.seq e;exact⟨a,xs,by rw[h1],h2.imp .inl fun z=>.inl (.inl z),fun l hl=>h _ _ (aD.upd_new hl) (iH d s hl h3)⟩
theorem wW {K:PySem.W.Frag}{G:Hp}{ds:List D}{xs:List V}{j:Int}{d:D}(r:aL K G ds xs)(e:atI ds j=some d):∃ v,atI xs j=some v/\Rep K G d v:=by
 unfold atI at e ⊢;rw[←r.length];cases q:ixN ds.length j with
 | none=>rw[q]at e;cases e
 | some n=>rw[q]at e;exact r.get e
theorem aJb {σ:St}{H:Hp}{Q:VK}(h:tE X.K P (bA f g) σ H Q):tOp (fun x y H Q=>aEl X.K x y H Q\/aDo X.K x y H Q) (tE X.K P f) (tE X.K P g) σ H Q:=by
 refine t2 (q:=fun x y H2=>aEl X.K x y H2 Q\/aDo X.K x y H2 Q) h ?_
 intro H0 B ρ v w H' r r' d g1 g2 s h;cases e1:asS r.d with
 | stk=>simp[e1]at h
 | exc x=>exact(mH e1).elim
 | ok ds =>
  cases e2:asI r'.d with
  | stk=>simp[e1,e2]at h
  | exc x=>exact(cM e2).elim
  | ok j =>
   simp only[e1,e2,R.ok_bind]at h;cases e3:atI ds j with
   | none=>rw[e3]at h;exact h.elim
   | some dd =>
    rw[e3]at h;rcases aAw e1 with e | e
    · obtain⟨a,xs,h1,h2,h3⟩:=g1.list e
      obtain⟨z,z1,z2⟩:=wW h3 e3;exact .inl ⟨a,xs,j,z,h1,g2.int (dA e2),.inl h2,z1,h z H' (aD.refl _) (Rep.fr d.sam z2)⟩
    · obtain⟨a,xs,h1,h2,h3⟩:=g1.tuple e
      obtain⟨z,z1,z2⟩:=wW h3 e3;exact .inr ⟨a,xs,j,z,h1,g2.int (dA e2),.inl (.inl h2),z1,h z H' (aD.refl _) (Rep.fr d.sam z2)⟩
theorem aIa:IxR X (fun x y H Q=>aEl X.K x y H Q\/aDo X.K x y H Q):=by
 intro value slice pins s σ H x y v u Q I rx ry h hs;rcases h with h | h
 · exact aC8 value slice pins s σ H x y v u Q I rx ry h hs
 · exact aH1 value slice pins s σ H x y v u Q I rx ry h hs
theorem cV (ha:PE X a (tE X.K P f))(hb:PE X b (tE X.K P g))(hs:xA b:=by exact fun _ _=>rfl):PE X (.Subscript a b pos) (tE X.K P (bA f g)):=PE.imp (aKt aIa ha hb hs) fun σ H Q h=>aJb h
theorem Inv.rdL {pins:List (Addr×Obj)}{σ:St}{H:Hp}{s:Shared}{l:Addr}{xs:List V}(I:Inv X pins σ H s)(h:Rd H l (.lst xs)):xs.length<=sizeLine/\∃ (its:List Value) (n:Nat),bH xs its/\s.heap.get? l=some { cls:=.type "list",data:=.seq its.toArray n }:=h.ok I.hok
def aFa:R2:=fun x y H Q=>∃ l b xs zs,x=.ref l/\y=.ref b/\Rd H l (.lst xs)/\Rd H b (.lst zs)/\xs.length+zs.length<=sizeLine/\∀ p,H p=none->Q (.ref p) (upd H p (.lst (xs++zs)))
theorem aDj:OpR X (binaryOp .Add) aFa:=by
 intro pins s σ H x y v u Q I rx ry h;obtain⟨l,b,xs,zs,rfl,rfl,hH,hB,hz,q⟩:=h;cases rx;cases ry;obtain⟨z,its,n,r,e⟩:=Inv.rdL I hH;obtain⟨z2,its2,n2,r2,e2⟩:=Inv.rdL I hB;have hl:=r.length;have hl2:=r2.length;refine PySem.P.add_list e e2 ?_ (by rw[Aj,Aj];omega)
 have ea:its.toArray++its2.toArray=(its++its2).toArray:=by simp
 rw[ea];exact⟨.ref _,_,I.lnew (t':=s.toks) (r.append r2) (by rw[As];omega),rfl,q _ I.fresh⟩
theorem aL.andL {K:PySem.W.Frag}{H0 H:Hp}{B:Addr->Prop}{fr fr':Bool}{ds:List D}{vs:List V}(h:aL K (aW fr H0 H B) ds vs):aL K (aW (fr&&fr') H0 H B) ds vs:=by
 cases fr' with
 | true=>simpa using h
 | false=>simp;exact aL.same gT h
theorem aL.andR {K:PySem.W.Frag}{H0 H:Hp}{B:Addr->Prop}{fr fr':Bool}{ds:List D}{vs:List V}(h:aL K (aW fr' H0 H B) ds vs):aL K (aW (fr&&fr') H0 H B) ds vs:=by
 cases fr with
 | true=>simpa using h
 | false=>simp;exact aL.same gT h
theorem fU (ha:PE X a (tE X.K P f))(hb:PE X b (tE X.K P g)):PE X (.BinOp a .Add b pos) (tE X.K P (dX f g)):=by
 refine PE.imp (aCa aDj ha hb) ?_
 intro σ H Q h;refine t2 (q:=fun x y H2=>aFa x y H2 Q) h ?_
 intro H0 B ρ v w H' r r' d g1 g2 s h;cases e1:asL r.d with
 | stk=>simp[e1]at h
 | exc x=>exact(eB e1).elim
 | ok xs =>
  cases e2:asL r'.d with
  | stk=>simp[e1,e2]at h
  | exc x=>exact(eB e2).elim
  | ok ys =>
   simp only[e1,e2,R.ok_bind]at h;obtain⟨a1,xs1,h1,h2,h3⟩:=g1.list (cW e1);obtain⟨a2,xs2,k1,k2,k3⟩:=g2.list (cW e2);by_cases hz:xs.length+ys.length<=sizeLine
   · rw[if_pos hz]at h
     exact⟨a1,a2,xs1,xs2,h1,k1,h2,k2,by rw[←h3.length,←k3.length];exact hz,fun p hp=>h _ _ (aD.upd_new hp) (iH d s hp (h3.andL.append k3.andR))⟩
   · rw[if_neg hz]at h;exact h.elim
def tO (K:PySem.W.Frag)(P:XP)(f:FO):TO:=fun σ H Q=>∃ H0 B ρ,DenE K H0 H B σ ρ/\match f ρ with
 | .ok o=>∀ H',aD H H'->Q o H'
 | .exc x=>P.p x σ H
 | .stk=>False
theorem PO.imp {e:Option Expr}{t t':TO}(p:PO X e t)(h:∀ σ H Q,t' σ H Q->t σ H Q):PO X e t':=fun pins s σ H Q I q=>p pins s σ H Q I (h σ H Q q)
theorem pJ:PO X none (tO X.K P noO):=PO.imp aE7 fun σ H Q ⟨H0,B,ρ,d,h⟩=>h H (aD.refl H)
theorem lY (ha:PE X a (tE X.K P f)):PO X (some a) (tO X.K P (soO f)):=by
 refine PO.imp (aDv ha) ?_
 rintro σ H Q ⟨H0,B,ρ,d,h⟩
 unfold soO at h;show tE X.K P f σ H fun x H1=>∃ i,x=.int i/\Q (some i) H1
 cases e:f ρ with
 | stk=>simp[e]at h
 | exc x=>simp[e]at h;exact eE d e h
 | ok r =>
  cases e1:asI r.d with
  | stk=>simp[e,e1]at h
  | exc x=>exact(cM e1).elim
  | ok i =>
   simp only[e,e1,R.ok_bind]at h;exact fW d e fun v H' s d' g'=>⟨i,g'.int (dA e1),h H' s⟩
theorem nG {lo hi:Option Expr}{fl fh:FO}{p2:Pos}(ha:PE X a (tE X.K P f))(hl:PO X lo (tO X.K P fl))(hh:PO X hi (tO X.K P fh)):PE X (.Subscript a (.Slice lo hi none p2) pos) (tE X.K P (fP f fl fh)):=by
 refine PE.imp (aAt aDk ha hl hh) ?_
 rintro σ H Q ⟨H0,B,ρ,d,h⟩
 unfold fP at h;show tE X.K P f σ H fun x H1=>tO X.K P fl σ H1 fun l H2=>tO X.K P fh σ H2 fun u H3=>aJ0 X.K x l u H3 Q
 cases e:f ρ with
 | stk=>simp[e]at h
 | exc x=>simp[e]at h;exact eE d e h
 | ok r =>
  simp only[e,R.ok_bind]at h;refine fW d e fun v H1 s1 d1 g1=>⟨H0,B,ρ,d1,?_⟩
  cases e1:fl ρ with
  | stk=>simp[e1]at h
  | exc x=>simp[e1]at h;exact P.mono h s1
  | ok l =>
   simp only[e1,R.ok_bind]at h;intro H2 s2;refine⟨H0,B,ρ,d1.mono s2,?_⟩
   cases e2:fh ρ with
   | stk=>simp[e2]at h
   | exc x=>simp[e2]at h;exact P.mono h (s1.trans s2)
   | ok u =>
    simp only[e2,R.ok_bind]at h;intro H3 s3;cases e3:asL r.d with
    | stk=>simp[e3]at h
    | exc x=>exact(eB e3).elim
    | ok ds =>
     simp only[e3,R.ok_bind]at h;obtain⟨a1,xs,h1,h2,h3⟩:=(g1.mono (s2.trans s3)).list (cW e3);have s:=(s1.trans s2).trans s3;refine⟨a1,xs,h1,.inl h2,fun p hp=>h _ _ (s.trans (aD.upd_new hp)) ?_⟩
     have q:aL X.K (aW r.fr H0 H3 B) (lF ds l u) (zI xs l u):=by
      unfold lF zI;rw[←h3.length];exact(h3.drop _).take _
     exact iH (d.mono s) s hp q
theorem aL9 {t:FT}(hc:PT X c (tT X.K P t))(ha:PE X a (tE X.K P f))(hb:PE X b (tE X.K P g)):PE X (.IfExp c a b pos) (tE X.K P (ifE t f g)):=by
 refine PE.imp (aCq hc ha hb) ?_
 rintro σ H Q ⟨H0,B,ρ,d,h⟩
 unfold ifE at h;show tT X.K P t σ H fun c H1=>if c=true then tE X.K P f σ H1 Q else tE X.K P g σ H1 Q
 refine⟨H0,B,ρ,d,?_⟩
 cases e:t ρ with
 | stk=>simp[e]at h
 | exc x=>simp[e]at h;exact h
 | ok k =>
  simp only[e,R.ok_bind]at h;intro H1 s1
  have fin:∀ {F:FE},(match F ρ with
   | .ok r=>∀ v H',aD H H'->aI X.K H0 H H' B v r->Q v H'
   | .exc x=>P.p x σ H
   | .stk=>False)->tE X.K P F σ H1 Q:=fun {F} h=>by
   refine⟨H0,B,ρ,d.mono s1,?_⟩
   cases e2:F ρ with
   | stk=>rw[e2]at h;exact h
   | exc x=>rw[e2]at h;exact P.mono h s1
   | ok r2=>rw[e2]at h;exact fun v2 H2 s2 g2=>h v2 H2 (s1.trans s2) (g2.old s1)
  cases k with
  | true=>exact aDl (fin h)
  | false=>exact aC7 (fin h)
end Mir
namespace Mir
open PySem L2
variable {X:Cx}{P:XP}{a b c e:Expr}{es:List Expr}{f g:FE}{fs:FEs}{pos:Pos}
def qR (K:PySem.W.Frag)(H0 H':Hp)(B:Addr->Prop)(J:It)(w:Its):Prop:=∃ A:Addr->Prop,(w.st=true->∀ a,A a->¬ B a) /\
 ∀ (H2:Hp) (B2:Addr->Prop),(∀ a o,A a->H' a=some o->H2 a=some o)->(∀ b o,H' b=some o->¬ B b->H2 b=some o)->(∀ b,B2 b->B b\/H' b=none)->(∀ b,B2 b->∃ o,H2 b=some o)->aD H0 H2->∀ i,
  (w.ds.length<=i->J.stop i H2)/\∀ d,w.ds[i]?=some d->J.go i H2/\∀ x H3,J.yld i H2 x H3->aD H2 H3/\Rep K (aW w.fr H0 H3 B2) d x
def tI (K:PySem.W.Frag)(P:XP)(f:FI):TI:=fun σ H Rq=>∃ H0 B ρ,DenE K H0 H B σ ρ/\match f ρ with
 | .ok w=>∀ J H',aD H H'->qR K H0 H' B J w->Rq J H'
 | .exc x=>P.p x σ H
 | .stk=>False
theorem PI.imp {tg:Expr}{t t':TI}(p:PI X tg e t)(h:∀ σ H Rq,t' σ H Rq->t σ H Rq):PI X tg e t':=fun pins s σ H Rq I q=>p pins s σ H Rq I (h σ H Rq q)
theorem aI.notB {K:PySem.W.Frag}{H0 H H':Hp}{B:Addr->Prop}{v:V}{r:Res}{σ:St}{ρ:Env}{ds:List D}{a:Addr}(den:DenE K H0 H B σ ρ)(g:aI K H0 H H' B v r)(e:r.d=.lst ds)(hv:v=.ref a)(hk:(r.k != .own)=true):¬ B a:=by
 unfold aI at g;cases k:r.k with
 | shr =>
  rw[k,e,hv]at g;obtain⟨a',xs,h1,h2,h3⟩:=g;cases h1;rcases h2 with h | ⟨o,h⟩
  · exact fun z=>(aJ.mp h).1 (.inl z)
  · exact fun z=>(aJ.mp h).1 (.inl z)
 | own=>rw[k]at hk;cases hk
 | old=>rw[k]at g;exact g.elim
 | tmp =>
  rw[k,hv]at g;obtain⟨a',o',h1,h2,_⟩:=g;cases h1;intro z;obtain⟨o,q,_⟩:=den.bnd a z;rw[h2]at q;cases q
theorem gZ {H H2:Hp}{a:Addr}{u:HO}(h:Rd H a u)(k:∀ o,H a=some o->H2 a=some o):Rd H2 a u:=by
 rcases h with h | ⟨o,h⟩
 · exact .inl (k _ h)
 · exact .inr ⟨o,k _ h⟩
theorem yF {K:PySem.W.Frag}{H0 H':Hp}{B:Addr->Prop}{a:Addr}{xs:List V}{ds:List D}{st fr:Bool}(hs:st=true->¬ B a)(h2:Rd H' a (.lst xs))(h3:aL K (aW fr H0 H' B) ds xs):qR K H0 H' B (Itl K a) ⟨st,fr,ds⟩:=by
 refine⟨fun b=>b=a,fun h b z=>by rw[z];exact hs h,fun H2 B2 k1 k2 k3 k4 k5 i=>?_⟩
 have q:SqL K H2 a xs:=.inl (gZ h2 fun o=>k1 a o rfl);refine⟨fun hi=>⟨xs,q,by rw[←h3.length];exact hi⟩,fun d hd=>?_⟩
 obtain⟨v,hv,rv⟩:=h3.get hd;refine⟨⟨xs,v,q,hv⟩,fun x H3 y=>?_⟩
 obtain⟨e,y⟩:=y;subst e;have:=y xs q
 rw[hv]at this;cases this;exact⟨aD.refl _,Rep.same (aS k2 k3) rv⟩
theorem sC {K:PySem.W.Frag}{H0 H':Hp}{B:Addr->Prop}{lo:Int}{n:Nat}:qR K H0 H' B (Itr lo n) ⟨true,true,nY lo n⟩:=by
 refine⟨fun _=>False,fun _ _ z=>z.elim,fun H2 B2 _ _ _ _ _ i=>⟨fun hi=>?_,fun d hd=>?_⟩⟩
 · show n<=i
   simpa[nY] using hi
 · unfold nY at hd
   rw[Be]at hd;cases q:(Bj n)[i]? with
   | none=>rw[q]at hd;cases hd
   | some k =>
    rw[q]at hd;cases hd;obtain⟨q1,q2⟩:=Ao.mp q;have hi:i<n:=by simpa using q1
    have:k=i:=by rw[←q2];simp
    subst this;refine⟨hi,fun x H3 y=>?_⟩
    obtain⟨e1,e2⟩:=y;subst e1;exact⟨aD.refl _,e2⟩
theorem hG {tg:Expr}(ha:PE X a (tE X.K P f)):PI X tg a (tI X.K P (dY f)):=by
 refine PI.imp (aEx ha) ?_
 rintro σ H Rq ⟨H0,B,ρ,d,h⟩
 unfold dY at h;show tE X.K P f σ H fun x H1=>∃ a,x=.ref a/\(∃ xs,SqL X.K H1 a xs)/\Rq (Itl X.K a) H1
 cases e:f ρ with
 | stk=>simp[e]at h
 | exc x=>simp[e]at h;exact eE d e h
 | ok r =>
  cases e1:asL r.d with
  | stk=>simp[e,e1]at h
  | exc x=>exact(eB e1).elim
  | ok ds =>
   simp only[e,e1,R.ok_bind]at h;refine fW d e fun v H' s d' g'=>?_
   obtain⟨a,xs,h1,h2,h3⟩:=g'.list (cW e1);exact⟨a,h1,⟨xs,.inl h2⟩,h _ H' s (yF (fun hk=>g'.notB d (cW e1) h1 hk) h2 h3)⟩
variable {p:Pos}
theorem aD5 {k:List Res->R Its}{σ:St}{H:Hp}{Rq:It->Hp->Prop}{q:List V->Hp->Prop}(h:tI X.K P (fun ρ=>evs fs ρ >>= k) σ H Rq)
 (hk:∀ H0 B ρ vs H' rs,DenE X.K H0 H B σ ρ->DenE X.K H0 H' B σ ρ->dD X.K H0 H H' B vs rs->aD H H'->(match k rs with
  | .ok w=>∀ J H1,aD H' H1->qR X.K H0 H1 B J w->Rq J H1
  | .exc x=>P.p x σ H'
  | .stk=>False)->q vs H'):tAs X.K P fs σ H q:=by
 obtain⟨H0,B,ρ,d,h⟩:=h;refine⟨H0,B,ρ,d,?_⟩
 cases e:evs fs ρ with
 | stk=>simp[e]at h
 | exc x=>simp[e]at h;exact h
 | ok rs =>
  simp only[e,R.ok_bind]at h;intro vs H' s gs;refine hk H0 B ρ vs H' rs d (d.mono s) gs s ?_
  cases e2:k rs with
  | stk=>rw[e2]at h;exact h
  | exc x=>rw[e2]at h;exact P.mono h s
  | ok r1=>rw[e2]at h;exact fun v1 H1 s1 g1=>h v1 H1 (s.trans s1) g1
theorem gX {tg:Expr}(hg:Gl X "range")(hm:X.mg "range" = none)(ha:PE X a (tE X.K P f))(hs:starEach [a] X.env=[(false,eval a X.env)]:=by rfl):PI X tg (.Call (.Name "range" p) [a] [] pos) (tI X.K P (dE f)):=by
 refine PI.imp (yJ hg hm (aA ha aF hs) hs) ?_
 intro σ H Rq h;show tAs X.K P [f] σ H fun vs H1=>∃ j:Int,vs=[.int j]/\-(2^62)<=j/\j<2^62/\Rq (Itr 0 j.toNat) H1
 have e:dE f=fun ρ=>evs [f] ρ >>= fun rs=>match rs with | [x]=>(asI x.d >>= fun j=>if -(2^62)<=j/\j<2^62 then .ok ⟨true,true,nY 0 j.toNat⟩ else .stk) | _=>.stk:=by
  funext ρ
  unfold dE evs;cases f ρ with
  | ok r=>rfl
  | _=>rfl
 rw[e]at h;refine aD5 h ?_
 intro H0 B ρ vs H' rs d0 d gs s h;match vs,rs,gs with
 | [],rs,gs=>have e:rs=[]:=gs;subst e;exact h.elim
 | [v],_,⟨r,rr,e1,g1,g2⟩ =>
  subst e1;rw[show rr=[] from g2]at h
  cases e2:asI r.d with
  | stk=>simp[e2]at h
  | exc x=>exact(cM e2).elim
  | ok j =>
   simp only[e2,R.ok_bind]at h;by_cases hj:-(2^62)<=j/\j<2^62
   · rw[if_pos hj]at h
     exact⟨j,by rw[g1.int (dA e2)],hj.1,hj.2,h _ H' (aD.refl _) sC⟩
   · rw[if_neg hj]at h;exact h.elim
 | v :: w :: _,_,⟨r,rr,e1,g1,r2,rr2,e2,g2⟩ =>
  subst e1;subst e2;exact h.elim
theorem two {k:Res->Res->R Its}{F:FI}(hF:F=fun ρ=>f ρ >>= fun x=>g ρ >>= fun y=>k x y){σ:St}{H:Hp}{Rq:It->Hp->Prop}{q:List V->Hp->Prop}(h:tI X.K P F σ H Rq)
 (hk:∀ H0 B ρ v w H' r r',DenE X.K H0 H B σ ρ->DenE X.K H0 H' B σ ρ->aI X.K H0 H H' B v r->aI X.K H0 H H' B w r'->aD H H'->(match k r r' with
  | .ok w=>∀ J H1,aD H' H1->qR X.K H0 H1 B J w->Rq J H1
  | .exc x=>P.p x σ H'
  | .stk=>False)->q [v,w] H'):tAs X.K P [f,g] σ H q:=by
 have e:F=fun ρ=>evs [f,g] ρ >>= fun rs=>match rs with | [x,y]=>k x y | _=>.stk:=by
  rw[hF];funext ρ
  unfold evs evs;cases f ρ with
  | ok r =>
   show (g ρ >>= fun y=>k r y)=_
   cases g ρ with
   | ok r'=>rfl
   | _=>rfl
  | _=>rfl
 rw[e]at h;refine aD5 h ?_
 intro H0 B ρ vs H' rs d0 d gs s h;match vs,rs,gs with
 | [],rs,gs=>have e:rs=[]:=gs;subst e;exact h.elim
 | [v],_,⟨r,rr,e1,g1,g2⟩ =>
  subst e1;rw[show rr=[] from g2]at h
  exact h.elim
 | [v,w],_,⟨r,rr,e1,g1,r2,rr2,e2,g2,g3⟩ =>
  subst e1;subst e2;rw[show rr2=[] from g3]at h
  exact hk H0 B ρ v w H' r r2 d0 d g1 g2 s h
 | _ :: _ :: _ :: _,_,⟨r,rr,e1,g1,r2,rr2,e2,g2,r3,rr3,e3,_⟩ =>
  subst e1;subst e2;subst e3;exact h.elim
theorem aEu {tg:Expr}(hg:Gl X "range")(hm:X.mg "range" = none)(ha:PE X a (tE X.K P f))(hb:PE X b (tE X.K P g))(hs:starEach [a,b] X.env=[(false,eval a X.env),(false,eval b X.env)]:=by rfl)(hs2:starEach [b] X.env=[(false,eval b X.env)]:=by rfl) :
 PI X tg (.Call (.Name "range" p) [a,b] [] pos) (tI X.K P (nX f g)):=by
 refine PI.imp (zE hg hm (aA ha (aA hb aF hs2) (by rw[hs,hs2])) hs hs2) ?_
 intro σ H Rq h;refine two rfl h ?_
 intro H0 B ρ v w H' r r' d0 d g1 g2 s h;cases e1:asI r.d with
 | stk=>simp[e1]at h
 | exc x=>exact(cM e1).elim
 | ok i =>
  cases e2:asI r'.d with
  | stk=>simp[e1,e2]at h
  | exc x=>exact(cM e2).elim
  | ok j =>
   simp only[e1,e2,R.ok_bind]at h;by_cases hj:-(2^62)<=i/\i<2^62/\-(2^62)<=j/\j<2^62
   · rw[if_pos hj]at h
     exact⟨i,j,by rw[g1.int (dA e1),g2.int (dA e2)],hj,h _ H' (aD.refl _) sC⟩
   · rw[if_neg hj]at h;exact h.elim
theorem aAe {K:PySem.W.Frag}{H0 H':Hp}{B:Addr->Prop}{a b:Addr}{xs ys:List V}{ds es:List D}{st fr fr':Bool}(hs:st=true->¬ B a/\¬ B b)(h2:Rd H' a (.lst xs))(k2:Rd H' b (.lst ys))
 (h3:aL K (aW fr H0 H' B) ds xs) (k3:aL K (aW fr' H0 H' B) es ys):qR K H0 H' B (Itz K a b) ⟨st,fr&&fr',uD ds es⟩:=by
 refine⟨fun c=>c=a\/c=b,fun h c z=>by rcases z with z | z<;>rw[z];exact(hs h).1;exact(hs h).2,fun H2 B2 j1 j2 j3 j4 j5 i=>?_⟩
 have q1:SqL K H2 a xs:=.inl (gZ h2 fun o=>j1 a o (.inl rfl));have q2:SqL K H2 b ys:=.inl (gZ k2 fun o=>j1 b o (.inr rfl));have l1:=h3.length;have l2:=k3.length;refine⟨fun hi=>⟨xs,ys,q1,q2,?_⟩,fun d hd=>?_⟩
 · simp[uD]at hi;omega
 · unfold uD at hd
   rw[Ef]at hd;cases e1:ds[i]? with
   | none=>rw[e1]at hd;cases hd
   | some d1 =>
    cases e2:es[i]? with
    | none=>rw[e1,e2]at hd;cases hd
    | some d2 =>
     rw[e1,e2]at hd;cases hd;obtain⟨v,hv,rv⟩:=h3.get e1;obtain⟨w,hw,rw'⟩:=k3.get e2;refine⟨⟨xs,ys,v,w,q1,q2,hv,hw⟩,fun x H3 y=>?_⟩
     obtain⟨t,x1,y1,e3,e4,e5,y2,y3⟩:=y;have z1:=y2 xs q1;have z2:=y3 ys q2;rw[hv]at z1;cases z1;rw[hw]at z2;cases z2;subst e3;subst e5;refine⟨aD.upd_new e4,t,[v,w],rfl,aJ.mpr ⟨fun z=>?_,bC⟩,v,[w],rfl,?_,w,[],rfl,?_,rfl⟩
     · rcases z with z | ⟨_,o,z,_⟩
       · obtain⟨o,q⟩:=j4 t z;rw[e4]at q;cases q
       · rw[j5 _ _ z]at e4;cases e4
     · have m:aD (aW fr H0 H' B) (aW fr H0 (upd H2 t (.tup [v,w])) B2):=aS (fun b o q n=>aD.upd_new e4 b o (j2 b o q n)) j3
       have:=(aL.one (Rep.same m rv)).andL (fr':=fr')
       obtain⟨_,_,z1,z2,_⟩:=this;cases z1;exact z2
     · have m:aD (aW fr' H0 H' B) (aW fr' H0 (upd H2 t (.tup [v,w])) B2):=aS (fun b o q n=>aD.upd_new e4 b o (j2 b o q n)) j3
       have:=(aL.one (Rep.same m rw')).andR (fr:=fr)
       obtain⟨_,_,z1,z2,_⟩:=this;cases z1;exact z2
theorem wE {ts:List Expr}{k:Nat}{tp:Pos}(hc:X.calm=true)(hg:Gl X "zip")(hm:X.mg "zip" = none)(ha:PE X a (tE X.K P f))(hb:PE X b (tE X.K P g))(hs:starEach [a,b] X.env=[(false,eval a X.env),(false,eval b X.env)]:=by rfl)(hs2:starEach [b] X.env=[(false,eval b X.env)]:=by rfl) :
 PI X (.Tuple ts k tp) (.Call (.Name "zip" p) [a,b] [] pos) (tI X.K P (qO f g)):=by
 refine PI.imp (aG5 hc hg hm (aA ha (aA hb aF hs2) (by rw[hs,hs2])) hs hs2) ?_
 intro σ H Rq h;refine two rfl h ?_
 intro H0 B ρ v w H' r r' d0 d g1 g2 s h;cases e1:asL r.d with
 | stk=>simp[e1]at h
 | exc x=>exact(eB e1).elim
 | ok xs =>
  cases e2:asL r'.d with
  | stk=>simp[e1,e2]at h
  | exc x=>exact(eB e2).elim
  | ok ys =>
   simp only[e1,e2,R.ok_bind]at h;obtain⟨a1,xs1,h1,h2,h3⟩:=g1.list (cW e1);obtain⟨a2,xs2,k1,k2,k3⟩:=g2.list (cW e2);refine⟨a1,a2,by rw[h1,k1],⟨xs1,.inl h2⟩,⟨xs2,.inl k2⟩,h _ H' (aD.refl _) (aAe (fun hk=>?_) h2 k2 h3 k3)⟩
   rw[Bm]at hk;exact⟨g1.notB d0 (cW e1) h1 hk.1,g2.notB d0 (cW e2) k1 hk.2⟩
end Mir
namespace Mir
open PySem L2
variable {X:Cx}{P:XP}{a b c e:Expr}{es:List Expr}{f g:FE}{fs:FEs}{pos:Pos}
mutual
def gOf (K:PySem.W.Frag):Tg->TG
 | .nm i=>tM i
 | .tp ts=>aEj K ts.length (iG K ts)
def iG (K:PySem.W.Frag):List Tg->TGs
 | []=>aC5
 | t :: ts=>wU (gOf K t) (iG K ts)
end
theorem pV {fr:Bool}:∀ (ts:List Tg) (ds:List D) (ρ ρ':Env),Tg.binds fr ts ds ρ=.ok ρ'->ds.length=ts.length
 | [],ds,ρ,ρ',e=>by
  cases ds with
  | nil=>rfl
  | cons d ds=>simp[Tg.binds]at e
 | t :: ts,ds,ρ,ρ',e=>by
  cases ds with
  | nil=>simp[Tg.binds]at e
  | cons d ds =>
   simp only[Tg.binds]at e;cases e1:Tg.bind fr t d ρ with
   | stk=>simp[e1]at e
   | exc x=>simp[e1]at e
   | ok ρ1 =>
    simp only[e1,R.ok_bind]at e;simp[pV ts ds ρ1 ρ' e]
section
variable {K:PySem.W.Frag}{G H:Hp}{fr:Bool}{I:St->Env->Prop}
mutual
theorem qG (sub:aD G H)(hI:∀ σ ρ i d v,I σ ρ->Rep K G d v->I (σ.set i (some v)) (ρ.set i (some ⟨.shr,fr,d⟩))):∀ (t:Tg) (d:D) (v:V) (σ:St) (ρ ρ':Env) (Q:St->Hp->Prop),Tg.bind fr t d ρ=.ok ρ'->Rep K G d v->I σ ρ->(∀ σ',I σ' ρ'->Q σ' H)->gOf K t v σ H Q
 | .nm i,d,v,σ,ρ,ρ',Q,e,r,i0,q=>by
  unfold gOf;simp only[Tg.bind]at e;cases e;exact q _ (hI σ ρ i d v i0 r)
 | .tp ts,d,v,σ,ρ,ρ',Q,e,r,i0,q=>by
  unfold gOf;cases d with
  | tup ds =>
   simp only[Tg.bind]at e;obtain⟨a,xs,h1,h2,h3⟩:=r;have:=sL sub hI ts ds xs σ ρ ρ' Q e h3 i0 q
   exact⟨a,xs,h1,.inl (.inl (sub _ _ h2)),by rw[←h3.length];exact this.2,this.1⟩
  | _=>simp[Tg.bind]at e
theorem sL (sub:aD G H)(hI:∀ σ ρ i d v,I σ ρ->Rep K G d v->I (σ.set i (some v)) (ρ.set i (some ⟨.shr,fr,d⟩))):∀ (ts:List Tg) (ds:List D) (vs:List V) (σ:St) (ρ ρ':Env) (Q:St->Hp->Prop),Tg.binds fr ts ds ρ=.ok ρ'->aL K G ds vs->I σ ρ->(∀ σ',I σ' ρ'->Q σ' H)->iG K ts vs σ H Q/\ds.length=ts.length
 | [],ds,vs,σ,ρ,ρ',Q,e,r,i0,q=>by
  cases ds with
  | nil =>
   simp only[Tg.binds]at e;cases e;exact⟨by unfold iG;exact⟨r,q σ i0⟩,rfl⟩
  | cons d ds=>simp[Tg.binds]at e
 | t :: ts,ds,vs,σ,ρ,ρ',Q,e,r,i0,q=>by
  cases ds with
  | nil=>simp[Tg.binds]at e
  | cons d ds =>
   simp only[Tg.binds]at e;obtain⟨x,xr,h1,h2,h3⟩:=r;cases e1:Tg.bind fr t d ρ with
   | stk=>simp[e1]at e
   | exc x=>simp[e1]at e
   | ok ρ1 =>
    simp only[e1,R.ok_bind]at e;have len:=pV ts ds ρ1 ρ' e;refine⟨?_,by simp[len]⟩
    unfold iG;exact⟨x,xr,h1,qG sub hI t d x σ ρ ρ1 _ e1 h2 i0 fun σ' i1=>(sL sub hI ts ds xr σ' ρ1 ρ' Q e h3 i1 q).1⟩
end
end
theorem jT.to {K:PySem.W.Frag}{H0 H H':Hp}{B B':Addr->Prop}{v:V}{r:Res}(sm:aD H0 H)(g:jT K H0 H B v r)(k:∀ b o,H b=some o->¬ B b->H' b=some o)(ko:∀ b o,H b=some o->B b->r.k=.own->v=.ref b->H' b=some o/\B' b)(h:∀ b,B' b->B b\/H b=none):jT K H0 H' B' v r:=by
 unfold jT at g ⊢;have m:∀ fr,aD (aW fr H0 H B) (aW fr H0 H' B'):=fun fr=>aS k h;cases e:r.k with
 | shr=>rw[e]at g;exact Rep.same (m _) g
 | own =>
  rw[e]at g;obtain⟨a,o,h1,h2,h3,h4,h5⟩:=g;obtain⟨q1,q2⟩:=ko a _ h4 h2 e h1;exact⟨a,o,h1,q2,h3,q1,h5.same (m _)⟩
 | tmp=>rw[e]at g;exact g
 | old=>rw[e]at g;exact⟨g.1,Rep.same (dN (fun _ _ q _=>q) fun b z=>(h b z).imp id fun q=>sm.none q) g.2⟩
theorem DenE.to {K:PySem.W.Frag}{H0 H H':Hp}{B B':Addr->Prop}{σ:St}{ρ:Env}(d:DenE K H0 H B σ ρ)(s:aD H H')(hB:∀ b,B b->B' b)(h:∀ b,B' b->B b\/H b=none)(bnd:∀ b,B' b->∃ o,H' b=some o/\stab o=false):DenE K H0 H' B' σ ρ :=
 ⟨d.len,d.sam.trans s,bnd,fun i e he=>let ⟨v,a,g⟩:=d.ent i e he;⟨v,a,g.to d.sam (fun b o q _=>s b o q) (fun b o q q2 _ _=>⟨s b o q,hB b q2⟩) h⟩⟩
theorem DenE.set {K:PySem.W.Frag}{H0 H:Hp}{B:Addr->Prop}{σ:St}{ρ:Env}{i:Nat}{v:V}{r:Res}(d:DenE K H0 H B σ ρ)(g:jT K H0 H B v r):DenE K H0 H B (σ.set i (some v)) (ρ.set i (some r)):=by
 refine⟨by rw[Az,Az];exact d.len,d.sam,d.bnd,fun j e he=>?_⟩
 by_cases hj:i=j
 · subst hj
   by_cases hi:i<ρ.length
   · rw[Al hi]at he
     cases he;exact⟨v,Al (by rw[←d.len];exact hi),g⟩
   · rw[Ce (by rw[Az];omega)]at he
     cases he
 · rw[Ai hj]at he
   obtain⟨w,q1,q2⟩:=d.ent j e he;exact⟨w,by rw[Ai hj];exact q1,q2⟩
theorem DenE.comp {K:PySem.W.Frag}{H0 H:Hp}{B:Addr->Prop}{σ:St}{ρ:Env}(d:DenE K H0 H B σ ρ)(k:Nat)(fs:List Nat):DenE K H0 H B (dW k fs σ) (eG k fs ρ):=by
 refine⟨by simp[dW,eG],d.sam,d.bnd,fun i e he=>?_⟩
 unfold eG at he;unfold dW;by_cases hi:i<k
 · rw[Bx (by simpa using hi),Dc,if_pos hi]at he
   cases he
 · rw[Ar (by simpa using hi),Cd,Be]at he
   rw[Ar (by simpa using hi),Cd,Be]
   cases q:fs[i-k]? with
   | none=>rw[q]at he;cases he
   | some j =>
    rw[q]at he;simp only[Dy,Ca.injEq]at he ⊢
    have he':ρ[j]?=some (some e):=by
     cases z:ρ[j]? with
     | none=>rw[z]at he;cases he
     | some y=>rw[z]at he;simp at he;rw[he]
    obtain⟨v,q1,q2⟩:=d.ent j e he';exact⟨v,by rw[q1];rfl,q2⟩
def tBm (K:PySem.W.Frag)(P:XP)(f:FB):St->Hp->(Option V->Hp->Prop)->Prop:=fun σ H Q=>∃ H0 B ρ,DenE K H0 H B σ ρ/\match f ρ with
 | .ok (some r)=>∀ v H',aD H H'->aI K H0 H H' B v r->Q (some v) H'
 | .ok none=>∀ H',aD H H'->Q none H'
 | .exc x=>P.p x σ H
 | .stk=>False
theorem PB.imp {ifs:List Expr}{t t':St->Hp->(Option V->Hp->Prop)->Prop}(p:PB X ifs e t)(h:∀ σ H Q,t' σ H Q->t σ H Q):PB X ifs e t':=fun pins s σ H Q I q=>p pins s σ H Q I (h σ H Q q)
theorem eA (he:PE X e (tE X.K P f)):PB X [] e (tBm X.K P (bE f)):=by
 refine PB.imp (aHo he) ?_
 rintro σ H Q ⟨H0,B,ρ,d,h⟩
 unfold bE at h;show tE X.K P f σ H fun v H'=>Q (some v) H'
 cases e1:f ρ with
 | stk=>simp[e1]at h
 | exc x=>simp[e1]at h;exact eE d e1 h
 | ok r=>simp only[e1,R.ok_bind]at h;exact fW d e1 fun v H' s d' g'=>h v H' s g'
theorem aAu {t:FT}(hc:PT X c (tT X.K P t))(he:PE X e (tE X.K P f)):PB X [c] e (tBm X.K P (Mir.bIf t f)):=by
 refine PB.imp (aIy hc he) ?_
 rintro σ H Q ⟨H0,B,ρ,d,h⟩
 unfold Mir.bIf at h;show tT X.K P t σ H fun b H1=>if b=true then tE X.K P f σ H1 fun v H'=>Q (some v) H' else Q none H1
 refine⟨H0,B,ρ,d,?_⟩
 cases e1:t ρ with
 | stk=>simp[e1]at h
 | exc x=>simp[e1]at h;exact h
 | ok k =>
  simp only[e1,R.ok_bind]at h;intro H1 s1;cases k with
  | false=>exact aC7 (h H1 s1)
  | true =>
   refine aDl ⟨H0,B,ρ,d.mono s1,?_⟩
   rw[if_pos rfl]at h;cases e2:f ρ with
   | stk=>simp[e2]at h
   | exc x=>simp[e2]at h;exact P.mono h s1
   | ok r=>simp only[e2,R.ok_bind]at h;exact fun v H' s g'=>h v H' (s1.trans s) (g'.old s1)
theorem uL {fr:Bool}{x:Xc}:∀ (t:Tg) (d:D) (ρ:Env),Tg.bind fr t d ρ=.exc x->False:=by
 have hs:∀ (n:Nat),(∀ (t:Tg) (d:D) (ρ:Env),sizeOf t<=n->Tg.bind fr t d ρ=.exc x->False)/\(∀ (ts:List Tg) (ds:List D) (ρ:Env),sizeOf ts<=n->Tg.binds fr ts ds ρ=.exc x->False):=by
  intro n;induction n with
  | zero =>
   refine⟨fun t d ρ h=>?_,fun ts ds ρ h=>?_⟩
   · cases t<;>simp at h
   · cases ts<;>simp at h
  | succ n ih =>
   refine⟨fun t d ρ h e=>?_,fun ts ds ρ h e=>?_⟩
   · cases t with
     | nm i=>simp[Tg.bind]at e
     | tp ts =>
      cases d with
      | tup ds=>simp only[Tg.bind]at e;exact ih.2 ts ds ρ (by simp at h;omega) e
      | _=>simp[Tg.bind]at e
   · cases ts with
     | nil=>cases ds<;>simp[Tg.binds]at e
     | cons t ts =>
      cases ds with
      | nil=>simp[Tg.binds]at e
      | cons d ds =>
       simp only[Tg.binds]at e;simp at h
       cases e1:Tg.bind fr t d ρ with
       | stk=>simp[e1]at e
       | exc y=>simp[e1]at e;subst e;exact ih.1 t d ρ (by omega) e1
       | ok ρ1=>simp only[e1,R.ok_bind]at e;exact ih.2 ts ds ρ1 (by omega) e
 exact fun t d ρ e=>(hs (sizeOf t)).1 t d ρ (An _) e
theorem mR {tg:Tg}{fb:FB}{fr:Bool}{ρ:Env}{x:Xc}:∀ {ds:List D},fN tg fb fr ρ ds=.exc x->False
 | [],e=>by simp[fN]at e
 | d :: r,e=>by
  simp only[fN]at e;cases e1:tg.bind fr d ρ with
  | stk=>simp[e1]at e
  | exc y=>exact uL _ _ _ e1
  | ok ρ1 =>
   simp only[e1,R.ok_bind]at e;cases e2:fb ρ1 with
   | stk=>simp[e2]at e
   | exc y=>simp[e2]at e
   | ok o =>
    cases o with
    | none=>simp only[e2]at e;exact mR e
    | some r' =>
     simp only[e2]at e;cases e3:r'.give with
     | stk=>simp[e3]at e
     | exc y=>unfold Res.give at e3;split at e3<;>cases e3
     | ok z =>
      simp only[e3,R.ok_bind]at e;cases e4:fN tg fb fr ρ r with
      | stk=>simp[e4]at e
      | exc y=>exact mR e4
      | ok z=>simp[e4]at e
theorem zV {K:PySem.W.Frag}{H0 H H1:Hp}{B:Addr->Prop}{σ:St}{ρ:Env}{J:It}{w:Its}{k:Nat}{fs:List Nat}{tg:Tg}{fb:FB}{y:Bool×List D}{acc:Addr}{Qf:Hp->Prop}
 (d:DenE K H0 H B σ ρ) (s1:aD H H1) (hw:qR K H0 H1 B J w) (e:fN tg fb w.fr (eG k fs ρ) w.ds=.ok y) (hz:w.ds.length<=sizeLine) (hacc:H1 acc=none)
 (hq:∀ H2,aD H H2->aI K H0 H H2 B (.ref acc) ⟨.tmp,y.1,.lst y.2⟩->Qf H2):qU J k fs (gOf K tg) (tBm K XP0 fb) σ acc Qf H1:=by
 obtain⟨A,hst,hwk⟩:=hw;have hacc0:H acc=none:=s1.none hacc;have nB:¬ B acc:=fun z=>by obtain⟨o,q,_⟩:=d.bnd acc z;rw[hacc0]at q;cases q
 refine⟨fun i m ys H2=>m=w.ds.length-i/\i<=w.ds.length/\ys.length<=i/\aD H1 H2/\H2 acc=some (.lst ys)/\∃ es1 esS frS,y.2=es1++esS/\fN tg fb w.fr (eG k fs ρ) (w.ds.drop i)=.ok (frS,esS)/\(y.1=true->frS=true) /\
  aL K (aW y.1 H0 H2 fun b=>B b\/b=acc) es1 ys,⟨w.ds.length,rfl,Cq _,An _,aD.upd_new hacc,bC,[],y.2,y.1,rfl,e,fun h=>h,rfl⟩,?_⟩
 rintro i m ys H2 ⟨hm,hi,hys,s2,ha2,es1,esS,frS,hy,hS,hfr,hR⟩
 refine⟨ha2,?_⟩
 have sH2:=s1.trans s2
 have bnd2:∀ b,(B b\/b=acc)->∃ o,H2 b=some o/\stab o=false:=fun b z=>by
  rcases z with z | z
  · obtain⟨o,q,n⟩:=d.bnd b z
    exact⟨o,sH2 _ _ q,n⟩
  · exact⟨_,by rw[z];exact ha2,rfl⟩
 have cond:∀ b,(B b\/b=acc)->B b\/H1 b=none:=fun b z=>z.imp id fun z=>by rw[z];exact hacc
 have cond0:∀ b,(B b\/b=acc)->B b\/H b=none:=fun b z=>z.imp id fun z=>by rw[z];exact hacc0
 have wk:=hwk H2 (fun b=>B b\/b=acc) (fun a o _ q=>s2 _ _ q) (fun b o q _=>s2 _ _ q) cond (fun b z=>let ⟨o,q,_⟩:=bnd2 b z;⟨o,q⟩) (d.sam.trans sH2) i
 by_cases hlt:i<w.ds.length
 · refine .inr ?_
   have hd:w.ds[i]?=some w.ds[i]:=Ax hlt;obtain⟨go,yl⟩:=wk.2 _ hd;refine⟨go,Ex hys (Ac hlt hz),fun x H3 y3=>?_⟩
   obtain⟨s3,rx⟩:=yl x H3 y3;rw[List.drop_eq_getElem_cons hlt]at hS;simp only[fN]at hS
   have den3:DenE K H0 H3 (fun b=>B b\/b=acc) (dW k fs σ) (eG k fs ρ) :=
    (d.to (sH2.trans s3) (fun b z=>.inl z) cond0 fun b z=>let ⟨o,q,n⟩:=bnd2 b z;⟨o,s3 _ _ q,n⟩).comp k fs
   cases e1:tg.bind w.fr w.ds[i] (eG k fs ρ) with
   | stk=>simp[e1]at hS
   | exc x=>simp[e1]at hS
   | ok ρ1 =>
    simp only[e1,R.ok_bind]at hS;refine qG (G:=aW w.fr H0 H3 fun b=>B b\/b=acc) (fr:=w.fr) (I:=fun σ' ρ'=>DenE K H0 H3 (fun b=>B b\/b=acc) σ' ρ') fG (fun σ' ρ' i d' v' D r=>D.set r) tg _ x _ _ ρ1 _ e1 rx den3 fun σ4 den4=>?_
    refine⟨H0,_,ρ1,den4,?_⟩
    cases e2:fb ρ1 with
    | stk=>simp[e2]at hS
    | exc x=>simp[e2]at hS
    | ok o =>
     cases o with
     | none =>
      simp only[e2]at hS;intro H5 s5;refine⟨w.ds.length-(i+1),by omega,rfl,hlt,by omega,(s2.trans s3).trans s5,s5 _ _ (s3 _ _ ha2),es1,esS,frS,hy,hS,hfr,aL.same (aS (fun b o q _=>s5 _ _ (s3 _ _ q)) fun b z=>.inl z) hR⟩
     | some r =>
      simp only[e2]at hS;cases e3:r.give with
      | stk=>simp[e3]at hS
      | exc x=>simp[e3]at hS
      | ok r' =>
       simp only[e3,R.ok_bind]at hS;cases e4:fN tg fb w.fr (eG k fs ρ) (w.ds.drop (i+1)) with
       | stk=>simp[e4]at hS
       | exc x=>simp[e4]at hS
       | ok z =>
        simp only[e4,R.ok_bind]at hS;cases hS;intro v H5 s5 g5;obtain⟨q1,q2⟩:=g5.give den4 e3;subst q1;refine⟨s5 _ _ (s3 _ _ ha2),w.ds.length-(i+1),by omega,rfl,hlt,by simp;omega,?_,bC,es1++[r.d],z.2,z.1,by rw[hy];simp,e4,fun h=>?_,?_⟩
        · intro b o q
          rw[aR (bJ q hacc)];exact s5 _ _ (s3 _ _ (s2 _ _ q))
        · have:=hfr h
          simp at this
          exact this.2
        · have m:∀ fr,aD (aW fr H0 H5 fun b=>B b\/b=acc) (aW fr H0 (upd H5 acc (.lst (ys++[v]))) fun b=>B b\/b=acc):=fun fr=>aS (fun b o q n=>by rw[aR (fun z=>n (.inr z))];exact q) fun b z=>.inl z
          have m2:aD (aW y.1 H0 H2 fun b=>B b\/b=acc) (aW y.1 H0 H5 fun b=>B b\/b=acc):=aS (fun b o q _=>s5 _ _ (s3 _ _ q)) fun b z=>.inl z;refine aL.append (aL.same (m _) (aL.same m2 hR)) (aL.one (Rep.same (m _) ?_))
          cases hy1:y.1 with
          | false=>exact Rep.same gT q2
          | true =>
           have:=hfr hy1
           simp at this
           rw[this.1]at q2;exact q2
 · have hi':i=w.ds.length:=by omega
   refine .inl ⟨wk.1 (by omega),hq H2 sH2 ⟨acc,_,rfl,hacc0,ha2,.lst ?_⟩⟩
   rw[De (by omega)]at hS
   simp only[fN]at hS;cases hS;rw[hy,Dz];exact hR
variable {scope:Scope}{N:List Str}{k:Nat}{cs:List Nat}{tg iter elt:Expr}{ifs:List Expr}{t:Tg}{it:FI}{fb:FB}
theorem aBv (σ:St)(H:Hp)(Q:VK)(h:tE X.K P (bB it k cs t fb) σ H Q):aF1 (tI X.K P it) k cs (gOf X.K t) (tBm X.K XP0 fb) σ H Q:=by
 obtain⟨H0,B,ρ,d,h⟩:=h;unfold bB at h;refine⟨H0,B,ρ,d,?_⟩
 cases e:it ρ with
 | stk=>simp[e]at h
 | exc x=>simp[e]at h;exact h
 | ok w =>
  simp only[e,R.ok_bind]at h;intro J H1 s1 hw acc hacc;cases e2:fN t fb w.fr (eG k cs ρ) w.ds with
  | stk=>simp[e2]at h
  | exc x=>exact(mR e2).elim
  | ok y =>
   simp only[e2,R.ok_bind]at h;by_cases hz:w.ds.length<=sizeLine
   · rw[if_pos hz]at h
     exact zV d s1 hw e2 hz hacc fun H2 s2 g2=>h _ H2 s2 g2
   · rw[if_neg hz]at h;exact h.elim
theorem eR (hc:X.calm=true)(C:CompOk X scope N k cs)(hi:PI X tg iter (tI X.K P it))(hg:∀ fp s H,PG (cG X scope N fp s H) tg (gOf X.K t))(gl:rC k (gOf X.K t))(hb:∀ fp s H,PB (cG X scope N fp s H) ifs elt (tBm X.K XP0 fb))
 (hs:∀ x,foldedSetIterable iter X.env x=pure x:=by intro _;rfl):PE X (.ListComp elt [⟨tg,iter,ifs,0⟩] scope pos) (tE X.K P (bB it k cs t fb)) :=
 PE.imp (aEz hc C hi hg gl hb hs) aBv
end Mir
namespace Mir
open PySem L2
variable {X:Cx}{P:XP}{a b c e:Expr}{es:List Expr}{f g:FE}{fs:FEs}{pos:Pos}
def dI (σ:St)(ρ:Env)(i:Nat)(a:Addr):Prop:=σ[i]?=some (some (.ref a))/\∃ e,ρ[i]?=some (some e)/\e.k=.own
def iE (σ:St)(ρ:Env)(a:Addr):Prop:=∃ i,dI σ ρ i a
abbrev Bs (T:Addr->Prop)(σ:St)(ρ:Env):Addr->Prop:=fun a=>iE σ ρ a\/T a
structure DenS (K:PySem.W.Frag)(H0 H:Hp)(T:Addr->Prop)(σ:St)(ρ:Env):Prop where
 e:DenE K H0 H (Bs T σ ρ) σ ρ
 sep:∀ a,iE σ ρ a->¬ T a
 dis:∀ i j a,dI σ ρ i a->dI σ ρ j a->i=j
structure Ext (H:Hp)(σ:St)(ρ:Env)(H':Hp)(σ':St)(ρ':Env):Prop where
 kp:∀ b o,H b=some o->¬ iE σ ρ b->H' b=some o
 ow:∀ b,iE σ' ρ' b->iE σ ρ b\/H b=none
section
variable {K:PySem.W.Frag}{H0 H H' H'':Hp}{T:Addr->Prop}{σ σ' σ'':St}{ρ ρ' ρ'':Env}
theorem Ext.refl:Ext H σ ρ H σ ρ:=⟨fun _ _ h _=>h,fun _ h=>.inl h⟩
theorem Ext.trans (x:Ext H σ ρ H' σ' ρ')(y:Ext H' σ' ρ' H'' σ'' ρ''):Ext H σ ρ H'' σ'' ρ'':=by
 refine⟨fun b o h n=>y.kp b o (x.kp b o h n) fun z=>?_,fun b z=>?_⟩
 · rcases x.ow b z with q | q
   · exact n q
   · rw[h]at q;cases q
 · rcases y.ow b z with q | q
   · exact x.ow b q
   · cases e:H b with
     | none=>exact .inr rfl
     | some o =>
      by_cases hb:iE σ ρ b
      · exact .inl hb
      · rw[x.kp b o e hb]at q;cases q
theorem Ext.same (s:aD H H'):Ext H σ ρ H' σ ρ:=⟨fun b o h _=>s b o h,fun _ h=>.inl h⟩
theorem DenS.mono (d:DenS K H0 H T σ ρ)(s:aD H H'):DenS K H0 H' T σ ρ:=⟨d.e.mono s,d.sep,d.dis⟩
theorem eI {i j:Nat}{v:V}{r:Res}{a:Addr}(h:dI (σ.set i (some v)) (ρ.set i (some r)) j a):(j=i/\v=.ref a/\r.k=.own)\/(j≠i/\dI σ ρ j a):=by
 obtain⟨h1,e,h2,h3⟩:=h;by_cases hj:i=j
 · subst hj
   by_cases hi:i<σ.length
   · rw[Al hi]at h1
     cases h1;by_cases hr:i<ρ.length
     · rw[Al hr]at h2;cases h2
       exact .inl ⟨rfl,rfl,h3⟩
     · rw[Ce (by rw[Az];omega)]at h2;cases h2
   · rw[Ce (by rw[Az];omega)]at h1;cases h1
 · rw[Ai hj]at h1 h2
   exact .inr ⟨fun z=>hj z.symm,h1,e,h2,h3⟩
theorem nZ {i j:Nat}{v:V}{r:Res}{a:Addr}(h:dI σ ρ j a)(hj:j≠i):dI (σ.set i (some v)) (ρ.set i (some r)) j a:=by
 obtain⟨h1,e,h2,h3⟩:=h;exact⟨by rw[Ai (Ne.symm hj)];exact h1,e,by rw[Ai (Ne.symm hj)];exact h2,h3⟩
theorem DenS.set_shr {i:Nat}{v:V}{fr:Bool}{dd:D}(d:DenS K H0 H T σ ρ)(r:Rep K (aW fr H0 H (Bs T σ ρ)) dd v):DenS K H0 H T (σ.set i (some v)) (ρ.set i (some ⟨.shr,fr,dd⟩))/\∀ a,iE (σ.set i (some v)) (ρ.set i (some ⟨.shr,fr,dd⟩)) a->iE σ ρ a:=by
 have sub:∀ a,iE (σ.set i (some v)) (ρ.set i (some ⟨.shr,fr,dd⟩)) a->iE σ ρ a:=fun a ⟨j,h⟩=>by
  rcases eI h with ⟨_,_,h⟩ | ⟨_,h⟩
  · cases h
  · exact⟨j,h⟩
 have subB:∀ a,Bs T (σ.set i (some v)) (ρ.set i (some ⟨.shr,fr,dd⟩)) a->Bs T σ ρ a:=fun a z=>z.imp (sub a) id;refine⟨⟨⟨by rw[Az,Az];exact d.e.len,d.e.sam,fun b z=>d.e.bnd b (subB b z),fun j e he=>?_⟩,fun a z=>d.sep a (sub a z),fun j k a h1 h2=>?_⟩,sub⟩
 · by_cases hj:i=j
   · subst hj
     by_cases hi:i<ρ.length
     · rw[Al hi]at he
       cases he;exact⟨v,Al (by rw[←d.e.len];exact hi),Rep.same (aS (fun _ _ q _=>q) fun b z=>.inl (subB b z)) r⟩
     · rw[Ce (by rw[Az];omega)]at he;cases he
   · rw[Ai hj]at he
     obtain⟨w,q1,q2⟩:=d.e.ent j e he;refine⟨w,by rw[Ai hj];exact q1,q2.to d.e.sam (fun _ _ q _=>q) (fun b o q _ k1 k2=>⟨q,.inl ⟨j,nZ ⟨by rw[q1,k2],e,he,k1⟩ (fun z=>hj z.symm)⟩⟩) fun b z=>.inl (subB b z)⟩
 · rcases eI h1 with ⟨_,_,h⟩ | ⟨_,h1⟩
   · cases h
   · rcases eI h2 with ⟨_,_,h⟩ | ⟨_,h2⟩
     · cases h
     · exact d.dis j k a h1 h2
theorem DenS.set_con {i:Nat}{a:Addr}{o:HO}{dd:D}{fr:Bool}(d:DenS K H0 H T σ ρ)(s:aD H H')(ha:H a=none)(ha':H' a=some o)(r:gW K (aW fr H0 H' fun b=>Bs T σ ρ b\/b=a) dd o) :
 DenS K H0 H' T (σ.set i (some (.ref a))) (ρ.set i (some ⟨.own,fr,dd⟩))/\Ext H σ ρ H' (σ.set i (some (.ref a))) (ρ.set i (some ⟨.own,fr,dd⟩)):=by
 have sub:∀ b,iE (σ.set i (some (.ref a))) (ρ.set i (some ⟨.own,fr,dd⟩)) b->iE σ ρ b\/b=a:=fun b ⟨j,h⟩=>by
  rcases eI h with ⟨_,h,_⟩ | ⟨_,h⟩
  · cases h;exact .inr rfl
  · exact .inl ⟨j,h⟩
 have subB:∀ b,Bs T (σ.set i (some (.ref a))) (ρ.set i (some ⟨.own,fr,dd⟩)) b->Bs T σ ρ b\/b=a:=fun b z=>by
  rcases z with z | z
  · exact(sub b z).imp .inl id
  · exact .inl (.inr z)
 have subH:∀ b,Bs T (σ.set i (some (.ref a))) (ρ.set i (some ⟨.own,fr,dd⟩)) b->Bs T σ ρ b\/H b=none:=fun b z=>(subB b z).imp id fun z=>by rw[z];exact ha
 have nB:∀ b,Bs T σ ρ b->b≠a:=fun b z q=>by obtain⟨o,w,_⟩:=d.e.bnd b z;rw[q,ha]at w;cases w
 refine⟨⟨⟨by rw[Az,Az];exact d.e.len,d.e.sam.trans s,fun b z=>?_,fun j e he=>?_⟩,fun b z=>?_,fun j k b h1 h2=>?_⟩,fun b o h _=>s b o h,fun b z=>(sub b z).imp id fun z=>by rw[z];exact ha⟩
 · rcases subB b z with z | z
   · obtain⟨o,w,n⟩:=d.e.bnd b z;exact⟨o,s _ _ w,n⟩
   · exact⟨_,by rw[z];exact ha',r.stab⟩
 · by_cases hj:i=j
   · subst hj
     by_cases hi:i<ρ.length
     · rw[Al hi]at he
       cases he;have hσ:(σ.set i (some (V.ref a)))[i]?=some (some (V.ref a)):=Al (by rw[←d.e.len];exact hi)
       refine⟨.ref a,hσ,a,o,rfl,.inl ⟨i,hσ,_,Al hi,rfl⟩,d.e.sam.none ha,ha',r.same (aS (fun _ _ q _=>q) fun b z=>.inl (subB b z))⟩
     · rw[Ce (by rw[Az];omega)]at he;cases he
   · rw[Ai hj]at he
     obtain⟨w,q1,q2⟩:=d.e.ent j e he;refine⟨w,by rw[Ai hj];exact q1,q2.to d.e.sam (fun _ _ q _=>s _ _ q) (fun b o q _ k1 k2=>⟨s _ _ q,.inl ⟨j,nZ ⟨by rw[q1,k2],e,he,k1⟩ (fun z=>hj z.symm)⟩⟩) subH⟩
 · rcases sub b z with z | z
   · exact d.sep b z
   · intro q;exact nB b (.inr q) z
 · rcases eI h1 with ⟨e1,h,_⟩ | ⟨_,h1⟩
   · cases h
     rcases eI h2 with ⟨e2,_,_⟩ | ⟨_,h2⟩
     · rw[e1,e2]
     · exact absurd rfl (nB _ (.inl ⟨k,h2⟩))
   · rcases eI h2 with ⟨_,h,_⟩ | ⟨_,h2⟩
     · cases h;exact absurd rfl (nB _ (.inl ⟨j,h1⟩))
     · exact d.dis j k b h1 h2
theorem DenS.writeO {i:Nat}{a:Addr}{e:Res}{o':HO}{dd:D}{fr:Bool}(d:DenS K H0 H T σ ρ)(hσ:σ[i]?=some (some (.ref a)))(he:ρ[i]?=some (some e))(hk:e.k=.own)(h0:H0 a=none)(r:gW K (aW fr H0 H (Bs T σ ρ)) dd o') :
 DenS K H0 (upd H a o') T σ (ρ.set i (some ⟨.own,fr,dd⟩))/\Ext H σ ρ (upd H a o') σ (ρ.set i (some ⟨.own,fr,dd⟩)):=by
 have oi:dI σ ρ i a:=⟨hσ,e,he,hk⟩
 have hi:i<ρ.length:=by
  obtain⟨h,_⟩:=Ao.mp he;exact h
 have fwd:∀ j b,dI σ (ρ.set i (some ⟨.own,fr,dd⟩)) j b->dI σ ρ j b:=fun j b ⟨h1,e',h2,h3⟩=>by
  by_cases hj:i=j
  · subst hj;exact⟨h1,e,he,hk⟩
  · rw[Ai hj]at h2;exact⟨h1,e',h2,h3⟩
 have bwd:∀ j b,dI σ ρ j b->dI σ (ρ.set i (some ⟨.own,fr,dd⟩)) j b:=fun j b ⟨h1,e',h2,h3⟩=>by
  by_cases hj:i=j
  · subst hj;exact⟨h1,_,Al hi,rfl⟩
  · exact⟨h1,e',by rw[Ai hj];exact h2,h3⟩
 have subB:∀ b,Bs T σ (ρ.set i (some ⟨.own,fr,dd⟩)) b->Bs T σ ρ b:=fun b z=>z.imp (fun⟨j,h⟩=>⟨j,fwd j b h⟩) id;have Ba:Bs T σ ρ a:=.inl ⟨i,oi⟩;have kp:∀ b o,H b=some o->¬ Bs T σ ρ b->upd H a o' b=some o:=fun b o q n=>by rw[aR (fun z=>n (by rw[z];exact Ba))];exact q
 refine⟨⟨⟨by rw[Az];exact d.e.len,fun b o q=>?_,fun b z=>?_,fun j e' he'=>?_⟩,fun b z=>d.sep b (let ⟨j,h⟩:=z;⟨j,fwd j b h⟩),fun j k b h1 h2=>d.dis j k b (fwd j b h1) (fwd k b h2)⟩,fun b o q n=>?_,fun b z=>.inl (let ⟨j,h⟩:=z;⟨j,fwd j b h⟩)⟩
 · rw[aR (bJ q h0)];exact d.e.sam b o q
 · by_cases hb:b=a
   · subst hb;exact⟨_,bC,r.stab⟩
   · obtain⟨o,w,n⟩:=d.e.bnd b (subB b z);exact⟨o,by rw[aR hb];exact w,n⟩
 · by_cases hj:i=j
   · subst hj
     rw[Al hi]at he';cases he';exact⟨.ref a,hσ,a,o',rfl,.inl ⟨i,bwd i a oi⟩,h0,bC,r.same (aS kp fun b z=>.inl (subB b z))⟩
   · rw[Ai hj]at he'
     obtain⟨w,q1,q2⟩:=d.e.ent j e' he';refine⟨w,q1,q2.to d.e.sam kp (fun b o q _ k1 k2=>?_) fun b z=>.inl (subB b z)⟩
     have oj:dI σ ρ j b:=⟨by rw[q1,k2],e',he',k1⟩
     refine⟨?_,.inl ⟨j,bwd j b oj⟩⟩
     rw[aR (fun z=>hj (d.dis i j a oi (by rw[z]at oj;exact oj)))]
     exact q
 · rw[aR (fun z=>n (by rw[z];exact⟨i,oi⟩))];exact q
theorem DenS.write {i:Nat}{a:Addr}{e:Res}{vs:List V}{ds:List D}{fr:Bool}(d:DenS K H0 H T σ ρ)(hσ:σ[i]?=some (some (.ref a)))(he:ρ[i]?=some (some e))(hk:e.k=.own)(h0:H0 a=none)(r:aL K (aW fr H0 H (Bs T σ ρ)) ds vs) :
 DenS K H0 (upd H a (.lst vs)) T σ (ρ.set i (some ⟨.own,fr,.lst ds⟩))/\Ext H σ ρ (upd H a (.lst vs)) σ (ρ.set i (some ⟨.own,fr,.lst ds⟩)):=d.writeO hσ he hk h0 (.lst r)
theorem wR {i:Nat}{y:Bool×List D}(h:oK i ρ=.ok y):ρ[i]?=some (some ⟨.own,y.1,.lst y.2⟩):=by
 unfold oK at h;split at h
 · rename_i e;cases h;exact e
 · cases h
theorem DenS.own {i:Nat}{fr:Bool}{ds:List D}(d:DenS K H0 H T σ ρ)(he:ρ[i]?=some (some ⟨.own,fr,.lst ds⟩)):∃ a vs,σ[i]?=some (some (.ref a))/\H0 a=none/\H a=some (.lst vs)/\aL K (aW fr H0 H (Bs T σ ρ)) ds vs:=by
 obtain⟨v,q1,a,o,h1,h2,h3,h4,vs,h5,h6⟩:=d.e.ent i _ he;subst h1;subst h5;exact⟨a,vs,q1,h3,h4,h6⟩
theorem DenS.freeze (d:DenS K H0 H T σ ρ)(i:Nat):DenS K H0 H T σ (frz i ρ)/\Ext H σ ρ H σ (frz i ρ):=by
 unfold frz;split
 · rename_i e he
   have hi:i<ρ.length:=by
    obtain⟨h,_⟩:=Ao.mp he;exact h
   have fwd:∀ j b,dI σ (ρ.set i (some ⟨.shr,e.fr,e.d⟩)) j b->j≠i/\dI σ ρ j b:=fun j b ⟨h1,e',h2,h3⟩=>by
    by_cases hj:i=j
    · subst hj;rw[Al hi]at h2;cases h2;cases h3
    · rw[Ai hj]at h2;exact⟨fun z=>hj z.symm,h1,e',h2,h3⟩
   have subB:∀ b,Bs T σ (ρ.set i (some ⟨.shr,e.fr,e.d⟩)) b->Bs T σ ρ b:=fun b z=>z.imp (fun⟨j,h⟩=>⟨j,(fwd j b h).2⟩) id;refine⟨⟨⟨by rw[Az];exact d.e.len,d.e.sam,fun b z=>d.e.bnd b (subB b z),fun j e' he'=>?_⟩,fun b z=>d.sep b (let ⟨j,h⟩:=z;⟨j,(fwd j b h).2⟩),fun j k b h1 h2=>d.dis j k b (fwd j b h1).2 (fwd k b h2).2⟩,fun b o q _=>q,fun b z=>.inl (let ⟨j,h⟩:=z;⟨j,(fwd j b h).2⟩)⟩
   by_cases hj:i=j
   · subst hj
     rw[Al hi]at he';cases he';obtain⟨w,q1,q2⟩:=d.e.ent i e he;refine⟨w,q1,?_⟩
     have m:aD (aW e.fr H0 H (Bs T σ ρ)) (aW e.fr H0 H (Bs T σ (ρ.set i (some ⟨.shr,e.fr,e.d⟩)))):=aS (fun _ _ q _=>q) fun b z=>.inl (subB b z);unfold jT at q2;cases k:e.k with
     | shr=>rw[k]at q2;exact Rep.same m q2
     | own =>
      rw[k]at q2;obtain⟨a,o,h1,h2,h3,h4,h5⟩:=q2;show Rep K (aW e.fr H0 H (Bs T σ (ρ.set i (some ⟨.shr,e.fr,e.d⟩)))) e.d w
      rw[h1];refine h5.rep m (aJ.mpr ⟨fun z=>?_,h4⟩)
      rcases z with z | ⟨_,o,z,_⟩
      · rcases z with ⟨j,z⟩ | z
        · obtain⟨z1,z2⟩:=fwd j a z
          exact z1 (d.dis j i a z2 ⟨by rw[q1,h1],e,he,k⟩)
        · exact d.sep a ⟨i,by rw[q1,h1],e,he,k⟩ z
      · rw[h3]at z;cases z
     | tmp=>rw[k]at q2;exact q2.elim
     | old =>
      rw[k]at q2;refine Rep.same (fun b o q=>?_) q2.2
      obtain⟨n,q⟩:=aJ.mp q;refine aJ.mpr ⟨fun z=>?_,d.e.sam b o q⟩
      rcases z with z | ⟨z,_⟩
      · exact n (subB b z)
      · rw[q2.1]at z;cases z
   · rw[Ai hj]at he'
     obtain⟨w,q1,q2⟩:=d.e.ent j e' he';refine⟨w,q1,q2.to d.e.sam (fun _ _ q _=>q) (fun b o q _ k1 k2=>⟨q,.inl ⟨j,by rw[q1,k2],e',by rw[Ai hj];exact he',k1⟩⟩) fun b z=>.inl (subB b z)⟩
 · exact⟨d,Ext.refl⟩
end
end Mir
namespace Mir
open PySem L2
variable {X:Cx}{P:XP}{a b c e:Expr}{es:List Expr}{f g:FE}{fs:FEs}{pos:Pos}
def fJ (K:PySem.W.Frag)(H0 H':Hp)(T:Addr->Prop)(v:V)(r:Res):Prop :=
 match r.k with
 | .shr=>Rep K (aW r.fr H0 H' T) r.d v
 | _=>∃ a o,v=.ref a/\H0 a=none/\H' a=some o/\gW K (aW r.fr H0 H' fun b=>T b\/b=a) r.d o
def fY (K:PySem.W.Frag)(P:XP)(D:Ends)(H0:Hp)(T:Addr->Prop)(H:Hp)(σ:St)(ρ:Env)(r:RS):Prop :=
 match r with
 | .nx ρ'=>∀ σ' H',DenS K H0 H' T σ' ρ'->Ext H σ ρ H' σ' ρ'->D.nx σ' H'
 | .bk ρ'=>∀ σ' H',DenS K H0 H' T σ' ρ'->Ext H σ ρ H' σ' ρ'->D.bk σ' H'
 | .ct ρ'=>∀ σ' H',DenS K H0 H' T σ' ρ'->Ext H σ ρ H' σ' ρ'->D.ct σ' H'
 | .rt r=>∀ v H',aD H0 H'->fJ K H0 H' T v r->D.rt v H'
 | .exc x ρ'=>∀ σ' H',DenS K H0 H' T σ' ρ'->Ext H σ ρ H' σ' ρ'->P.p x σ' H'
 | .stk=>False
def tS (K:PySem.W.Frag)(P:XP)(F:FS):TS:=fun D σ H=>∃ H0 T ρ,DenS K H0 H T σ ρ/\fY K P D H0 T H σ ρ (F ρ)
theorem fY.trans {K:PySem.W.Frag}{D:Ends}{H0 H H1:Hp}{T:Addr->Prop}{σ σ1:St}{ρ ρ1:Env}{r:RS}(x:Ext H σ ρ H1 σ1 ρ1)(h:fY K P D H0 T H σ ρ r):fY K P D H0 T H1 σ1 ρ1 r:=by
 cases r with
 | nx ρ'=>exact fun σ' H' d y=>h σ' H' d (x.trans y)
 | bk ρ'=>exact fun σ' H' d y=>h σ' H' d (x.trans y)
 | ct ρ'=>exact fun σ' H' d y=>h σ' H' d (x.trans y)
 | rt r=>exact h
 | exc z ρ'=>exact fun σ' H' d y=>h σ' H' d (x.trans y)
 | stk=>exact h
theorem PS.imp {st:Stmt}{t t':TS}(p:PS X st t)(h:∀ D σ H,t' D σ H->t D σ H):PS X st t':=fun pins s σ H D I q=>p pins s σ H D I (h D σ H q)
theorem PSs.imp {st:List Stmt}{t t':TS}(p:PSs X st t)(h:∀ D σ H,t' D σ H->t D σ H):PSs X st t':=fun pins s σ H D I q=>p pins s σ H D I (h D σ H q)
variable {st:Stmt}{rest:List Stmt}{F G:FS}
theorem dB:PSs X [] (tS X.K P bZ):=PSs.imp aDw fun D σ H ⟨H0,T,ρ,d,h⟩=>h σ H d Ext.refl
theorem aJ7 {K:PySem.W.Frag}(D:Ends)(σ:St)(H:Hp)(h:tS K P (aP F G) D σ H):aEh (tS K P F) (tS K P G) D σ H:=by
 obtain⟨H0,T,ρ,d,h⟩:=h;refine⟨H0,T,ρ,d,?_⟩
 unfold aP at h;cases e:F ρ with
 | nx ρ1 =>
  rw[e]at h;exact fun σ1 H1 d1 x1=>⟨H0,T,ρ1,d1,h.trans x1⟩
 | bk ρ'=>rw[e]at h;exact h
 | ct ρ'=>rw[e]at h;exact h
 | rt r=>rw[e]at h;exact h
 | exc z ρ'=>rw[e]at h;exact h
 | stk=>rw[e]at h;exact h
theorem aE (h1:PS X st (tS X.K P F))(h2:PSs X rest (tS X.K P G)):PSs X (st :: rest) (tS X.K P (aP F G)):=PSs.imp (mU h1 h2) aJ7
theorem aQ (h1:PS X st (tS X.K P F)):PSs X [st] (tS X.K P F):=kC h1
theorem aEg {K:PySem.W.Frag}{k:Res->Env->RS}{D:Ends}{σ:St}{H:Hp}{q:VK}(hX:X.K=K)(h:tS K P (fun ρ=>(f ρ).at ρ fun r=>k r ρ) D σ H)
 (hk:∀ H0 T ρ v H' r,DenS K H0 H T σ ρ->DenS K H0 H' T σ ρ->aD H H'->aI K H0 H H' (Bs T σ ρ) v r->fY K P D H0 T H σ ρ (k r ρ)->q v H'):tE K P f σ H q:=by
 subst hX;obtain⟨H0,T,ρ,d,h⟩:=h;cases e:f ρ with
 | stk=>simp only[e,R.at]at h;exact h.elim
 | exc x=>simp only[e,R.at]at h;exact eE d.e e (h σ H d Ext.refl)
 | ok r =>
  simp only[e,R.at]at h;exact fW d.e e fun v H' s d' g'=>hk H0 T ρ v H' r d (d.mono s) s g' h
theorem jU (he:PE X e (tE X.K P f))(hs:swapsWith e none pos.line X.env=pure false:=by rfl):PS X (.Expr e pos) (tS X.K P (dH f)):=by
 refine PS.imp (xI he hs) ?_
 intro D σ H h;exact aEg (q:=fun _ H1=>D.nx σ H1) rfl h fun H0 T ρ v H' r d d' s g h=>h σ H' d' (Ext.same s)
theorem aGy {K:PySem.W.Frag}{H0 H H':Hp}{T:Addr->Prop}{σ:St}{ρ:Env}{v:V}{r:Res}(d:DenS K H0 H T σ ρ)(g:aI K H0 H H' (Bs T σ ρ) v r):fJ K H0 H' T v ⟨if r.k=.shr then .shr else .tmp,r.fr,r.d⟩:=by
 unfold aI at g;unfold fJ;cases k:r.k with
 | shr=>rw[k]at g;exact Rep.same (aS (fun _ _ q _=>q) fun b z=>.inl (.inr z)) g
 | own =>
  rw[k]at g;obtain⟨a,o,h1,h2,h3,h4,h5⟩:=g;exact⟨a,o,h1,h3,h4,h5.same (aS (fun _ _ q _=>q) fun b z=>.inl (z.elim .inr fun z=>by rw[z];exact h2))⟩
 | tmp =>
  rw[k]at g;obtain⟨a,o,h1,h2,h3,h4⟩:=g;exact⟨a,o,h1,d.e.sam.none h2,h3,h4.same (aS (fun _ _ q _=>q) fun b z=>.inl (z.imp .inr id))⟩
 | old=>rw[k]at g;exact g.elim
theorem cQ (he:PE X e (tE X.K P f)):PS X (.Return (some e) pos) (tS X.K P (bF f)):=by
 refine PS.imp (aHc he) ?_
 intro D σ H h;exact aEg (q:=D.rt) (k:=fun r ρ=>.rt ⟨if r.k=.shr then .shr else .tmp,r.fr,r.d⟩) rfl h fun H0 T ρ v H' r d d' s g h=>h v H' d'.e.sam (aGy d g)
theorem rZ {K:PySem.W.Frag}{D:Ends}{H0 H H':Hp}{T:Addr->Prop}{σ:St}{ρ:Env}{v:V}{r:Res}{i:Nat}(d:DenS K H0 H T σ ρ)(s:aD H H')(g:aI K H0 H H' (Bs T σ ρ) v r)(h:fY K P D H0 T H σ ρ ((r.keep).at ρ fun e=>.nx (ρ.set i (some e)))) :
 D.nx (σ.set i (some v)) H':=by
 unfold Res.keep at h;unfold aI at g;cases k:r.k with
 | shr =>
  rw[k]at g h;have d':=(d.mono s).set_shr (i:=i) g;refine h _ H' ?_ ⟨fun b o q _=>s b o q,fun b z=>.inl ?_⟩
  · have e:r=⟨.shr,r.fr,r.d⟩:=by rw[←k]
    rw[e];exact d'.1
  · have e:r=⟨.shr,r.fr,r.d⟩:=by rw[←k]
    rw[e]at z;exact d'.2 b z
 | own=>rw[k]at h;exact h.elim
 | old=>rw[k]at h;exact h.elim
 | tmp =>
  rw[k]at g h;obtain⟨a,o,h1,h2,h3,h4⟩:=g;subst h1;have d':=d.set_con (i:=i) s h2 h3 h4;simp only[R.at]at h;exact h _ H' d'.1 d'.2
theorem bN {i:Nat}{x:Str}{pos':Pos}(hN:X.N.Nodup)(hi:X.N[i]?=some x)(hx:Loc X.env.scope x)(he:PE X e (tE X.K P f))(hs:swapsWith e (some (.Name x pos')) pos.line X.env=pure false:=by rfl)(hf:X.fn x=true\/X.env.scope.names.lookup x=some .local:=by first | exact .inl rfl | exact .inr rfl | assumption) :
 PS X (.Assign [.Name x pos'] e pos) (tS X.K P (aO i f)):=by
 refine PS.imp (uR hN hi hx he hs hf) ?_
 intro D σ H h;exact aEg (q:=fun v H1=>D.nx (σ.set i (some v)) H1) (k:=fun r ρ=>(r.keep).at ρ fun e=>.nx (ρ.set i (some e))) rfl h fun H0 T ρ v H' r d d' s g h=>rZ d s g h
theorem mV {scope:Scope}{N:List Str}{k:Nat}{cs:List Nat}{tg iter elt:Expr}{ifs:List Expr}{t:Tg}{it:FI}{fb:FB}{i:Nat}{y:Str}{py spos:Pos}(hc:X.calm=true)(hN:X.N.Nodup)(hi':X.N[i]?=some y)(hy:X.env.scope.names.lookup y=some .local)
 (C:CompOk X scope N k cs) (hi:PI X tg iter (tI X.K P it)) (hg:∀ fp s H,PG (cG X scope N fp s H) tg (gOf X.K t)) (gl:rC k (gOf X.K t)) (hb:∀ fp s H,PB (cG X scope N fp s H) ifs elt (tBm X.K XP0 fb))
 (hsw:swapsWith (.ListComp elt [⟨tg,iter,ifs,0⟩] scope pos) (some (.Name y py)) spos.line X.env=pure true:=by rfl) (hs:∀ x,foldedSetIterable iter X.env x=pure x:=by intro _;rfl) :
 PS X (.Assign [.Name y py] (.ListComp elt [⟨tg,iter,ifs,0⟩] scope pos) spos) (tS X.K P (aO i (bB it k cs t fb))):=by
 refine PS.imp (aEd (i:=i) hc hN hi' hy C hi hg gl hb hsw hs) ?_
 intro D σ H h;have h':=aEg (f:=bB it k cs t fb) (q:=fun v H1=>D.nx (σ.set i (some v)) H1) (k:=fun r ρ=>(r.keep).at ρ fun e=>.nx (ρ.set i (some e))) rfl h fun H0 T ρ v H' r d d' s g h=>rZ d s g h;exact aBv σ H _ h'
theorem aMp {t:FT}{D:Ends}{σ:St}{H:Hp}{F G:FS}(h:tS X.K P (ifS t F G) D σ H):tT X.K P t σ H fun b H1=>if b=true then tS X.K P F D σ H1 else tS X.K P G D σ H1:=by
 obtain⟨H0,T,ρ,d,h⟩:=h;unfold ifS at h;refine⟨H0,_,ρ,d.e,?_⟩
 cases e:t ρ with
 | stk=>simp only[e,R.at]at h;exact h.elim
 | exc x=>simp only[e,R.at]at h;exact h σ H d Ext.refl
 | ok k =>
  simp only[e,R.at]at h;intro H1 s1;cases k with
  | true=>exact aDl ⟨H0,T,ρ,d.mono s1,fY.trans (Ext.same s1) h⟩
  | false=>exact aC7 ⟨H0,T,ρ,d.mono s1,fY.trans (Ext.same s1) h⟩
theorem dQ {t:FT}{sa sb:List Stmt}(hc:PT X c (tT X.K P t))(ha:PSs X sa (tS X.K P F))(hb:PSs X sb (tS X.K P G)):PS X (.If c sa sb pos) (tS X.K P (ifS t F G)):=by
 refine PS.imp (aLc hc ha hb) ?_
 intro D σ H h;exact aMp h
theorem mT {i:Nat}(h:PS X st (tS X.K P F)):PS X st (tS X.K P (fO i F)):=by
 refine PS.imp h ?_
 rintro D σ H ⟨H0,T,ρ,d,h⟩
 obtain⟨d',x⟩:=d.freeze i;exact⟨H0,T,frz i ρ,d',fY.trans x h⟩
theorem aB4 {i:Nat}{x:Str}{p ap cp:Pos}(hN:X.N[i]?=some x)(hv:Vis X.env.scope x)(he:PE X e (tE X.K P f))(hd:(x==("__debug__":Str))=false:=by decide)(hcd:(x==("__classdict__":Str))=false:=by decide)
 (h1:starEach [e] X.env=[(false,eval e X.env)]:=by rfl) (hbase:attributeBase (.Name x p) "append" X.env (eval (.Name x p) X.env)=eval (.Name x p) X.env:=by rfl)
 (hfew:((backTo cp (starEach [e] X.env)).all (fun x=>!x.1)&&(backToKw cp (keywordEach [] X.env)).all (fun x=>x.1.isSome)&&decide ([e].length+([]:List Keyword).length+(if ([]:List Keyword).isEmpty then 0 else 1)<30))=true:=by rfl)
 (hline:(ap.endLine==cp.line)=true:=by rfl)
 (hs:swapsWith (.Call (.Attribute (.Name x p) "append" ap) [e] [] cp) none pos.line X.env=pure false:=by rfl) :
 PS X (.Expr (.Call (.Attribute (.Name x p) "append" ap) [e] [] cp) pos) (tS X.K P (mW i f)):=by
 refine PS.imp (xI (aLk PySem.F.plainAttrs_list PySem.F.slot_list_append PySem.F.type_list_append qC (lL hN hv hd hcd) (jC he qQ h1) hbase hfew hline (hs:=h1)) hs) ?_
 rintro D σ H ⟨H0,T,ρ,d,h⟩
 unfold mW at h;cases e3:oK i ρ with
 | stk=>simp only[e3,R.at]at h;exact h.elim
 | exc z=>unfold oK at e3;split at e3<;>cases e3
 | ok y =>
  simp only[e3,R.at]at h;have ho:=wR e3;obtain⟨a,vs,q1,q2,q3,q4⟩:=d.own ho;refine⟨_,q1,.inl ⟨rfl,vs,SqL.of q3⟩,?_⟩
  cases e1:f ρ with
  | stk=>simp only[e1]at h;exact h.elim
  | exc z=>simp only[e1]at h;exact eE d.e e1 (h σ H d Ext.refl)
  | ok r =>
   simp only[e1]at h;refine fW d.e e1 fun v H' s d' g'=>?_
   cases e2:r.give with
   | stk=>simp only[e2]at h;exact h.elim
   | exc z=>unfold Res.give at e2;split at e2<;>cases e2
   | ok r' =>
    simp only[e2]at h;obtain⟨g1,g2⟩:=g'.give d.e e2;subst g1;by_cases hz:y.2.length<sizeLine
    · rw[if_pos hz]at h
      have dS:=d.mono s;have q4':aL X.K (aW y.1 H0 H' (Bs T σ ρ)) y.2 vs:=aL.same (aS (fun b o q _=>s b o q) fun b z=>.inl z) q4;refine⟨a,vs,v,rfl,rfl,s _ _ q3,by rw[←q4.length];exact hz,?_⟩
      obtain⟨w1,w2⟩:=dS.write (fr:=y.1&&r.fr) (ds:=y.2++[r.d]) (vs:=vs++[v]) q1 ho rfl q2 (q4'.andL.append (aL.one g2).andR);exact h σ _ w1 ((Ext.same s).trans w2)
    · rw[if_neg hz]at h;exact h.elim
theorem aFq {i:Nat}{x:Str}{j:Expr}{p tp:Pos}(hN:X.N[i]?=some x)(hv:Vis X.env.scope x)(hj:PE X j (tE X.K P g))(he:PE X e (tE X.K P f))(hd:(x==("__debug__":Str))=false:=by decide)(hcd:(x==("__classdict__":Str))=false:=by decide)
 (ha:∀ v,assign (.Subscript (.Name x p) j tp) X.env v=(do
  let ov ← holding [v] (eval (.Name x p) X.env)
  let iv ← holding [v,ov] (eval j X.env)
  standAt tp
  holding [v,ov,iv] (setItem ov iv v)
  release [v,ov,iv] []):=by intro _;rfl)
 (hs:swapsWithSole [.Subscript (.Name x p) j tp] e pos.line X.env=pure false:=by rfl) (hw:swappedStores [.Subscript (.Name x p) j tp] e X.env=pure none:=by rfl)
 (h1:(assignEach [.Subscript (.Name x p) j tp] X.env).map (·.2)=[assign (.Subscript (.Name x p) j tp) X.env]:=by rfl) :
 PS X (.Assign [.Subscript (.Name x p) j tp] e pos) (tS X.K P (mC i g f)):=by
 refine PS.imp (aIh he (aIb (lL hN hv hd hcd) hj aBs ha) hs hw h1) ?_
 rintro D σ H ⟨H0,T,ρ,d,h⟩
 unfold mC at h;show tE X.K P f σ H fun v H1=>nH i σ H1 fun o H2=>tE X.K P g σ H2 fun k H3=>aFm o k v H3 fun H4=>D.nx σ H4
 cases e1:f ρ with
 | stk=>simp only[e1,R.at]at h;exact h.elim
 | exc z=>simp only[e1,R.at]at h;exact eE d.e e1 (h σ H d Ext.refl)
 | ok r =>
  simp only[e1,R.at]at h;refine fW d.e e1 fun v H1 s1 d1 g1=>?_
  cases e2:r.give with
  | stk=>simp only[e2]at h;exact h.elim
  | exc z=>unfold Res.give at e2;split at e2<;>cases e2
  | ok r' =>
   simp only[e2]at h;obtain⟨w1,w2⟩:=g1.give d.e e2;subst w1;cases e3:oK i ρ with
   | stk=>simp only[e3]at h;exact h.elim
   | exc z=>unfold oK at e3;split at e3<;>cases e3
   | ok y =>
    simp only[e3]at h;have ho:=wR e3;obtain⟨a,vs,q1,q2,q3,q4⟩:=d.own ho;refine⟨_,q1,?_⟩
    cases e4:g ρ with
    | stk=>simp only[e4]at h;exact h.elim
    | exc z=>simp only[e4]at h;exact eE d1 e4 (h σ H1 (d.mono s1) (Ext.same s1))
    | ok jr =>
     simp only[e4]at h;refine fW d1 e4 fun kv H2 s2 d2 g2=>?_
     cases e5:asI jr.d with
     | stk=>simp only[e5]at h;exact h.elim
     | exc z=>exact(cM e5).elim
     | ok k =>
      simp only[e5]at h;cases e6:ixN y.2.length k with
      | none=>simp only[e6]at h;exact h.elim
      | some n =>
       simp only[e6]at h;have s:=s1.trans s2;have dS:=d.mono s;have m:∀ fr,aD (aW fr H0 H (Bs T σ ρ)) (aW fr H0 H2 (Bs T σ ρ)):=fun fr=>aS (fun b o q _=>s b o q) fun b z=>.inl z;have m1:∀ fr,aD (aW fr H0 H1 (Bs T σ ρ)) (aW fr H0 H2 (Bs T σ ρ)):=fun fr=>aS (fun b o q _=>s2 b o q) fun b z=>.inl z;refine⟨a,vs,k,n,rfl,g2.int (dA e5),s _ _ q3,by rw[←q4.length];exact e6,?_⟩
       have ra:Rep X.K (aW (y.1&&r.fr) H0 H2 (Bs T σ ρ)) r.d v:=by
        obtain⟨_,_,z1,z2,_⟩:=(aL.one (Rep.same (m1 _) w2)).andR (fr:=y.1);cases z1;exact z2
       obtain⟨v1,v2⟩:=dS.write (fr:=y.1&&r.fr) (ds:=y.2.set n r.d) (vs:=vs.set n v) q1 ho rfl q2 (aL.set ra n (aL.same (m _) q4).andL);exact h σ _ v1 ((Ext.same s).trans v2)
theorem pI {iter:Expr}{body:List Stmt}{tg:Expr}{t:Tg}{it:FI}(hp:PassesOwn (model X.prog X.w) X.A X.env X.xe)(hc:X.calm=true)(hi:PI X tg iter (tI X.K P it))(hg:PG X tg (gOf X.K t))(hb:PSs X body (tS X.K P F))
 (hs:∀ x,foldedSetIterable iter X.env x=pure x:=by intro _;rfl):PS X (.For tg iter body [] pos) (tS X.K P (gL it t F)):=by
 refine PS.imp (aIo hp hc hi hg hb hs) ?_
 rintro D σ H ⟨H0,T,ρ,d,h⟩
 unfold gL at h;refine⟨H0,_,ρ,d.e,?_⟩
 cases e:it ρ with
 | stk=>simp only[e,R.at]at h;exact h.elim
 | exc z=>simp only[e,R.at]at h;exact h σ H d Ext.refl
 | ok w =>
  simp only[e,R.at]at h;by_cases hst:w.st=true
  · rw[if_pos hst]at h
    intro J H1 s1 hw;obtain⟨A,hA,hwk⟩:=hw;refine⟨fun i m σ' H'=>m=w.ds.length-i/\i<=w.ds.length/\∃ ρi,DenS X.K H0 H' T σ' ρi/\Ext H1 σ ρ H' σ' ρi/\fY X.K P D H0 T H1 σ ρ (eS t F w.fr (w.ds.drop i) ρi),⟨w.ds.length,rfl,Cq _,ρ,d.mono s1,Ext.refl,fY.trans (Ext.same s1) h⟩,?_⟩
    rintro i m σ' H' ⟨hm,hi',ρi,di,xi,pi⟩
    have wk:=hwk H' (Bs T σ' ρi) (fun a o ha q=>xi.kp a o q fun z=>hA hst a ha (.inl z)) (fun b o q n=>xi.kp b o q fun z=>n (.inl z)) (fun b z=>?_) (fun b z=>let ⟨o,q,_⟩:=di.e.bnd b z;⟨o,q⟩) di.e.sam i
    · by_cases hlt:i<w.ds.length
      · refine .inr ?_
        have hd:w.ds[i]?=some w.ds[i]:=Ax hlt;obtain⟨go,yl⟩:=wk.2 _ hd;refine⟨go,fun σ'' H''=>w.ds.length-(i+1)=w.ds.length-(i+1)/\i+1<=w.ds.length/\∃ ρi,DenS X.K H0 H'' T σ'' ρi/\Ext H1 σ ρ H'' σ'' ρi/\fY X.K P D H0 T H1 σ ρ (eS t F w.fr (w.ds.drop (i+1)) ρi),fun σ'' H'' q=>⟨_,by omega,q⟩,fun x H3 y3=>?_⟩
        obtain⟨s3,rx⟩:=yl x H3 y3;rw[List.drop_eq_getElem_cons hlt]at pi;simp only[eS]at pi;cases e1:t.bind w.fr w.ds[i] ρi with
        | stk=>simp only[e1,R.at]at pi;exact pi.elim
        | exc z=>exact(uL _ _ _ e1).elim
        | ok ρ1 =>
         simp only[e1,R.at]at pi;refine qG (G:=aW w.fr H0 H3 (Bs T σ' ρi)) (fr:=w.fr) (I:=fun σ2 ρ2=>DenS X.K H0 H3 T σ2 ρ2/\∀ a,iE σ2 ρ2 a->iE σ' ρi a) fG (fun σ2 ρ2 j dd v ⟨D2,O2⟩ r=>?_) t _ x σ' ρi ρ1 _ e1 rx ⟨di.mono s3,fun a z=>z⟩ fun σ4 ⟨d4,o4⟩=>?_
         · have:=D2.set_shr (i:=j) (Rep.same (aS (fun _ _ q _=>q) fun b z=>.inl (z.imp (O2 b) id)) r)
           exact⟨this.1,fun a z=>O2 a (this.2 a z)⟩
         · have x4:Ext H1 σ ρ H3 σ4 ρ1:=xi.trans ⟨fun b o q _=>s3 b o q,fun b z=>.inl (o4 b z)⟩
           refine⟨H0,T,ρ1,d4,?_⟩
           cases e2:F ρ1 with
           | stk=>simp only[e2]at pi;exact pi
           | nx ρ2=>simp only[e2]at pi;exact fun σ5 H5 d5 x5=>⟨rfl,hlt,ρ2,d5,x4.trans x5,pi⟩
           | ct ρ2=>simp only[e2]at pi;exact fun σ5 H5 d5 x5=>⟨rfl,hlt,ρ2,d5,x4.trans x5,pi⟩
           | bk ρ2=>simp only[e2]at pi;exact fun σ5 H5 d5 x5=>pi σ5 H5 d5 (x4.trans x5)
           | rt r=>simp only[e2]at pi;exact pi
           | exc z ρ2=>simp only[e2]at pi;exact fun σ5 H5 d5 x5=>pi σ5 H5 d5 (x4.trans x5)
      · refine .inl ⟨wk.1 (by omega),?_⟩
        rw[De (by omega)]at pi
        exact pi σ' H' di xi
    · rcases z with z | z
      · exact(xi.ow b z).imp .inl id
      · exact .inl (.inr z)
  · rw[if_neg hst]at h;exact h.elim
theorem aK5 {t:FT}{body:List Stmt}(hp:PassesOwn (model X.prog X.w) X.A X.env X.xe)(hc:PT X c (tT X.K P t))(hb:PSs X body (tS X.K P F)):PS X (.While c body [] pos) (tS X.K P (aA1 t F)):=by
 refine PS.imp (aCi hp hc hb) ?_
 rintro D σ H ⟨H0,T,ρ,d,h⟩
 refine⟨fun m σ' H'=>∃ ρi,DenS X.K H0 H' T σ' ρi/\Ext H σ ρ H' σ' ρi/\fY X.K P D H0 T H σ ρ (mB t F m ρi),⟨2^64,ρ,d,Ext.refl,h⟩,?_⟩
 rintro m σ' H' ⟨ρi,di,xi,pi⟩
 cases m with
 | zero=>exact pi.elim
 | succ n =>
  simp only[mB]at pi;refine⟨H0,_,ρi,di.e,?_⟩
  cases e:t ρi with
  | stk=>simp only[e,R.at]at pi;exact pi.elim
  | exc z=>simp only[e,R.at]at pi;exact pi σ' H' di xi
  | ok k =>
   simp only[e,R.at]at pi;intro H1 s1;have x1:Ext H σ ρ H1 σ' ρi:=xi.trans (Ext.same s1);cases k with
   | false=>exact aC7 (pi σ' H1 (di.mono s1) x1)
   | true =>
    rw[if_pos rfl]at pi;refine aDl ⟨fun σ'' H''=>∃ ρi,DenS X.K H0 H'' T σ'' ρi/\Ext H σ ρ H'' σ'' ρi/\fY X.K P D H0 T H σ ρ (mB t F n ρi),fun σ'' H'' q=>⟨n,Fg n,q⟩,H0,T,ρi,di.mono s1,?_⟩
    cases e2:F ρi with
    | stk=>simp only[e2]at pi;exact pi
    | nx ρ2=>simp only[e2]at pi;exact fun σ5 H5 d5 x5=>⟨ρ2,d5,x1.trans x5,pi⟩
    | ct ρ2=>simp only[e2]at pi;exact fun σ5 H5 d5 x5=>⟨ρ2,d5,x1.trans x5,pi⟩
    | bk ρ2=>simp only[e2]at pi;exact fun σ5 H5 d5 x5=>pi σ5 H5 d5 (x1.trans x5)
    | rt r=>simp only[e2]at pi;exact pi
    | exc z ρ2=>simp only[e2]at pi;exact fun σ5 H5 d5 x5=>pi σ5 H5 d5 (x1.trans x5)
end Mir
namespace Mir
open PySem L2
variable {X:Cx}{P:XP}{a b c e:Expr}{es:List Expr}{f g:FE}{fs:FEs}{pos:Pos}
def XD (x:Xc)(dx:Option Addr)(H:Hp):Prop:=match x.ds with
 | []=>dx=none
 | [.int p]=>∃ a,dx=some a/\H a=some (.ext (cU a p))
 | _=>False
theorem XD.same {x:Xc}{dx:Option Addr}{H H':Hp}(h:XD x dx H)(s:aD H H'):XD x dx H':=by
 obtain⟨c,ds⟩:=x;unfold XD at h ⊢;dsimp only at h ⊢
 split at h
 · exact h
 · obtain⟨a,h1,h2⟩:=h
   exact⟨a,h1,s _ _ h2⟩
 · exact h.elim
def spM (K:PySem.W.Frag)(cl:XC->Addr)(φ:Φ):Sp:=fun vs H Q E=>∃ ds B,(∀ b,B b->∃ o,H b=some o/\stab o=false)/\aL K (cut H B) ds vs/\match φ ds with
 | .ok r=>∀ v H',aD H H'->fJ K H H' B v r->Q v H'
 | .exc x=>∀ H' dx,aD H H'->XD x dx H'->E (.ref (cl x.c)) dx H'
 | .stk=>False
def Thr (CX:CXT)(cl:XC->Addr)(X:Cx)(P:XP):Prop:=∀ (pins:List (Addr×Obj)) (σ:St) (H:Hp) (s:Shared) (e:Value) (s':Shared),Inv X pins σ H s->CX X.stack H s (fun c dx H'=>∃ x:Xc,c=.ref (cl x.c)/\XD x dx H'/\P.p x σ H') e s'->X.xe e s'
theorem aEe {CX:CXT}{k:Nat}{fa:Addr}{fd:FuncData}{ps:List Str}{sp:Sp}{E:XK}{pins:List (Addr×Obj)}{σ:St}{H:Hp}{s:Shared}{Q:VK}{us:List Value}{vs:List V}(F:FnOk X.prog X.w X.K X.mg X.base CX k fa fd ps sp)(hr:Room k X.A)(hb:gC X.K fd ps [])
 (hx:∀ e s',CX X.stack H s E e s'->X.xe e s') (I:Inv X pins σ H s) (r:bH vs us) (h:sp vs H Q E):wpAny (model X.prog X.w) X.A (call (.ref fa) us) (EP X pins σ Q) X.xe s:=by
 have hl:us.length=ps.length:=by rw[←r.length];exact F.len _ _ _ _ h
 have hb':=hb s us I.kIn (by rw[Dz];exact hl)
 rw[Dz]at hb';refine wpAny_call (codeAny_mono (F.run X.A X.stack s H ⟨us,[]⟩ us vs Q E hr I.env0 hb' r h) fun r s' hq=>?_)
 cases r with
 | error e=>exact hx e s' hq
 | ok fl =>
  cases fl with
  | ret u=>exact I.after hq
  | next=>exact False.elim hq
  | brk=>exact False.elim hq
  | cont=>exact False.elim hq
theorem dD.plain {K:PySem.W.Frag}{H0 H H':Hp}{B:Addr->Prop}{σ:St}{ρ:Env}{Z:Addr->Prop}(den:DenE K H0 H B σ ρ):∀ {vs:List V} {rs:List Res},dD K H0 H H' B vs rs->(∀ b,Z b->B b/\V.ref b∉vs)->aL K (cut H' Z) (rs.map (·.d)) vs
 | [],_,h,_=>by rw[show _=[] from h];rfl
 | v :: vs,_,⟨r,rr,e,g,gs⟩,hz=>by
  subst e;refine⟨v,vs,rfl,?_,dD.plain den gs fun b z=>⟨(hz b z).1,fun q=>(hz b z).2 (Ab _ q)⟩⟩
  have m:∀ fr,aD (aW fr H0 H' B) (cut H' Z):=fun fr=>dN (fun _ _ q _=>q) fun b z=>.inl (.inl (hz b z).1);unfold aI at g;cases k:r.k with
  | shr=>rw[k]at g;exact Rep.same (m _) g
  | own =>
   rw[k]at g;obtain⟨a,o,h1,h2,h3,h4,h5⟩:=g;subst h1;exact h5.rep (m _) (aJ.mpr ⟨fun z=>(hz a z).2 Af,h4⟩)
  | old=>rw[k]at g;exact g.elim
  | tmp =>
   rw[k]at g;obtain⟨a,o,h1,h2,h3,h4⟩:=g;subst h1;exact h4.rep (dN (fun _ _ q _=>q) fun b z=>.inl (.inl (.inl (hz b z).1))) (aJ.mpr ⟨fun z=>(hz a z).2 Af,h3⟩)
theorem sA:∀ {rs:List Res} {y:Bool×List D},gives rs=.ok y->y.2=rs.map (·.d)
 | [],y,e=>by simp[gives]at e;subst e;rfl
 | r :: rs,y,e=>by
  simp only[gives]at e;cases e2:r.give with
  | stk=>simp[e2]at e
  | exc x=>simp[e2]at e
  | ok r' =>
   cases e3:gives rs with
   | stk=>simp[e2,e3]at e
   | exc x=>simp[e2,e3]at e
   | ok y' =>
    simp only[e2,e3,R.ok_bind]at e;cases e
    have:r'.d=r.d:=by
     unfold Res.give at e2;split at e2
     · cases e2
     · cases e2;rfl
    simp[sA e3,this]
theorem yX {cl:XC->Addr}{φ:Φ}{σ:St}{H:Hp}{Q:VK}(h:tE X.K P (aG φ fs) σ H Q):tAs X.K P fs σ H fun vs H1=>spM X.K cl φ vs H1 Q (fun c dx H'=>∃ x:Xc,c=.ref (cl x.c)/\XD x dx H'/\P.p x σ H'):=by
 refine tA1 h ?_
 intro H0 B ρ vs H' rs d0 d gs s h;cases e:φ (rs.map (·.d)) with
 | stk=>simp[e]at h
 | exc x =>
  simp[e]at h
  refine⟨rs.map (·.d),fun _=>False,fun _ z=>z.elim,gs.plain d0 (fun _ z=>z.elim),?_⟩
  rw[e];exact fun H2 dx s2 xd=>⟨x,rfl,xd,P.mono h s2⟩
 | ok r =>
  simp only[e,R.ok_bind]at h;by_cases hf:r.fr=true
  · rw[if_pos hf]at h
    refine⟨rs.map (·.d),fun b=>B b/\V.ref b∉vs,fun b z=>d.bnd b z.1,gs.plain d0 (fun _ z=>z),?_⟩
    rw[e];intro v H2 s2 ro;refine h v H2 s2 ?_
    have ban:∀ b o,H2 b=some o->¬ Ban true H' (fun b=>B b/\V.ref b∉vs) b->¬ Ban true H0 B b:=fun b o q n z=>by
     rcases z with z | ⟨_,o',z1,z2⟩
     · obtain⟨o',z1,z2⟩:=d.bnd b z
       exact n (.inr ⟨rfl,o',z1,z2⟩)
     · exact n (.inr ⟨rfl,o',d.sam _ _ z1,z2⟩)
    unfold fJ at ro;unfold aI;cases k:r.k with
    | shr =>
     rw[k]at ro;simp only[if_true];rw[hf]at ro;exact Rep.same (fun b o q=>let ⟨q1,q2⟩:=aJ.mp q;aJ.mpr ⟨ban b o q2 q1,q2⟩) ro
    | own =>
     rw[k]at ro;obtain⟨a,o',h1,h2,h3,h5⟩:=ro;rw[hf]at h5;refine⟨a,o',h1,s.none h2,h3,h5.same (fun b o q=>?_)⟩
     obtain⟨q1,q2⟩:=aJ.mp q;refine aJ.mpr ⟨fun z=>?_,q2⟩
     rcases z with (z | z) | z
     · exact ban b o q2 (fun w=>q1 (w.imp .inl id)) (.inl z)
     · exact q1 (.inl (.inr z))
     · exact ban b o q2 (fun w=>q1 (w.imp .inl id)) (.inr z)
    | old =>
     rw[k]at ro;obtain⟨a,o',h1,h2,h3,h5⟩:=ro;rw[hf]at h5;refine⟨a,o',h1,s.none h2,h3,h5.same (fun b o q=>?_)⟩
     obtain⟨q1,q2⟩:=aJ.mp q;refine aJ.mpr ⟨fun z=>?_,q2⟩
     rcases z with (z | z) | z
     · exact ban b o q2 (fun w=>q1 (w.imp .inl id)) (.inl z)
     · exact q1 (.inl (.inr z))
     · exact ban b o q2 (fun w=>q1 (w.imp .inl id)) (.inr z)
    | tmp =>
     rw[k]at ro;obtain⟨a,o',h1,h2,h3,h5⟩:=ro;rw[hf]at h5;refine⟨a,o',h1,s.none h2,h3,h5.same (fun b o q=>?_)⟩
     obtain⟨q1,q2⟩:=aJ.mp q;refine aJ.mpr ⟨fun z=>?_,q2⟩
     rcases z with (z | z) | z
     · exact ban b o q2 (fun w=>q1 (w.imp .inl id)) (.inl z)
     · exact q1 (.inl (.inr z))
     · exact ban b o q2 (fun w=>q1 (w.imp .inl id)) (.inr z)
  · rw[if_neg hf]at h
    have hf':r.fr=false:=by cases q:r.fr with | true=>exact absurd q hf | false=>rfl
    cases e2:gives rs with
    | stk=>simp[e2]at h
    | exc x=>exact(gQ e2).elim
    | ok y =>
     simp only[e2,R.ok_bind]at h;have re:=gs.gives d0 e2;rw[sA e2]at re;refine⟨rs.map (·.d),Ban y.1 H0 B,fun b z=>?_,re,?_⟩
     · rcases z with z | ⟨_,o,z1,z2⟩
       · exact d.bnd b z
       · exact⟨o,d.sam _ _ z1,z2⟩
     · rw[e]
       intro v H2 s2 ro;refine h v H2 s2 ?_
       unfold fJ at ro;unfold aI;cases k:r.k with
       | shr =>
        rw[k,hf']at ro;simp only[if_true];exact Rep.same (dN (fun _ _ q _=>q) fun b z=>.inl (.inl z)) ro
       | own =>
        rw[k,hf']at ro;obtain⟨a,o',h1,h2,h3,h5⟩:=ro;refine⟨a,o',h1,s.none h2,h3,h5.same (dN (fun _ _ q _=>q) fun b z=>.inl (.inl ?_))⟩
        rcases z with (z | z) | z
        · exact .inl (.inl z)
        · exact .inr z
        · exact .inl (.inr z)
       | old =>
        rw[k,hf']at ro;obtain⟨a,o',h1,h2,h3,h5⟩:=ro;refine⟨a,o',h1,s.none h2,h3,h5.same (dN (fun _ _ q _=>q) fun b z=>.inl (.inl ?_))⟩
        rcases z with (z | z) | z
        · exact .inl (.inl z)
        · exact .inr z
        · exact .inl (.inr z)
       | tmp =>
        rw[k,hf']at ro;obtain⟨a,o',h1,h2,h3,h5⟩:=ro;refine⟨a,o',h1,s.none h2,h3,h5.same (dN (fun _ _ q _=>q) fun b z=>.inl (.inl ?_))⟩
        rcases z with (z | z) | z
        · exact .inl (.inl z)
        · exact .inr z
        · exact .inl (.inr z)
variable {x:Str}{p:Pos}{ps:List Str}{k:Nat}{CX:CXT}{cl:XC->Addr}{φ:Φ}
theorem bL (cc:aN X.prog X.w X.K X.mg X.base CX k x ps (spM X.K cl φ))(hr:Room k X.A)(hg:Gl X x)(ht:Thr CX cl X P)(ha:PA X (e :: es) (tAs X.K P fs))
 (hdb:(x==("__debug__":Str))=false:=by decide) (he:starEach (e :: es) X.env=(false,eval e X.env) :: starEach es X.env:=by rfl) (hpl:(backTo pos (starEach es X.env)).any (·.1)=false:=by rfl) :
 PE X (.Call (.Name x p) (e :: es) [] pos) (tE X.K P (aG φ fs)):=by
 obtain⟨fa,fd,F,m,kp,b⟩:=cc;intro pins s σ H Q I h;refine wpAny_Call_Name_kw (hV I hg m ?_ hdb)
 refine PySem.W.callWith_K (h₀:=X.base) I.ok.mod.kin kp (thn (ha pos pins s σ H _ I (yX (cl:=cl) h)) fun us s1 ⟨vs,H1,I1,r,q⟩=>⟨I1.kIn,?_⟩) he hpl
 exact aEe F hr b (fun e s' hq=>ht pins σ H1 s1 e s' I1 hq) I1 r q
theorem DenS.start {K:PySem.W.Frag}{H:Hp}{B:Addr->Prop}{vs:List V}{ds:List D}{N:List Str}(hB:∀ b,B b->∃ o,H b=some o/\stab o=false)(r:aL K (cut H B) ds vs):DenS K H H B (L2.start N vs) (stE N.length ds):=by
 have no:∀ i a,¬ dI (L2.start N vs) (stE N.length ds) i a:=fun i a ⟨_,e,h2,h3⟩=>by
  unfold stE at h2;by_cases hi:i<ds.length
  · rw[Bx (by simpa using hi),Be]at h2
    cases q:ds[i]? with
    | none=>rw[q]at h2;cases h2
    | some d=>rw[q]at h2;cases h2;cases h3
  · rw[Ar (by simpa using hi),Dc]at h2
    split at h2<;>cases h2
 refine⟨⟨?_,aD.refl H,fun b z=>?_,fun i e he=>?_⟩,fun a ⟨i,z⟩=>(no i a z).elim,fun i j a z _=>(no i a z).elim⟩
 · unfold stE L2.start
   simp[r.length]
 · rcases z with ⟨i,z⟩ | z
   · exact(no i b z).elim
   · exact hB b z
 · unfold stE at he
   by_cases hi:i<ds.length
   · rw[Bx (by simpa using hi),Be]at he
     cases q:ds[i]? with
     | none=>rw[q]at he;cases he
     | some d =>
      rw[q]at he;cases he;obtain⟨v,q1,q2⟩:=r.get q;refine⟨v,?_,?_⟩
      · unfold L2.start
        have:i<vs.length:=by rw[←r.length];exact hi
        rw[Bx (by simpa using this),Be,q1]
        rfl
      · refine Rep.same (dN (fun _ _ q _=>q) fun b z=>.inl ?_) q2
        rcases z with (⟨j,z⟩ | z) | ⟨z,_⟩
        · exact(no j b z).elim
        · exact z
        · cases z
   · rw[Ar (by simpa using hi),Dc]at he
     split at he<;>cases he
theorem fJ.fr {K:PySem.W.Frag}{H0 H':Hp}{T:Addr->Prop}{v:V}{r:Res}(s:aD H0 H')(h:fJ K H0 H' T v r):fJ K H0 H' T v ⟨r.k,r.fr||r.d.imm,r.d⟩:=by
 unfold fJ at h ⊢;cases k:r.k with
 | shr=>rw[k]at h;exact Rep.fr s h
 | own =>
  rw[k]at h;obtain⟨a,o,h1,h2,h3,h4⟩:=h;refine⟨a,o,h1,h2,h3,?_⟩
  rw[h4.imm,Ej];exact h4
 | old =>
  rw[k]at h;obtain⟨a,o,h1,h2,h3,h4⟩:=h;refine⟨a,o,h1,h2,h3,?_⟩
  rw[h4.imm,Ej];exact h4
 | tmp =>
  rw[k]at h;obtain⟨a,o,h1,h2,h3,h4⟩:=h;refine⟨a,o,h1,h2,h3,?_⟩
  rw[h4.imm,Ej];exact h4
section
variable {Pg:Program}{w:World}{K:PySem.W.Frag}{mg:Str->Option Value}{base:Heap}
theorem aDr {φ:Φ}{n:Nat}(h:∀ ds,ds.length≠n->φ ds=.stk):∀ vs H Q E,spM K cl φ vs H Q E->vs.length=n:=fun vs H Q E ⟨ds,B,_,r,q⟩=>by
 rw[←r.length];by_cases e:ds.length=n
 · exact e
 · rw[h ds e]at q;exact q.elim
end
end Mir
namespace Mir
open PySem L2
variable {X:Cx}{P:XP}{a b c e:Expr}{es:List Expr}{f g:FE}{fs:FEs}{pos:Pos}
theorem cA {i:Nat}{x:Str}(hN:X.N.Nodup)(hi:X.N[i]?=some x)(hx:Loc X.env.scope x)(hf:X.fn x=true\/X.env.scope.names.lookup x=some .local:=by first | exact .inl rfl | exact .inr rfl | assumption):PG X (.Name x pos) (gOf X.K (.nm i)):=by
 unfold gOf;exact aC3 hN hi hx hf
theorem iW:PGs X [] (iG X.K []):=by
 unfold iG;exact aDi
theorem cO {t:Tg}{ts:List Tg}(h1:PG X e (gOf X.K t))(h2:PGs X es (iG X.K ts))(hs:(assignEach (e :: es) X.env).map (·.2)=assign e X.env :: (assignEach es X.env).map (·.2):=by rfl):PGs X (e :: es) (iG X.K (t :: ts)):=by
 unfold iG;exact aAy h1 h2 hs
theorem qA {ts:List Tg}{k:Nat}(hc:X.calm=true)(h:PGs X es (iG X.K ts))(hn:(assignEach es X.env).length=ts.length:=by rfl)(hst:(assignEach es X.env).findIdx? (·.1)=none:=by rfl):PG X (.Tuple es k pos) (gOf X.K (.tp ts)):=by
 unfold gOf;exact aGu hc h hn hst
mutual
def Tg.inK (k:Nat):Tg->Bool
 | .nm i=>decide (i<k)
 | .tp ts=>Tg.inKs k ts
def Tg.inKs (k:Nat):List Tg->Bool
 | []=>true
 | t :: ts=>t.inK k&&Tg.inKs k ts
end
mutual
theorem aFb {K:PySem.W.Frag}:∀ t:Tg,uI (gOf K t)
 | .nm i=>by unfold gOf;exact zF
 | .tp ts=>by unfold gOf;exact aBr (uW ts)
theorem uW {K:PySem.W.Frag}:∀ ts:List Tg,lC (iG K ts)
 | []=>by unfold iG;exact yD
 | t :: ts=>by unfold iG;exact uO (aFb t) (uW ts)
end
mutual
theorem iC {K:PySem.W.Frag}{k:Nat}:∀ {t:Tg},t.inK k=true->rC k (gOf K t)
 | .nm i,h=>by unfold gOf;exact aCf (by simpa[Tg.inK] using h)
 | .tp ts,h=>by unfold gOf;exact aCz (aF0 (by simpa[Tg.inK] using h))
theorem aF0 {K:PySem.W.Frag}{k:Nat}:∀ {ts:List Tg},Tg.inKs k ts=true->tJ k (iG K ts)
 | [],_=>by unfold iG;exact zP
 | t :: ts,h=>by
  have h':t.inK k=true/\Tg.inKs k ts=true:=by simpa[Tg.inKs] using h
  unfold iG;exact zG (aFb t) (uW ts) (iC h'.1) (aF0 h'.2)
end
def aFt:List D->R (List Int)
 | []=>.ok []
 | d :: r=>do
  let i ← asI d
  let l ← aFt r
  .ok (i :: l)
variable {p:Pos}
inductive Ty where
 | int | bool | list | tuple | str
 deriving DecidableEq
def Ty.nm:Ty->String
 | .int=>"int"
 | .bool=>"bool"
 | .list=>"list"
 | .tuple=>"tuple"
 | .str=>"str"
def tD:Ty->D->R Bool
 | .int,.int _=>.ok true
 | .int,.bl _=>.ok true
 | .bool,.bl _=>.ok true
 | .list,.lst _=>.ok true
 | .tuple,.tup _=>.ok true
 | .str,.str _=>.ok true
 | _,.obj _ _=>.stk
 | _,.exc _ _=>.stk
 | _,.any=>.stk
 | _,.dct _ _=>.stk
 | _,_=>.ok false
def zZ (t:Ty)(a:FE):FE:=fun ρ=>do
 let x ← a ρ
 let b ← tD t x.d
 .ok (sc (.bl b))
def tyD:D->String
 | .non=>"NoneType"
 | .bl _=>"bool"
 | .int _=>"int"
 | .str _=>"str"
 | .lst _=>"list"
 | .tup _=>"tuple"
 | _=>""
theorem aDm {K:PySem.W.Frag}{H:Hp}{a:Addr}{xs:List V}(h:Rd H a (.lst xs)):TyOf K H (.ref a) (.type "list"):=by
 rcases h with h | ⟨o,h⟩
 · exact .lst h
 · exact .frz h
theorem aI.ty {K:PySem.W.Frag}{H0 H H':Hp}{B:Addr->Prop}{v:V}{r:Res}(g:aI K H0 H H' B v r)(h1:∀ c ds,r.d≠.obj c ds)(h2:∀ c ds,r.d≠.exc c ds)(h3:r.d≠.any)(h4:∀ c ds,r.d≠.dct c ds):TyOf K H' v (.type (tyD r.d)):=by
 cases k:r.d with
 | lst ds=>obtain⟨a,xs,q1,q2,q3⟩:=g.list k;rw[q1];exact aDm q2
 | non=>have:=g.shr_of (by rw[k];rfl);rw[k]at this;rw[show v=.non from this];exact .non
 | bl b=>have:=g.shr_of (by rw[k];rfl);rw[k]at this;rw[show v=.bl b from this];exact .bl b
 | int b=>have:=g.shr_of (by rw[k];rfl);rw[k]at this;rw[show v=.int b from this];exact .int b
 | str b=>have:=g.shr_of (by rw[k];rfl);rw[k]at this;rw[show v=.str b from this];exact .str b
 | tup ds =>
  obtain⟨a,xs,q1,q2,q3⟩:=g.tuple k;rw[q1];exact .tup q2
 | obj c b=>exact absurd k (h1 _ _)
 | exc c b=>exact absurd k (h2 _ _)
 | any=>exact absurd k h3
 | dct c b=>exact absurd k (h4 _ _)
theorem aA5 {t:Ty}{d:D}{x:Xc}(h:tD t d=.exc x):False:=by
 cases t<;>cases d<;>simp[tD]at h
theorem kF {t:Ty}{d:D}{b:Bool}(h:tD t d=.ok b):(∀ c ds,d≠.obj c ds)/\(∀ c ds,d≠.exc c ds)/\d≠.any/\∀ c ds,d≠.dct c ds:=by
 cases t<;>cases d<;>simp[tD]at h<;>exact⟨fun _ _ z=>(by cases z),fun _ _ z=>(by cases z),fun z=>(by cases z),fun _ _ z=>(by cases z)⟩
theorem aG2 {K:PySem.W.Frag}{t:Ty}{d:D}{b:Bool}(h:tD t d=.ok b):Bk K (.type (tyD d)) (.type t.nm)=some b:=by
 cases t<;>cases d<;>simp[tD]at h<;>subst h<;>rfl
theorem aJ2 {t:Ty}{y:Str}{p2:Pos}(hg:Gl X "isinstance")(hm:X.mg "isinstance" = none)(ha:PE X a (tE X.K P f))(hb:PE X (.Name y p2) (tC (.ty t.nm)))(he:starEach [a,.Name y p2] X.env=[(false,eval a X.env),(false,eval (.Name y p2) X.env)]:=by rfl)
 (he2:starEach [.Name y p2] X.env=[(false,eval (.Name y p2) X.env)]:=by rfl):PE X (.Call (.Name "isinstance" p) [a,.Name y p2] [] pos) (tE X.K P (zZ t f)):=by
 refine PE.imp (iT aCo hg hm (by decide +kernel) (jC ha (jC hb qQ he2) (by rw[he,he2])) (he:=by rw[he,he2]) (hpl:=by rw[he2];rfl)) ?_
 intro σ H Q h;refine t1 (q:=fun v H1=>∃ x t' n b,[v,V.ty t.nm]=[x,.ty n]/\TyOf X.K H1 x t'/\Bk X.K t' (.type n)=some b/\Q (.bl b) H1) h ?_
 intro H0 B ρ v H' r d g s h;cases e:tD t r.d with
 | stk=>simp[e]at h
 | exc x=>exact(aA5 e).elim
 | ok b =>
  simp only[e,R.ok_bind]at h;exact⟨v,_,t.nm,b,rfl,g.ty (kF e).1 (kF e).2.1 (kF e).2.2.1 (kF e).2.2.2,aG2 e,h _ H' (aD.refl _) (aI.sc (show Rep _ _ (.bl _) _ from rfl))⟩
end Mir
namespace Mir
open PySem L2
variable {X:Cx}{P:XP}{a b c e:Expr}{es:List Expr}{f g:FE}{fs:FEs}{pos p:Pos}
def yT (a b:FE):FE:=fun ρ=>do
 let x ← a ρ
 let y ← b ρ
 let ds ← asL x.d
 let k ← asI y.d
 if x.k≠.shr/\-(2^63)<=k/\k<2^63/\ds.length*k.toNat<=sizeLine then .ok ⟨.tmp,x.fr,.lst (Ap k.toNat ds).flatten⟩ else .stk
theorem aL.rep {K:PySem.W.Frag}{G:Hp}{ds:List D}{vs:List V}(r:aL K G ds vs):∀ n:Nat,aL K G (Ap n ds).flatten (Ap n vs).flatten
 | 0=>rfl
 | n+1=>by
  rw[Cc,Cu,Cc,Cu];exact r.append (aL.rep r n)
theorem aIv (ha:PE X a (tE X.K P f))(hb:PE X b (tE X.K P g)):PE X (.BinOp a .Mult b pos) (tE X.K P (yT f g)):=by
 refine PE.imp (aCa aGb ha hb) ?_
 intro σ H Q h;refine t2 (q:=fun x y H2=>aI5 x y H2 Q) h ?_
 intro H0 B ρ v w H' r r' d g1 g2 s h;cases e1:asL r.d with
 | stk=>simp[e1]at h
 | exc x=>exact(eB e1).elim
 | ok ds =>
  cases e2:asI r'.d with
  | stk=>simp[e1,e2]at h
  | exc x=>exact(cM e2).elim
  | ok k =>
   simp only[e1,e2,R.ok_bind]at h;by_cases hc:r.k≠.shr/\-(2^63)<=k/\k<2^63/\ds.length*k.toNat<=sizeLine
   · rw[if_pos hc]at h
     obtain⟨hk,h1,h2,hz⟩:=hc
     have:∃ a xs,v=.ref a/\H' a=some (.lst xs)/\aL X.K (aW r.fr H0 H' B) ds xs:=by
      have hd:=cW e1;obtain⟨a,o,q1,q2,q3⟩:=g1.con hk;rw[hd]at q3;obtain⟨vs,q4,q5⟩:=q3;subst q4;exact⟨a,vs,q1,q2,q5⟩
     obtain⟨a,xs,q1,q2,q3⟩:=this;exact⟨a,k,xs,q1,g2.int (dA e2),q2,h1,h2,by rw[←q3.length];exact hz,fun p hp=>h _ _ (aD.upd_new hp) (iH d s hp (q3.rep _))⟩
   · rw[if_neg hc]at h;exact h.elim
theorem aMg {k:Res->Res->R Res}{F:FE}(hF:F=fun ρ=>f ρ >>= fun x=>g ρ >>= fun y=>k x y){σ:St}{H:Hp}{Q:VK}{q:List V->Hp->Prop}(h:tE X.K P F σ H Q)
 (hk:∀ H0 B ρ v w H' r r',DenE X.K H0 H B σ ρ->DenE X.K H0 H' B σ ρ->aI X.K H0 H H' B v r->aI X.K H0 H H' B w r'->aD H H'->(match k r r' with
  | .ok r1=>∀ v1 H1,aD H' H1->aI X.K H0 H H1 B v1 r1->Q v1 H1
  | .exc x=>P.p x σ H'
  | .stk=>False)->q [v,w] H'):tAs X.K P [f,g] σ H q:=by
 have e:F=fun ρ=>evs [f,g] ρ >>= fun rs=>match rs with | [x,y]=>k x y | _=>.stk:=by
  rw[hF];funext ρ
  unfold evs evs;cases f ρ with
  | ok r =>
   show (g ρ >>= fun y=>k r y)=_
   cases g ρ with
   | ok r'=>rfl
   | _=>rfl
  | _=>rfl
 rw[e]at h;refine tA1 h ?_
 intro H0 B ρ vs H' rs d0 d gs s h;match vs,rs,gs with
 | [],rs,gs=>have e:rs=[]:=gs;subst e;exact h.elim
 | [v],_,⟨r,rr,e1,g1,g2⟩ =>
  subst e1;rw[show rr=[] from g2]at h
  exact h.elim
 | [v,w],_,⟨r,rr,e1,g1,r2,rr2,e2,g2,g3⟩ =>
  subst e1;subst e2;rw[show rr2=[] from g3]at h
  exact hk H0 B ρ v w H' r r2 d0 d g1 g2 s h
 | _ :: _ :: _ :: _,_,⟨r,rr,e1,g1,r2,rr2,e2,g2,r3,rr3,e3,_⟩ =>
  subst e1;subst e2;subst e3;exact h.elim
end Mir
namespace Mir
open PySem
def KD {α:Type}:Sem α->Prop
 | .pure _=>True
 | .raise _=>True
 | .unsupported _=>True
 | .finish _=>True
 | .rule _ k=>KD (k ())
 | .at _ k=>KD (k ())
 | .load _ _ k=>∀ o,KD (k o)
 | .update _ _ f k=>(∀ o:Obj,(f o).dict=o.dict/\(o.isFreed=false->(f o).isFreed=false))/\KD (k ())
 | .loadIfAlive _ k=>∀ o,KD (k o)
 | .point _ k=>KD (k ())
 | .alloc _ k=>∀ a,KD (k a)
 | .fresh k=>∀ a,KD (k a)
 | .ask k=>∀ a,KD (k a)
 | .handled _ k=>∀ a,KD (k a)
 | .stack k=>∀ a,KD (k a)
 | .thread k=>∀ a,KD (k a)
 | _=>False
theorem KD.bind {α β:Type}{m:Sem α}{f:α->Sem β}(h:KD m)(hf:∀ a,KD (f a)):KD (m >>= f):=by
 induction m with
 | pure a=>exact hf a
 | raise e=>exact trivial
 | unsupported w=>exact trivial
 | finish e=>exact trivial
 | rule t k ih=>exact ih () h
 | «at» p k ih=>exact ih () h
 | load a p k ih=>exact fun o=>ih o (h o)
 | update a p g k ih=>exact⟨h.1,ih () h.2⟩
 | loadIfAlive a k ih=>exact fun o=>ih o (h o)
 | point l k ih=>exact ih () h
 | alloc o k ih=>exact fun a=>ih a (h a)
 | fresh k ih=>exact fun a=>ih a (h a)
 | ask k ih=>exact fun a=>ih a (h a)
 | handled o k ih=>exact fun a=>ih a (h a)
 | stack k ih=>exact fun a=>ih a (h a)
 | thread k ih=>exact fun a=>ih a (h a)
 | _=>exact h.elim
theorem pE {h:Heap}{a:Addr}{o:Obj}(e:h.get? a=some o):o.isFreed=false:=(Heap.get?_some_iff.mp e).2
theorem KD.wp {α:Type}{M:Model}{Γ:Ctx}{Q:α->Pos->Shared->Prop}{E:Value->Pos->Shared->Prop}{e:Addr}{dx:Option Addr}(m:Sem α):KD m->∀ (p:Pos) (s:Shared) (o:Obj),s.heap.get? e=some o->o.dict=dx->Sem.wp M Γ m Q E p s ->
 Sem.wp M Γ m (fun a p s'=>Q a p s'/\∃ o',s'.heap.get? e=some o'/\o'.dict=dx) E p s:=by
 induction m with
 | pure a =>
  intro _ p s o h1 h2 h;rw[Sem.wp]at h ⊢;exact⟨h,o,h1,h2⟩
 | raise x =>
  intro _ p s o h1 h2 h;rw[Sem.wp]at h ⊢;exact h
 | unsupported w =>
  intro _ p s o h1 h2 h;rw[Sem.wp]at h;exact h.elim
 | finish w =>
  intro _ p s o h1 h2 h;rw[Sem.wp]at h;exact h.elim
 | rule t k ih =>
  intro kd p s o h1 h2 h;rw[Sem.wp]at h ⊢;exact ih () kd p s o h1 h2 h
 | «at» q k ih =>
  intro kd p s o h1 h2 h;rw[Sem.wp]at h ⊢;exact ih () kd q s o h1 h2 h
 | load a q k ih =>
  intro kd p s o h1 h2 h;rw[Sem.wp]at h ⊢;obtain⟨x,h3,h4⟩:=h;exact⟨x,h3,ih x (kd x) p s o h1 h2 h4⟩
 | update a q g k ih =>
  intro kd p s o h1 h2 h;rw[Sem.wp]at h ⊢;obtain⟨h3,h4⟩:=h;refine⟨h3,?_⟩
  by_cases z:a=e
  · subst z
    exact ih () kd.2 p _ (g o) (Cp g h1 ((kd.1 o).2 (pE h1))) ((kd.1 o).1.trans h2) h4
  · exact ih () kd.2 p _ o ((Cn _ _ z).trans h1) h2 h4
 | loadIfAlive a k ih =>
  intro kd p s o h1 h2 h;rw[Sem.wp]at h ⊢;exact ih _ (kd _) p s o h1 h2 h
 | point l k ih =>
  intro kd p s o h1 h2 h;rw[Sem.wp]at h ⊢;exact ih () kd p s o h1 h2 h
 | alloc x k ih =>
  intro kd p s o h1 h2 h;rw[Sem.wp]at h ⊢;exact ih _ (kd _) p _ o (Aa _ h1) h2 h
 | fresh k ih =>
  intro kd p s o h1 h2 h;rw[Sem.wp]at h ⊢;exact ih _ (kd _) p _ o h1 h2 h
 | ask k ih =>
  intro kd p s o h1 h2 h;rw[Sem.wp]at h ⊢;exact ih _ (kd _) p _ o h1 h2 h
 | handled w k ih =>
  intro kd p s o h1 h2 h;rw[Sem.wp]at h ⊢;exact ih _ (kd _) p _ o h1 h2 h
 | stack k ih =>
  intro kd p s o h1 h2 h;rw[Sem.wp]at h ⊢;exact ih _ (kd _) p _ o h1 h2 h
 | thread k ih =>
  intro kd p s o h1 h2 h;rw[Sem.wp]at h ⊢;exact ih _ (kd _) p _ o h1 h2 h
 | _=>exact fun kd=>kd.elim
theorem KD.any {α:Type}{M:Model}{A:Around}{Q:α->Shared->Prop}{E:Value->Shared->Prop}{s:Shared}{e:Addr}{o:Obj}{m:Sem α}(k:KD m)(h1:s.heap.get? e=some o)(h:wpAny M A m Q E s):wpAny M A m (fun a s'=>Q a s'/\∃ o',s'.heap.get? e=some o'/\o'.dict=o.dict) E s :=
 fun Γ p hΓ=>KD.wp m k p s o h1 rfl (h Γ p hΓ)
theorem aKi {α:Type}{w:String}:KD (unsupported w:Sem α):=trivial
theorem rL {a:Addr}:KD (load a):=fun _=>trivial
theorem mZ:KD stack:=fun _=>trivial
theorem aAi {a:Addr}{f:Obj->Obj}(h:∀ o:Obj,(f o).dict=o.dict/\(o.isFreed=false->(f o).isFreed=false)):KD (update a f):=⟨h,trivial⟩
theorem aHx (f:Array Value->Array Value)(o:Obj):(Obj.mapFields f o).dict=o.dict/\(o.isFreed=false->(Obj.mapFields f o).isFreed=false):=by
 obtain⟨c,d,da,sl⟩:=o;cases da<;>exact⟨rfl,id⟩
theorem tF (v:Value):KD (fieldsOf v):=by
 unfold fieldsOf;split
 · refine KD.bind rL fun o=>?_
   split<;>exact trivial
 · exact trivial
theorem kD (v:Value)(i:Nat):KD (field v i):=by
 unfold field;refine KD.bind (tF v) fun vs=>?_
 split<;>exact trivial
theorem iS (v:Value)(i:Nat)(x:Value):KD (setField v i x):=by
 unfold setField;split
 · unfold updateField
   refine KD.bind rL fun o=>?_
   split
   · split
     · exact aAi (aHx _)
     · exact trivial
   · exact trivial
 · exact trivial
theorem qP:KD frameEnvs:=by
 unfold frameEnvs;exact KD.bind mZ fun _=>trivial
theorem sB:∀ l:List PySem.Env,KD (readyFrames l)
 | []=>by unfold readyFrames;exact trivial
 | env :: outer=>by
  unfold readyFrames;split
  · refine KD.bind rL fun o=>?_
    split
    · exact trivial
    · refine KD.bind ?_ fun _=>KD.bind ?_ fun _=>KD.bind (aAi fun o=>⟨rfl,fun h=>by
       obtain⟨c,d,da,sl⟩:=o
       cases da<;>first | rfl | cases h⟩) fun _=>sB outer
      · unfold behindIsImport
        split
        · exact trivial
        · split
          · exact trivial
          · exact KD.bind (kD _ _) fun _=>trivial
      · unfold keptBack
        split
        · split
          · exact trivial
          · refine KD.bind ?_ fun _=>trivial
            unfold underTheClaimsCaller;exact KD.bind mZ fun _=>trivial
        · exact trivial
  · exact trivial
theorem vF (env:PySem.Env):KD (frameOf env):=by
 unfold frameOf;refine KD.bind qP fun l=>KD.bind ?_ fun r=>?_
 · unfold frameObject
   split
   · exact trivial
   · exact KD.bind (sB _) fun _=>trivial
 · split<;>exact trivial
theorem pB (f:Addr)(b:Bool):KD (entryPlaceOf f b):=by
 unfold entryPlaceOf;refine KD.bind mZ fun l=>?_
 split<;>exact trivial
theorem uC (a b c d e:Value)(l:List Value):KD (EntryCells.newEntry a b c d e l):=by
 unfold EntryCells.newEntry newFields newObj
 have jp:∀ da:Data,KD (newObjAsIs (.type "traceback") da):=fun da=>by
  unfold newObjAsIs;exact KD.bind (fun _=>trivial) fun _=>trivial
 generalize ([a,b,c,d,e]++if l.isEmpty=true then Ap 6 Value.none else l)=vs
 dsimp only
 split
 · exact KD.bind aKi fun _=>jp _
 · exact jp _
theorem xD (e:Value)(env:PySem.Env):KD (noteFrame e env):=by
 unfold noteFrame;split
 · rename_i f _
   refine KD.bind (kD _ _) fun h=>?_
   have last:KD (do setField e 1 (← EntryCells.newEntry h (← frameOf env) .none (rawInt f) .none (← entryPlaceOf f (h != .none)))):=KD.bind (vF _) fun _=>KD.bind (pB _ _) fun _=>KD.bind (uC _ _ _ _ _ _) fun _=>iS _ _ _
   split
   · refine KD.bind (kD _ _) fun x=>?_
     split
     · exact trivial
     · exact KD.bind (iS _ _ _) fun _=>last
   · exact last
 · exact trivial
theorem lG (e:Value)(f:Option Addr):KD (setFlight e f):=by
 unfold setFlight;refine KD.bind (kD _ _) fun tb=>?_
 split
 · exact iS _ _ _
 · exact trivial
theorem jN (env:PySem.Env)(e:Value):KD (leaving env e):=by
 unfold leaving;exact KD.bind (xD _ _) fun _=>lG _ _
end Mir
namespace Mir
open PySem L2
variable {X:Cx}{P:XP}{pins:List (Addr×Obj)}{σ:St}{H H':Hp}{s s':Shared}{ea C:Addr}
theorem cK.there {Pg:Program}{w:World}{H:Hp}{h:Heap}{a:Addr}{o:HO}(x:cK Pg w H h a o):∃ ob,h.get? a=some ob:=by
 cases o with
 | lst xs=>obtain⟨_,_,_,_,e⟩:=x;exact⟨_,e⟩
 | tup xs=>obtain⟨_,_,_,p⟩:=x;obtain⟨o,e,_⟩:=p;exact⟨o,e⟩
 | dK kvs=>obtain⟨_,_,_,_,o,_,_,e,_⟩:=x;exact⟨o,e⟩
 | dT kvs=>obtain⟨_,_,_,_,o,_,_,e,_⟩:=x;exact⟨o,e⟩
 | set S n=>obtain⟨o,_,_,_,e,_⟩:=x;exact⟨o,e⟩
 | ins C dx fs=>obtain⟨_,_,_,e,_⟩:=x;exact⟨_,e⟩
 | own y=>exact x
 | xd fs=>obtain⟨_,⟨o,_,_,e,_⟩,_⟩:=x;exact⟨o,e⟩
 | rng lo hi=>obtain⟨_,_,_,e⟩:=x;exact⟨_,e⟩
 | frz ob u=>obtain⟨e,_⟩:=x;exact⟨_,e⟩
 | tbl ps=>exact⟨_,x⟩
 | met f y=>exact⟨_,x⟩
 | ext φ=>obtain⟨_,e,_⟩:=x;exact e
structure Fly (Pg:Program)(w:World)(l:List PySem.Env)(H:Hp)(s:Shared)(ea C:Addr)(H':Hp)(s':Shared):Prop where
 os:s'.os=s.os
 bare:PyProof.Rows.AllBare s'.gens
 hok:HOk Pg w H' s'.heap
 un:Un (frs l) [] H H' s.heap s'.heap
 new:s.heap.get? ea=none
 unt:H' ea=none
 fly:∃ a0 Bh,Heap.FlyingW Bh l ea (.ref C) a0 s'.heap/\(∀ b o o',s.heap.get? b=some o->b∉frs l->s'.heap.get? b=some o'->Bh.get? b=some o')/\(∀ b u o',H' b=some u->s'.heap.get? b=some o'->Bh.get? b=some o')
def Dct (a:Addr)(dx:Option Addr)(h:Heap):Prop:=∃ o,h.get? a=some o/\o.dict=dx
def CXM (Pg:Program)(w:World):CXT:=fun outer H s E e s'=>∃ ea C dx H',e=.ref ea/\Fly Pg w outer H s ea C H' s'/\Dct ea dx s'.heap/\E (.ref C) dx H'
theorem mE {Pg:Program}{w:World}{h h' Bh:Heap}(x:HOk Pg w H h)(k:∀ b u o',H b=some u->h.get? b=some o'->Bh.get? b=some o')(st:Bh.StaysIn h'):HOk Pg w H h':=fun a o e =>
 (x a o e).stay (fun b u hb q=>by
  rcases hb with hb | hb
  · exact st _ _ (k b o u (by rw[hb];exact e) q)
  · exact st _ _ (k b _ u hb q)) (fun _ q=>q) fun _ _ q=>q
theorem rT {Pg:Program}{w:World}{fs:List Addr}{H0:Hp}{h0 h h' Bh:Heap}(u:Un fs [] H0 H h0 h)(ok:HOk Pg w H h)(hk:∀ b o o',h0.get? b=some o->b∉fs->h.get? b=some o'->Bh.get? b=some o')(ht:∀ b u o',H b=some u->h.get? b=some o'->Bh.get? b=some o')(st:Bh.StaysIn h')
 (sl:∀ b o,b∈fs->h.get? b=some o->∃ s,h'.get? b=some { o with slots:=s }):Un fs [] H0 H h0 h':=by
 refine⟨fun b o q n hb hx=>st _ _ (hk b o o q hb (u.keep b o q n hb hx)),fun b o q n hb hx=>?_,u.free,fun b o q hx=>?_,u.tups,u.frzs,u.tbls⟩
 · obtain⟨s1,e1⟩:=u.slot b o q n hb hx
   obtain⟨s2,e2⟩:=sl b _ hb e1;exact⟨s2,e2⟩
 · obtain⟨o',e⟩:=u.there b o q hx
   by_cases hb:b∈fs
   · obtain⟨s2,e2⟩:=sl b _ hb e
     exact⟨_,e2⟩
   · exact⟨o',st _ _ (hk b o o' q hb e)⟩
theorem gS {env:PySem.Env}{l:List PySem.Env}{L:Addr}(h:env.frame=some L):frs (env :: l)=L :: frs l:=by unfold frs;rw[Du,h]
theorem zS {M:Model}{E:Value->Shared->Prop}{Q:Unit->Shared->Prop}(I:Inv X pins σ H s)(hx:X.ex=[])(hst:X.stack=X.env :: X.outer)(hf:X.env.frame=some X.env.locals)(F:Fly X.prog X.w X.stack H s ea C H' s')
 (hQ:∀ h',Fly X.prog X.w X.outer X.H₀ X.s₀ ea C H' { s' with heap:=h' }->Q () { s' with heap:=h' }):wpAny M X.A (leaving X.env (.ref ea)) Q E s':=by
 obtain⟨a0,Bh,fl,cov,trk⟩:=F.fly;have I':Inv X pins σ H' s':=I.call' (ch:=[]) F.os F.un F.hok F.bare (fun b z=>absurd z (by simp))
 rw[hst]at fl;refine wpAny_leaves_onW (by rw[I.ok.frames,hst]) hf fl fun h' x1 x2=>hQ h' ?_
 have ne:∀ b o,X.s₀.heap.get? b=some o->b≠X.env.locals:=fun b o e=>Au (Ac (Ae e) I.ok.above)
 have cov':∀ b o o',X.s₀.heap.get? b=some o->b∉frs X.outer->s'.heap.get? b=some o'->Bh.get? b=some o':=fun b o o' e n q=>by
  obtain⟨o1,e1⟩:=I.base.there b o e (by rw[hx];simp)
  refine cov b o1 o' e1 ?_ q
  rw[hst,gS hf];simp only[Ad,not_or];exact⟨ne b o e,n⟩
 have base:Un (frs X.outer) [] X.H₀ H' X.s₀.heap s'.heap:=by
  have:=I'.base
  rw[hx]at this;exact this
 refine⟨F.os.trans I.os,F.bare,mE F.hok trk x1.1,rT base F.hok cov' trk x1.1 (fun b o hb q=>?_),?_,F.unt,a0,Bh,x1,fun b o o' e n q=>?_,fun b u o' e q=>?_⟩
 · obtain⟨_,o1,e1,nf⟩:=fl.2.2.1.mem (b:=b) (by have:=gS (l:=X.outer) hf;unfold frs at this;rw[this];exact Ab _ hb)
   rw[q]at e1;cases e1;exact x2 b o q nf
 · cases q:X.s₀.heap.get? ea with
   | none=>rfl
   | some o =>
    obtain⟨o1,e1⟩:=I.base.there ea o q (by rw[hx];simp)
    rw[F.new]at e1;cases e1
 · obtain⟨o1,e1⟩:=base.there b o e (by simp)
   have q1:=cov' b o o1 e n e1;have:=x1.1 _ _ q1
   rw[show ({ s' with heap:=h' }:Shared).heap.get? b=some o' from q]at this
   cases this;exact q1
 · obtain⟨o1,e1⟩:=cK.there (F.hok b u e)
   have q1:=trk b u o1 e e1;have:=x1.1 _ _ q1
   rw[show ({ s' with heap:=h' }:Shared).heap.get? b=some o' from q]at this
   cases this;exact q1
theorem aDn {M:Model}{E:Value->Shared->Prop}{Q:Unit->Shared->Prop}{dx:Option Addr}(I:Inv X pins σ H s)(hx:X.ex=[])(hst:X.stack=X.env :: X.outer)(hf:X.env.frame=some X.env.locals)(F:Fly X.prog X.w X.stack H s ea C H' s')(di:Dct ea dx s'.heap)
 (hQ:∀ h',Fly X.prog X.w X.outer X.H₀ X.s₀ ea C H' { s' with heap:=h' }->Dct ea dx h'->Q () { s' with heap:=h' }):wpAny M X.A (leaving X.env (.ref ea)) Q E s':=by
 obtain⟨o,e1,e2⟩:=di;refine wpAny_mono (KD.any (jN _ _) e1 (zS (Q:=fun _ s2=>∃ h',s2={ s' with heap:=h' }/\Fly X.prog X.w X.outer X.H₀ X.s₀ ea C H' { s' with heap:=h' }) I hx hst hf F fun h' z=>⟨h',rfl,z⟩)) (fun _ s2 z=>?_) fun _ _ z=>z
 obtain⟨⟨h',q1,q2⟩,o',q3,q4⟩:=z;subst q1;exact hQ h' q2 ⟨o',q3,q4.trans e2⟩
theorem yC {M:Model}{E:Value->Shared->Prop}{Q:Unit->Shared->Prop}{args:List Value}{h1:Heap}(I:Inv X pins σ H s)(hx:X.ex=[])(hst:X.stack=X.env :: X.outer)(hf:X.env.frame=some X.env.locals)(m:Heap.MadeExcOf s.heap h1 ea (.ref C) args)
 (hQ:∀ h',Fly X.prog X.w X.outer X.H₀ X.s₀ ea C H { s with heap:=h' }->Q () { s with heap:=h' }):wpAny M X.A (leaving X.env (.ref ea)) Q E { s with heap:=h1 }:=by
 have fr:=I.stack;have nl:∀ b,b∈frs X.stack->b∈frs X.stack:=fun b h=>h;refine wpAny_leaves_madeW (base:=Ck s.heap (frs X.stack)) (h:=s.heap) (by rw[I.ok.frames,hst]) hf (fun b o q=>Ev _ q) ?_ m fun h' t x1 x2 x3 x4=>hQ h' ?_
 · rw[←hst]
   exact PySem.W.funFrames_hide fr fun env he a ha=>Eb.mpr ⟨env,he,ha⟩
 · have ne:∀ b o,X.s₀.heap.get? b=some o->b≠X.env.locals:=fun b o e=>Au (Ac (Ae e) I.ok.above)
   have hid:∀ b o,s.heap.get? b=some o->b∉frs X.stack->(Ck s.heap (frs X.stack)).get? b=some o:=fun b o q n=>Es _ q n
   have nin:∀ b o,X.s₀.heap.get? b=some o->b∉frs X.outer->b∉frs X.stack:=fun b o e n=>by
    rw[hst,gS hf];simp only[Ad,not_or];exact⟨ne b o e,n⟩
   have trk:∀ b u o',H b=some u->s.heap.get? b=some o'->(Ck s.heap (frs X.stack)).get? b=some o':=fun b u o' e q=>hid b o' q fun z=>by
    rw[I.stkFree b z]at e;cases e
   have base:Un (frs X.outer) [] X.H₀ H X.s₀.heap s.heap:=by
    have:=I.base
    rw[hx]at this;exact this
   have un:=rT base I.hok (fun b o o' e n q=>hid b o' q (nin b o e n)) trk x1.1 (fun b o hb q=>?_)
   · refine⟨I.os,I.bare,mE I.hok trk x1.1,un,?_,?_,_,_,x1,fun b o o' e n q=>?_,fun b u o' e q=>?_⟩
     · cases q:X.s₀.heap.get? ea with
       | none=>rfl
       | some o =>
        obtain⟨o1,e1⟩:=I.base.there ea o q (by rw[hx];simp)
        rw[m.new]at e1;cases e1
     · cases q:H ea with
       | none=>rfl
       | some u =>
        obtain⟨o1,e1⟩:=cK.there (I.hok ea u q);rw[m.new]at e1;cases e1
     · obtain⟨o1,e1⟩:=base.there b o e (by simp)
       have q1:=hid b o1 e1 (nin b o e n);have:=x1.1 _ _ q1
       rw[show ({ s with heap:=h' }:Shared).heap.get? b=some o' from q]at this
       cases this;exact q1
     · obtain⟨o1,e1⟩:=cK.there (I.hok b u e)
       have q1:=trk b u o1 e e1;have:=x1.1 _ _ q1
       rw[show ({ s with heap:=h' }:Shared).heap.get? b=some o' from q]at this
       cases this;exact q1
   · have hb':b∈frs X.stack:=by rw[hst,gS hf];exact Ab _ hb
     obtain⟨_,o1,e1,nf⟩:=fr.mem (b:=b) hb';rw[q]at e1;cases e1;exact x4 b o (m.keeps _ _ q) nf
theorem zY {M:Model}{E:Value->Shared->Prop}{Q:Unit->Shared->Prop}{args:List Value}{h1:Heap}(I:Inv X pins σ H s)(hx:X.ex=[])(hst:X.stack=X.env :: X.outer)(hf:X.env.frame=some X.env.locals)(m:Heap.MadeExcOf s.heap h1 ea (.ref C) args)
 (hQ:∀ h',Fly X.prog X.w X.outer X.H₀ X.s₀ ea C H { s with heap:=h' }->Dct ea none h'->Q () { s with heap:=h' }):wpAny M X.A (leaving X.env (.ref ea)) Q E { s with heap:=h1 }:=by
 obtain⟨t,e1,_⟩:=m.there;refine wpAny_mono (KD.any (s:={ s with heap:=h1 }) (jN _ _) e1 (yC (Q:=fun _ s2=>∃ h',s2={ s with heap:=h' }/\Fly X.prog X.w X.outer X.H₀ X.s₀ ea C H { s with heap:=h' }) I hx hst hf m fun h' z=>⟨h',rfl,z⟩)) (fun _ s2 z=>?_) fun _ _ z=>z
 obtain⟨⟨h',q1,q2⟩,o',q3,q4⟩:=z;subst q1;exact hQ h' q2 ⟨o',q3,q4⟩
end Mir
namespace Mir
open PySem L2
variable {X:Cx}{P:XP}{a b c e:Expr}{es:List Expr}{f g:FE}{fs:FEs}{pos:Pos}
abbrev bmV:List Value:=[.type "ValueError",.type "Exception",.type "BaseException",.type "object"]
theorem aGw {K:PySem.W.Frag}{h:Heap}{C:Addr}{bmB:List Value}{newId:String}(X:K.In h)(q:Bl K C bmB newId=true) :
 ∃ bm N nm q bs hdct sn sub ab col dd k0 k1 k2 k3 k5 mN,h.get? C=some (excClassObj nm q C N bs bm hdct sn sub ab col dd k0 k1 k2 k3 k5 newId)/\h.Ns N mN/\mN "__init__" = none/\OwnTail h bmB bm:=by
 unfold Bl at q;repeat' split at q
 case h_1 dd c sl look _ _ C1 tl s0 s1 s2 s3 mk s5 em es =>
  simp only[Bm]at q;have eC:C1=C:=by simpa using q.1.1.1.1.1
  have en:mk=newId:=by simpa using q.1.1.1.1.2
  have ed:c.hasDel=false:=by simpa using q.1.1.1.2
  have ei:Ay K c.ns "__init__" = some none:=by simpa using q.2
  have ok:PySem.W.nsOkIn K c.ns=true:=q.1.2;have here:=X _ _ look;cases c;cases sl;dsimp only at em es ed ok ei
  subst eC en em es ed;exact⟨_,_,_,_,_,_,_,_,_,_,_,_,_,_,_,_,_,here,.of_isNs (Ew X ok),PySem.W.nsMap_none_of_in X ok ei,PySem.W.tail_of_in X q.1.1.2⟩
 all_goals exact absurd q Bv
def nM (c:XC)(fs:FEs):FS:=fun ρ=>(evs fs ρ).at ρ fun rs=>if rs.length<=sizeLine then .exc ⟨c,[]⟩ ρ else .stk
def aJx (cl:XC->Addr)(X:Cx)(P:XP):Prop:=∀ (pins:List (Addr×Obj)) (σ:St) (H:Hp) (s:Shared) (h1:Heap) (ea:Addr) (args:List Value) (x:Xc),x.ds=[]->Inv X pins σ H s->Heap.MadeExcOf s.heap h1 ea (.ref (cl x.c)) args->P.p x σ H->X.xe (.ref ea) { s with heap:=h1 }
theorem xJ {cl:XC->Addr}{xc:XC}{x:Str}{np cpos:Pos}(hm:X.mg x=some (.ref (cl xc)))(hK:Bl X.K (cl xc) bmV "ValueError.__new__" = true)(hc:X.calm=true)(hg:Gl X x)(ht:aJx cl X P)(ha:PA X (e :: es) (tAs X.K P fs))
 (hdb:(x==("__debug__":Str))=false:=by decide) (he:starEach (e :: es) X.env=(false,eval e X.env) :: starEach es X.env:=by rfl) (hpl:(backTo cpos (starEach es X.env)).any (·.1)=false:=by rfl) :
 PS X (.Raise (some (.Call (.Name x np) (e :: es) [] cpos)) none pos) (tS X.K P (nM xc fs)):=by
 intro pins s σ H D I h;obtain⟨H0,T,ρ,d,h⟩:=h;obtain⟨tl,N,nm,q,bs,hdct,sn,sub,ab,col,dd,k0,k1,k2,k3,k5,mN,hC,hN,hni,TL⟩:=aGw I.ok.mod.kin hK
 refine wpAny_Raise_call_subT (C:=cl xc) (nm:=nm) (q:=q) (N:=N) (bs:=bs) (bm:=tl) (hdct:=hdct) (sn:=sn) (sub:=sub) (ab:=ab) (col:=col) (dd:=dd) (k0:=k0) (k1:=k1) (k2:=k2) (k3:=k3) (k5:=k5)
  PySem.F.excBase_ValueError (mN:=mN) (TL.hasType PySem.F.excBase_ValueError.hasBase) (I.ok.hd hc) (by rw[he];show (false||(backTo cpos (starEach es X.env)).any (·.1))=false;rw[hpl];rfl) hni (hV I hg hm ⟨rfl,?_⟩ hdb)
 have key:tAs X.K P fs σ H fun vs H1=>vs.length<=sizeLine/\P.p ⟨xc,[]⟩ σ H1:=by
  refine⟨H0,_,ρ,d.e,?_⟩
  unfold nM at h;cases e1:evs fs ρ with
  | stk=>simp only[e1,R.at]at h;exact h.elim
  | exc z=>simp only[e1,R.at]at h;exact h σ H d Ext.refl
  | ok rs =>
   simp only[e1,R.at]at h;intro vs H1 s1 gs;by_cases hz:rs.length<=sizeLine
   · rw[if_pos hz]at h
     exact⟨by rw[gs.len];exact hz,h σ H1 (d.mono s1) (Ext.same s1)⟩
   · rw[if_neg hz]at h;exact h.elim
 have hA:=ha cpos pins s σ H _ I key;rw[he]at hA ⊢;refine Calls.evalArgs_plain (wpAny_mono hA (fun us s2 ⟨vs,H1,I1,r,q⟩=>⟨rfl,?_,I1.bk _ _ hC,hN.keeps I1.bk,TL.keeps I1.bk,fun h1 ea m=>?_⟩) fun _ _ y=>y)
 · show us.length<=sizeLine
   rw[←r.length];exact q.1
 · exact ht pins σ H1 s2 h1 ea _ ⟨xc,[]⟩ rfl I1 m q.2
def PX (cl:XC->Addr)(E:XK):XP:=⟨fun x _ H=>∀ H' dx,aD H H'->XD x dx H'->E (.ref (cl x.c)) dx H',fun h s H' dx s' xd=>h H' dx (s.trans s') xd⟩
section
variable {Pg:Program}{w:World}{K:PySem.W.Frag}{mg:Str->Option Value}{base:Heap}{cl:XC->Addr}{N:List Str}{qual:Str}{scope:Scope}{fa:Addr}{cdv:Value}{A:Around}{outer:List PySem.Env}{s0:Shared}{H0:Hp}{E:XK}
theorem eV:Thr (CXM Pg w) cl (jO (CXM Pg w) Pg w K mg base N qual scope fa cdv A outer s0 H0 E) (PX cl E):=by
 rintro pins σ H s e s' I ⟨ea,C,dx,H',rfl,F,di,x,hx,xd,px⟩
 refine aDn I rfl rfl rfl F di fun h' F' di'=>⟨ea,C,dx,H',rfl,F',di',?_⟩
 rw[hx];exact px H' dx (aD.refl H') xd
theorem aFz:aJx cl (jO (CXM Pg w) Pg w K mg base N qual scope fa cdv A outer s0 H0 E) (PX cl E):=by
 intro pins σ H s h1 ea args x z I m px;exact zY I rfl rfl rfl m fun h' F' di=>⟨ea,cl x.c,none,H,rfl,F',di,px H none (aD.refl H) (by unfold XD;rw[z])⟩
theorem nQ:PassesOwn (model Pg w) (jO (CXM Pg w) Pg w K mg base N qual scope fa cdv A outer s0 H0 E).A (jO (CXM Pg w) Pg w K mg base N qual scope fa cdv A outer s0 H0 E).env (jO (CXM Pg w) Pg w K mg base N qual scope fa cdv A outer s0 H0 E).xe:=PassesOwn.leaving
theorem aKd {X:Cx}{cl:XC->Addr}:Thr (CXM Pg w) cl X XP0:=by
 rintro pins σ H s e s' I ⟨ea,C,dx,H',rfl,F,di,x,hx,xd,px⟩
 exact px.elim
theorem aE9 {x:Str}{ps:List Str}{k:Nat}{st:Stmt}{F:FS}{f:Addr}{fd:FuncData}(Fu:Fun K x x st f fd)(S:FnScope N ps (aM st))
 (hb:∀ (f:Addr) (cdv:Value) (A:Around) (outer:List PySem.Env) (s:Shared) (H:Hp) (E:XK),Room k (A.deeper (Fy x (aM st) s.heap.objs.size f cdv)) ->
  PSs (jO (CXM Pg w) Pg w K mg base N x (aM st) f cdv A outer s H E) (cX st) (tS K (PX cl E) F)):FnOk Pg w K mg base (CXM Pg w) (k+1) f fd ps (spM K cl (bY ps.length N.length F)):=by
 obtain⟨oc,od,kV,doc,pm,an,cdv,ct,osl,rfl,lk,hcd⟩:=Fu.ex;refine zK lk hcd S (aDr fun ds e=>?_) fun A outer s H vs Q E hr hsp=>⟨_,hb f cdv A outer s H E hr,?_⟩
 · unfold bY
   rw[if_neg e]
 · obtain⟨ds,B,hB,r,q⟩:=hsp
   refine⟨H,B,stE N.length ds,DenS.start hB r,?_⟩
   unfold bY at q;by_cases e:ds.length=ps.length
   · rw[if_pos e]at q
     cases e2:F (stE N.length ds) with
     | nx ρ'=>simp only[e2]at q;exact fun σ' H' d' x'=>q .non H' d'.e.sam (show V.non=V.non from rfl)
     | rt r=>simp only[e2]at q;exact fun v H' s' ro=>q v H' s' (ro.fr s')
     | bk ρ'=>simp only[e2]at q
     | ct ρ'=>simp only[e2]at q
     | exc z ρ'=>simp only[e2]at q;exact fun σ' H' d' x' H'' dx s'' xd=>q H'' dx (d'.e.sam.trans s'') xd
     | stk=>simp only[e2]at q
   · rw[if_neg e]at q;exact q.elim
theorem dL {x:Str}{ps:List Str}{k:Nat}{st:Stmt}{F:FS}(Fa:bR K mg x st ps)(S:FnScope N ps (aM st))
 (hb:∀ (f:Addr) (cdv:Value) (A:Around) (outer:List PySem.Env) (s:Shared) (H:Hp) (E:XK),Room k (A.deeper (Fy x (aM st) s.heap.objs.size f cdv)) ->
  PSs (jO (CXM Pg w) Pg w K mg base N x (aM st) f cdv A outer s H E) (cX st) (tS K (PX cl E) F)):aN Pg w K mg base (CXM Pg w) (k+1) x ps (spM K cl (bY ps.length N.length F)) :=
 let ⟨f,fd,Fu,m,b⟩:=Fa
 ⟨f,fd,aE9 Fu S hb,m,Fu.kp,b⟩
end
end Mir
namespace Mir
open PySem L2
open PySem.W (Frag looks_findIn looks_find looks_mroIn findIn mroIn specialIn takesIn clsIn findObj notCls subIn looks_subIn Looks)
section
variable {prog:Program}{w:World}{A:Around}{E:Value->Shared->Prop}{s:Shared}{K:Frag}{C x:Addr}{ox:Obj}
structure XCls (K:Frag)(C:Addr):Prop where
 ga:findIn K (.ref C) "__getattribute__" = some (some (.builtin "BaseException.__getattribute__"))
 gh:findIn K (.ref C) "__getattr__" = some none
 cl:findIn K (.ref C) "__class__" = some (some (.builtin "object.__class__"))
 ob:mroIn K C (.type "object")=some true
 be:subIn K (.ref C) (.type "BaseException")=some true
 is:(clsIn K C).isSome=true
theorem dR.type {M:Model}{h:Heap}(I:dR x C h):Looks M h (typeOf (.ref x)) (.ref C):=by
 obtain⟨o,e,c,_⟩:=I;intro A Q E s k q;exact wpAny_bind (wpAny_loadPart (k _ _ e) (wpAny_pure (c▸q)))
theorem aMj {tp:Value}{R:Result->Shared->Prop}(c:XCls K C)(X:K.In s.heap)(I:dR x C s.heap)(q:R (.ok (.ret (.ref C))) s) :
 codeAny (model prog w) A (.call (.builtin "getset_descriptor.__get__") ⟨[.builtin "object.__class__",.ref x,tp],[]⟩) R s:=by
 have l0:=I.type (M:=model prog w);have l1:=looks_mroIn (M:=model prog w) X c.ob;rw[show ("object":String) = ".".intercalate ("object.__class__".cutAt '.').dropLast from (congrArg Prod.fst PySem.W.KF.owner_class).symm]at l1
 have ty:s.TypeIs (.builtin "object.__class__") "getset_descriptor":=F.typeOf_object_class;refine codeAny_call_builtin F.slot_gs_get.plain F.entry_gs_get (F.slot_gs_get.check _ _ _ _ _ _ _ _ ty (F.args_gs_get _ _ _) ?_)
 obtain⟨h,g,d,t,os⟩:=s;repeat (any_goals (first | assumption | with_reducible refine l0.at ?_ | with_reducible refine l1.at ?_ | wp_step))
 refine And.intro (Code.quiet_builtin _ (by decide +kernel)) (codeAny_builtin PySem.W.KF.entry_class ?_)
 repeat (any_goals (first | assumption | with_reducible refine l0.at ?_ | wp_step))
theorem aIx {tk:Tok}{Q:Fin->Shared->Prop}(c:XCls K C)(X:K.In s.heap)(I:dR x C s.heap)(q:Q (.done (.ret (.ref C))) s) :
 wpAny (model prog w) A (Builtin.«object.__getattribute__» ⟨[.ref x,.str "__class__" tk],[]⟩) Q E s:=by
 have l0:=I.type (M:=model prog w);have l1:=looks_findIn (M:=model prog w) X c.cl;have f1:s.TypeIs (.builtin "object.__class__") "getset_descriptor":=F.typeOf_object_class;have f2:=F.typeOf_object_class;have f3:=F.slot_gs_get.lookup;have f4:=F.slot_gs_set.lookup;obtain⟨h,g,d,t,os⟩:=s;repeat (any_goals (first | assumption | with_reducible refine l0.at ?_ | with_reducible refine l1.at ?_ | wp_step))
 exact aMj c X I (wpAny_pure q)
theorem aIz {nv:Value}{Q:Unit->Shared->Prop}(c:XCls K C)(X:K.In s.heap)(I:dR x C s.heap)(q:Q () s):wpAny (model prog w) A (checkBuiltinCall "BaseException.__getattribute__" ⟨[.ref x,nv],[]⟩) Q E s:=by
 have li:Looks (model prog w) s.heap (isInstance (.ref x) (.type "BaseException")) true:=I.type.andThen (looks_subIn X c.be);have k1:=show builtinKind "BaseException.__getattribute__" = some .slot by decide +kernel
 have k2:=show splitId "BaseException.__getattribute__" = some ("BaseException","__getattribute__") by decide +kernel
 have k3:=F.args_bexc_ga (.ref x) nv;obtain⟨h,g,d,t,os⟩:=s;simp only[checkBuiltinCall,k1,k2];refine wpAny_bind (li.at ?_)
 repeat any_goals first | assumption | wp_step
theorem aMc {Q:Option Value->Shared->Prop}(c:XCls K C)(X:K.In s.heap)(I:dR x C s.heap)(q:Q (some (.ref C)) { s with toks:=s.toks+1 }) :
 wpAny (model prog w) A (getAttr? (.ref x) "__class__") Q E s:=by
 have l0:=I.type (M:=model prog w);have l1:=looks_findIn (M:=model prog w) X c.ga;have l2:=looks_findIn (M:=model prog w) X c.gh
 have n1:(onTheHeap (Value.ref C)&&Value.builtin "BaseException.__getattribute__" == Value.builtin "object.__getattribute__")=false:=by
  rw[show (Value.builtin "BaseException.__getattribute__" == Value.builtin "object.__getattribute__")=false by decide +kernel,Bool.and_false]
 have l3:=F.excAttr_ValueError.ga.bind (.ref x);obtain⟨h,g,d,t,os⟩:=s;repeat (any_goals (first | assumption | with_reducible refine l0.at ?_ | with_reducible refine l1.at ?_ | with_reducible refine l2.at ?_ | wp_step))
 refine codeAny_call_builtin F.excAttr_ValueError.ga.plain F.entry_bexc_ga (aIz c X I (aIx c X I ?_))
 repeat any_goals first | assumption | wp_step
theorem mM (e:(clsIn K C).isSome=true):∃ c d cd sl,K.lookup C=some ⟨c,d,.cls cd,sl⟩:=by
 unfold clsIn at e;cases q:K.lookup C with
 | none=>simp[q]at e
 | some o =>
  obtain⟨c,d,da,sl⟩:=o;cases da<;>first | exact⟨_,_,_,_,rfl⟩ | simp[q]at e
theorem aCr (c:XCls K C):PySem.W.KitX K (.ref x) (.ref C) (dR x C) where
 ty _ _ _ I:=I.type
 it M h X _:=by
  obtain⟨k,d,cd,sl,e⟩:=mM c.is;intro A Q E s st q;exact wpAny_bind (wpAny_loadPart (st _ _ (X _ _ e)) (wpAny_pure q))
 ne h tp dd its n sl X e:=by
  obtain⟨k,d,cd,sl',e'⟩:=mM c.is;by_cases z:C=tp
  · subst z
    exact absurd ((X _ _ e').symm.trans e) (by simp)
  · simpa using z
 ca X I q:=aMc c X I q
end
end Mir
namespace Mir
open PySem L2
variable {X:Cx}{P:XP}{a b c e:Expr}{es:List Expr}{f g:FE}{fs:FEs}{pos p:Pos}
structure XTab (K:PySem.W.Frag):Prop where
 cl:∀ c:XC,XCls K (clK K c)
 xx:∀ c d:XC,Bk K (.ref (clK K d)) (.ref (clK K c))=some (decide (d=c))
 xv:∀ d:XC,Bk K (.ref (clK K d)) (.type "ValueError")=some true
 tx:∀ t∈["NoneType","bool","int","str","list","tuple"],∀ c:XC,Bk K (.type t) (.ref (clK K c))=some false
inductive TyX (K:PySem.W.Frag) (H:Hp):V->Value->Prop where
 | of {v:V} {t:Value} (h:TyOf K H v t):TyX K H v t
 | exc {a C:Addr} {φ:Heap->Prop} (c:XCls K C) (h:H a=some (.ext φ)) (hφ:∀ h,φ h->dR a C h):TyX K H (.ref a) (.ref C)
theorem aH3 {A:Around}{E:Value->Shared->Prop}{Q:Value->Shared->Prop}{pins:List (Addr×Obj)}{σ:St}{H:Hp}{s:Shared}{x:V}{u t c:Value}{b:Bool}(I:Inv X pins σ H s)(rx:bM x u)(ty:TyX X.K H x t)
 (e:Bk X.K t c=some b) (h:∀ tk,Q (.bool b) { s with toks:=tk }):wpAny (model X.prog X.w) A (call (.builtin "isinstance") [u,c]) Q E s:=by
 cases ty with
 | of ty=>exact pT I rx ty e h
 | @exc a C φ xc q hφ =>
  cases (show u=Value.ref a from rx)
  exact Br (aCr xc) I.kIn (hφ _ (I.hok a _ q).1) e (fun z=>nomatch z) h
theorem aCk {n:V}{c:Value}(rn:∀ v,bM n v->v=c):kM X (.builtin "isinstance") (fun xs H Q=>∃ x t b,xs=[x,n]/\TyX X.K H x t/\Bk X.K t c=some b/\Q (.bl b) H):=by
 intro pins s σ H xs us Q I r h;obtain⟨x,t,b,rfl,ty,e,q⟩:=h;obtain⟨u,v,rfl,r1,r2⟩:=xM r;rw[rn v r2];exact aH3 I r1 ty e fun tk=>⟨.bl b,H,I.tok tk,rfl,q⟩
def isX:Option XC->D->R Bool
 | _,.obj _ _=>.stk
 | _,.any=>.stk
 | _,.dct _ _=>.stk
 | some c,.exc d _=>.ok (decide (d=c))
 | none,.exc _ _=>.ok true
 | _,_=>.ok false
def jF (c:Option XC)(a:FE):FE:=fun ρ=>do
 let x ← a ρ
 let b ← isX c x.d
 .ok (sc (.bl b))
def vX (K:PySem.W.Frag):Option XC->V
 | some c=>.ref (clK K c)
 | none=>.ty "ValueError"
def aHp (K:PySem.W.Frag):Option XC->Value
 | some c=>.ref (clK K c)
 | none=>.type "ValueError"
theorem aIk {K:PySem.W.Frag}:∀ c:Option XC,∀ v,bM (vX K c) v->v=aHp K c
 | some _,_,h=>h
 | none,_,h=>h
theorem aMf {t:String}(h:t∈["NoneType","bool","int","str","list","tuple"]){K:PySem.W.Frag}:Bk K (.type t) (.type "ValueError")=some false:=by
 simp only[Ad,Ak,or_false]at h;rcases h with rfl | rfl | rfl | rfl | rfl | rfl<;>rfl
theorem aE2 {c:Option XC}{d:D}{x:Xc}(h:isX c d=.exc x):False:=by
 cases c<;>cases d<;>simp[isX]at h
theorem aI.tyX {K:PySem.W.Frag}{H0 H H':Hp}{B:Addr->Prop}{v:V}{r:Res}{c:Option XC}{b:Bool}(T:XTab K)(g:aI K H0 H H' B v r)(e:isX c r.d=.ok b):∃ t,TyX K H' v t/\Bk K t (aHp K c)=some b:=by
 cases k:r.d with
 | obj n ds=>rw[k]at e;cases c<;>simp[isX]at e
 | dct n ds=>rw[k]at e;cases c<;>simp[isX]at e
 | any=>rw[k]at e;cases c<;>simp[isX]at e
 | exc d ds =>
  have:=g.shr_of (by rw[k];rfl)
  rw[k]at this;obtain⟨a,φ,rfl,q,hφ,_⟩:=this;refine⟨_,.exc (T.cl d) (aJ.mp q).2 hφ,?_⟩
  rw[k]at e;cases c with
  | none=>simp[isX]at e;subst e;exact T.xv d
  | some c=>simp only[isX,R.ok.injEq]at e;rw[←e];exact T.xx c d
 | _ =>
  have ty:TyOf K H' v (.type (tyD r.d)):=g.ty (by rw[k];exact fun _ _ z=>by cases z) (by rw[k];exact fun _ _ z=>by cases z) (by rw[k];exact fun z=>by cases z) (by rw[k];exact fun _ _ z=>by cases z)
  rw[k]at e ty;refine⟨_,.of ty,?_⟩
  cases c with
  | none=>simp[isX]at e;subst e;exact aMf (by simp[tyD])
  | some c=>simp[isX]at e;subst e;exact T.tx _ (by simp[tyD]) c
theorem fL {c:Option XC}{y:Str}{p2:Pos}(T:XTab X.K)(hg:Gl X "isinstance")(hm:X.mg "isinstance" = none)(ha:PE X a (tE X.K P f))(hb:PE X (.Name y p2) (tC (vX X.K c)))(he:starEach [a,.Name y p2] X.env=[(false,eval a X.env),(false,eval (.Name y p2) X.env)]:=by rfl)
 (he2:starEach [.Name y p2] X.env=[(false,eval (.Name y p2) X.env)]:=by rfl):PE X (.Call (.Name "isinstance" p) [a,.Name y p2] [] pos) (tE X.K P (jF c f)):=by
 refine PE.imp (iT (aCk (aIk (K:=X.K) c)) hg hm (by decide +kernel) (jC ha (jC hb qQ he2) (by rw[he,he2])) (he:=by rw[he,he2]) (hpl:=by rw[he2];rfl)) ?_
 intro σ H Q h;refine t1 (q:=fun v H1=>∃ x t b,[v,vX X.K c]=[x,vX X.K c]/\TyX X.K H1 x t/\Bk X.K t (aHp X.K c)=some b/\Q (.bl b) H1) h ?_
 intro H0 B ρ v H' r d g s h;cases e:isX c r.d with
 | stk=>simp[e]at h
 | exc x=>exact(aE2 e).elim
 | ok b =>
  simp only[e,R.ok_bind]at h;obtain⟨t,ty,kk⟩:=g.tyX T e;exact⟨v,t,b,rfl,ty,kk,h _ H' (aD.refl _) (aI.sc (show Rep _ _ (.bl _) _ from rfl))⟩
end Mir
namespace Mir
open PySem L2
variable {X:Cx}{P:XP}{pins:List (Addr×Obj)}{σ:St}{H H':Hp}{s s':Shared}{ea C:Addr}
abbrev reC (X:Cx)(A:Around)(cm:Bool)(pn:List (Addr×Obj))(xe:Value->Shared->Prop):Cx:={ X with A:=A,calm:=cm,pn:=pn,xe:=xe }
theorem pC {A:Around}{cm:Bool}{pn pins':List (Addr×Obj)}{xe:Value->Shared->Prop}(I:Inv X pins σ H s)(hA:A.frames=X.A.frames)(hc:cm=true->A.handled=none)(hp:∀ p∈pn++pins',p∈X.pn++pins):Inv (reC X A cm pn xe) pins' σ H s :=
 have k:=I.ok
 ⟨⟨k.mod,k.kind,k.glob,k.blt,k.above,k.inj,k.has,k.cab,hc,hA.trans k.frames,k.stk,k.exf,k.bs,k.bsz,k.noex,k.exfs,k.funs,k.frf⟩,I.os,I.bare,I.base,I.loc,I.cell,I.free,I.freeC,fun p h=>I.pin p (hp p h),I.hok,I.len⟩
theorem mL {A:Around}{cm:Bool}{pn pins':List (Addr×Obj)}{xe:Value->Shared->Prop}(I:Inv (reC X A cm pn xe) pins' σ H s)(hA:A.frames=X.A.frames)(hc:X.calm=true->X.A.handled=none)(hp:∀ p∈X.pn++pins,p∈pn++pins'):Inv X pins σ H s :=
 have k:=I.ok
 ⟨⟨k.mod,k.kind,k.glob,k.blt,k.above,k.inj,k.has,k.cab,hc,hA.symm.trans k.frames,k.stk,k.exf,k.bs,k.bsz,k.noex,k.exfs,k.funs,k.frf⟩,I.os,I.bare,I.base,I.loc,I.cell,I.free,I.freeC,fun p h=>I.pin p (hp p h),I.hok,I.len⟩
section
variable {Pg:Program}{w:World}{l:List PySem.Env}{M:Model}{A:Around}{E:Value->Shared->Prop}{R:Shared->Prop}
theorem Fly.at {h' Bh:Heap}{a0:Value}(F:Fly Pg w l H s ea C H' s')(fl:Heap.FlyingW Bh l ea (.ref C) a0 s'.heap)(cov:∀ b o o',s.heap.get? b=some o->b∉frs l->s'.heap.get? b=some o'->Bh.get? b=some o')
 (trk:∀ b u o',H' b=some u->s'.heap.get? b=some o'->Bh.get? b=some o') (fl':Heap.FlyingW Bh l ea (.ref C) a0 h') (up:s'.heap.UpToSlots h'):Fly Pg w l H s ea C H' { s' with heap:=h' }:=by
 have same:∀ b o1 o',Bh.get? b=some o1->h'.get? b=some o'->o1=o':=fun b o1 o' q e=>Ca.inj ((fl'.1 _ _ q).symm.trans e);refine⟨F.os,F.bare,mE F.hok trk fl'.1,rT F.un F.hok cov trk fl'.1 fun b o hb q=>?_,F.new,F.unt,a0,Bh,fl',fun b o o' e n q=>?_,fun b u o' e q=>?_⟩
 · obtain⟨_,o1,e1,nf⟩:=fl.2.2.1.mem (b:=b) hb
   rw[q]at e1;cases e1;exact up b o q nf
 · obtain⟨o1,e1⟩:=F.un.there b o e (by simp)
   have q1:=cov b o o1 e n e1;exact same b o1 o' q1 q▸q1
 · obtain⟨o1,e1⟩:=cK.there (F.hok b u e)
   have q1:=trk b u o1 e e1;exact same b o1 o' q1 q▸q1
theorem Fly.lands {env:PySem.Env}{outer:List PySem.Env}{L:Addr}(F:Fly Pg w (env :: outer) H s ea C H' s')(hA:A.frames=some (env :: outer))(hf:env.frame=some L)(q:∀ h',Fly Pg w (env :: outer) H s ea C H' { s' with heap:=h' }->R { s' with heap:=h' }) :
 wpAny M A (noteFrame (.ref ea) env) (fun _ s3=>wpAny M A (setFlight (.ref ea) none) (fun _ s4=>R s4) E s3) E s':=by
 obtain⟨a0,Bh,fl,cov,trk⟩:=id F.fly;refine wpAny_looks_onW hA hf fl fun h1 x1 u1=>wpAny_landsW x1 fun h2 x2 u2=>?_
 exact q h2 (F.at fl cov trk x2 (u1.trans u2))
theorem Fly.again (F:Fly Pg w l H s ea C H' s')(q:∀ h',Fly Pg w l H s ea C H' { s' with heap:=h' }->R { s' with heap:=h' }):wpAny M A (setFlight (.ref ea) none) (fun _ s4=>R s4) E s':=by
 obtain⟨a0,Bh,fl,cov,trk⟩:=id F.fly;exact PyProof.Rows.lands_againW fl fun h1 x1 u1=>q h1 (F.at fl cov trk x1 u1)
theorem Fly.exc (F:Fly Pg w l H s ea C H' s'):dR ea C s'.heap:=by
 obtain⟨a0,Bh,fl,_,_⟩:=F.fly;obtain⟨o,vs,e1,e2,e3,_⟩:=fl.first
 exact⟨o,e1,e2,by unfold Fw;rw[e3]⟩
end
theorem Fly.inv (F:Fly X.prog X.w X.stack H s ea C H' s')(I:Inv X pins σ H s):Inv X pins σ H' s':=I.call' (ch:=[]) F.os F.un F.hok F.bare fun b z=>absurd z (by simp)
theorem Inv.track {φ:Heap->Prop}(I0:Inv X pins σ H s)(I:Inv X pins σ H' s')(hx:X.ex=[])(new:s.heap.get? ea=none)(unt:H' ea=none)(ok:φ s'.heap)(st:∀ h1 h2:Heap,φ h1->(∀ o,h1.get? ea=some o->h2.get? ea=some o)->φ h2)(at_:∃ o,s'.heap.get? ea=some o) :
 Inv X pins σ (upd H' ea (.ext φ)) s':=by
 have old:∀ b o,s.heap.get? b=some o->b≠ea:=fun b o e z=>by rw[z,new]at e;cases e
 have old0:∀ b o,X.s₀.heap.get? b=some o->b≠ea:=fun b o e=>by
  obtain⟨o1,e1⟩:=I0.base.there b o e (by rw[hx];simp)
  exact old b o1 e1
 have ne:∀ b u,H' b=some u->b≠ea:=fun b u e z=>by rw[z,unt]at e;cases e
 have keep:∀ b u,H' b=some u->upd H' ea (.ext φ) b=some u:=fun b u e=>by rw[aR (ne b u e)];exact e
 have bs:=I.base;refine⟨I.ok,I.os,I.bare,⟨bs.keep,bs.slot,fun b o e n hb=>?_,bs.there,fun b xs e=>keep _ _ (bs.tups b xs e),fun b o u e=>keep _ _ (bs.frzs b o u e),fun b ps e=>?_⟩,I.loc,I.cell,?_,fun x c e=>?_,fun p hp=>?_,fun b u e=>?_,I.len⟩
 · rw[aR (old0 b o e)];exact bs.free b o e n hb
 · obtain⟨more,q⟩:=bs.tbls b ps e
   exact⟨more,keep _ _ q⟩
 · obtain⟨m,⟨o,_,_,e,_⟩,_⟩:=I0.loc
   rw[aR (old _ o e)];exact I.free
 · obtain⟨v,o,q,_⟩:=I0.cell x c e
   rw[aR (old _ o q)];exact I.freeC x c e
 · obtain⟨q1,q2,q3⟩:=I.pin p hp
   rw[aR (old _ _ (I0.pin p hp).1)];exact⟨q1,q2,q3⟩
 · by_cases z:b=ea
   · subst z
     rw[bC]at e;cases e;exact⟨ok,at_,st⟩
   · rw[aR z]at e
     exact(I.hok b u e).stay (fun _ _ _ q=>q) (fun c q=>keep _ _ q) fun c xs q=>keep _ _ q
structure XTop (K:PySem.W.Frag)(T:Addr):Prop where
 ty:Cz K (.ref T)=some (.type "type")
 is:(Dh K T).isSome=true
 be:Dv K (.ref T) (.type "BaseException")=some true
 xs:∀ c:XC,Dv K (.ref (clK K c)) (.ref T)=some true
theorem aGt {M:Model}{A:Around}{E:Value->Shared->Prop}{K:PySem.W.Frag}{T:Addr}{c:XC}{Q:Bool->Shared->Prop}(t:XTop K T)(X:K.In s.heap)(I:dR ea (clK K c) s.heap)(q:Q true s):wpAny M A (excMatches (.ref ea) (.ref T)) Q E s:=by
 have l0:=I.type (M:=M);have l1:=PySem.W.looks_typeIn (M:=M) X t.ty;have l2:=Dt (M:=M) X t.be;have l3:=Dt (M:=M) X (t.xs c);have f:=tc_notTuple;obtain⟨k,d,cd,sl,e⟩:=mM t.is;have e':=X _ _ e;obtain⟨h,g,dr,tk,os⟩:=s;unfold excMatches;repeat (first | assumption | with_reducible refine l0.at ?_ | with_reducible refine l1.at ?_ | with_reducible refine l2.at ?_ | with_reducible refine l3.at ?_ | with_reducible refine wpAny_loadPart_at e' ?_ | wp_step)
end Mir
namespace Mir
open PySem L2
variable {X:Cx}{P:XP}{pins:List (Addr×Obj)}{σ:St}{H H':Hp}{s s':Shared}{ea C:Addr}
theorem DenS.unset {K:PySem.W.Frag}{H0 H:Hp}{T:Addr->Prop}{σ:St}{ρ:Env}(k:Nat)(d:DenS K H0 H T σ ρ):DenS K H0 H T (σ.set k none) (ρ.set k none)/\∀ a,iE (σ.set k none) (ρ.set k none) a->iE σ ρ a:=by
 have own:∀ j a,dI (σ.set k none) (ρ.set k none) j a->k≠j/\dI σ ρ j a:=fun j a ⟨h1,e,h2,h3⟩=>by
  by_cases hj:k=j
  · subst hj
    rw[Fd]at h2;split at h2<;>simp_all
  · rw[Ai hj]at h1 h2
    exact⟨hj,h1,e,h2,h3⟩
 have sub:∀ a,iE (σ.set k none) (ρ.set k none) a->iE σ ρ a:=fun a ⟨j,h⟩=>⟨j,(own j a h).2⟩;have subB:∀ a,Bs T (σ.set k none) (ρ.set k none) a->Bs T σ ρ a:=fun a z=>z.imp (sub a) id;refine⟨⟨⟨by rw[Az,Az];exact d.e.len,d.e.sam,fun b z=>d.e.bnd b (subB b z),fun j e he=>?_⟩,fun a z=>d.sep a (sub a z),fun i j a h1 h2=>d.dis i j a (own i a h1).2 (own j a h2).2⟩,sub⟩
 have hj:k≠j:=fun z=>by
  subst z;rw[Fd]at he;split at he<;>simp_all
 rw[Ai hj]at he;obtain⟨w,q1,q2⟩:=d.e.ent j e he;refine⟨w,by rw[Ai hj];exact q1,q2.to d.e.sam (fun _ _ q _=>q) (fun b o q _ k1 k2=>⟨q,.inl ⟨j,?_⟩⟩) fun b z=>.inl (subB b z)⟩
 exact⟨by rw[Ai hj,q1,k2],e,by rw[Ai hj];exact he,k1⟩
theorem Inv.unset {h':Heap}{m m':Str->Option Value}{k:Nat}{n:Str}(I:Inv X pins σ H s)(hN:X.N.Nodup)(hk:X.N[k]?=some n)(hn:s.heap.Ns X.env.locals m)
 (look:∀ (i:Nat) (x:Str) (v:V),X.N[i]?=some x->σ[i]?=some (some v)->Vis X.env.scope x->∃ u,bM v u/\aLd X.env s.heap m x u) (hn':h'.Ns X.env.locals m') (hm:∀ x,x≠n->m' x=m x) (sb:Heap.SameBut X.env.locals s.heap h'):Inv X pins (σ.set k none) H { s with heap:=h' }:=by
 have neL:∀ b o,X.s₀.heap.get? b=some o->b≠X.env.locals:=fun b o e=>Au (Ac (Ae e) I.ok.above);have kp:∀ b o,b≠X.env.locals->s.heap.get? b=some o->h'.get? b=some o:=fun b o z e=>(sb.2 b z).trans e;have nt:∀ b u,H b=some u->b≠X.env.locals:=fun b u e z=>by rw[z,I.free]at e;cases e
 have bs:=I.base;refine⟨I.ok,I.os,I.bare,⟨fun b o e q1 q2 q3=>kp _ _ (neL b o e) (bs.keep b o e q1 q2 q3),fun b o e q1 q2 q3=>?_,bs.free,fun b o e q=>?_,bs.tups,bs.frzs,bs.tbls⟩,⟨m',hn',fun i x v e1 e2 e3=>?_⟩,fun x c e=>?_,I.free,I.freeC,fun p hp=>?_,fun b u e=>?_,by rw[Az];exact I.len⟩
 · obtain⟨sl,q⟩:=bs.slot b o e q1 q2 q3
   exact⟨sl,kp _ _ (neL b o e) q⟩
 · obtain⟨o',q'⟩:=bs.there b o e q
   exact⟨o',kp _ _ (neL b o e) q'⟩
 · have ik:k≠i:=fun z=>by
    subst z;rw[Fd]at e2;split at e2<;>simp_all
   rw[Ai ik]at e2
   have xn:x≠n:=fun z=>by
    subst z;obtain⟨l1,q1⟩:=Ao.mp e1;obtain⟨l2,q2⟩:=Ao.mp hk;exact ik ((List.getElem_inj hN).mp (q2.trans q1.symm))
   obtain⟨u,r,lk⟩:=look i x v e1 e2 e3;refine⟨u,r,?_⟩
   rcases lk with ⟨a,b⟩ | ⟨a,c,b,o,q1,q2⟩
   · exact .inl ⟨a,by rw[hm x xn];exact b⟩
   · exact .inr ⟨a,c,b,o,kp _ _ (I.cne x c b) q1,q2⟩
 · obtain⟨v,o,q1,q2⟩:=I.cell x c e
   exact⟨v,o,kp _ _ (I.cne x c e) q1,q2⟩
 · obtain⟨q1,q2,q3,q4⟩:=I.pin p hp
   exact⟨kp _ _ q3 q1,q2,q3,q4⟩
 · refine(I.hok b u e).stay (fun c v z q=>kp c v ?_ q) (fun _ q=>q) fun _ _ q=>q
   rcases z with z | z
   · rw[z];exact nt b u e
   · exact nt c _ z
theorem aJz {M:Model}{A:Around}{E:Value->Shared->Prop}{R:Shared->Prop}{k:Nat}{n:Str}{pos:Pos}(I:Inv X pins σ H s)(hN:X.N.Nodup)(hk:X.N[k]?=some n)(hl:X.env.kindOf n=some .local)(hl':X.env.scope.names.lookup n=some .local)
 (q:∀ s',Inv X pins (σ.set k none) H s'->R s'):wpAny M A (do bindName X.env n .none;unbindBehindTheSuite X.env n pos) (fun _ s1=>R s1) E s:=by
 refine wpAny_bind (wpAny_bindName (gV I hN hk (.inl hl') (v:=.non) rfl (fun s1 I1=>?_) (.inr hl')))
 have kl:k<σ.length:=by rw[I.len];exact(Ao.mp hk).1
 obtain⟨m,hn,look⟩:=id I1.loc;obtain⟨u,r,lk⟩:=look k n .non hk (Al kl) (.inl hl')
 have hv:m n=some u:=by
  rcases lk with ⟨_,e⟩ | ⟨e | e,_⟩
  · exact e
  · rw[hl]at e;cases e
  · rw[hl]at e;cases e
 refine wpAny_onRaise (wpAny_unbindName_local hl hn hv (by rw[I.ok.kind];rfl) fun h' w ns sb=>?_)
 have:=Inv.unset I1 hN hk hn look ns (fun x hx=>if_neg hx) sb
 rw[List.set_set]at this;exact q _ this
def PTr (K:PySem.W.Frag)(D:Ends)(i k:Nat):XP where
 p x σ H:=x.ds=[]/\∀ H' a,aD H H'->H' a=none->D.nx ((σ.set i (some (.ref a))).set k none) (upd H' a (.ext (dR a (clK K x.c))))
 mono h s:=⟨h.1,fun H' a s' n=>h.2 H' a (s.trans s') n⟩
theorem aJf {α:Type}{l:List α}{i k:Nat}{a b c:α}(h:i≠k):((l.set k a).set i b).set k c=(l.set i b).set k c:=by
 rw[List.set_comm _ _ (Ne.symm h),List.set_set]
section
variable {i k:Nat}{y n cx:Str}{np p1 p2 p3 hpos pos:Pos}{T:Addr}
abbrev qT (cx n y:Str)(np p1 p2 p3 hpos:Pos):ExceptHandler:=.ExceptHandler (some (.Name cx np)) (some n) [.Assign [.Name y p1] (.Name n p2) p3] hpos
theorem aGx {D:Ends}{x:Xc}{pn pins2:List (Addr×Obj)}{xe:Value->Shared->Prop}(hx:X.ex=[])(hst:X.stack=X.env :: X.outer)(hf:X.env.frame=some X.env.locals)(t:XTop X.K T)(hg:Gl X cx)(hm:X.mg cx=some (.ref T))
 (hN:X.N.Nodup) (hi:X.N[i]?=some y) (hk:X.N[k]?=some n) (hik:i≠k) (ly:X.env.scope.names.lookup y=some .local) (ln:X.env.scope.names.lookup n=some .local) (kn:X.env.kindOf n=some .local)
 (hs:swapsWith (.Name n p2) (some (.Name y p1)) p3.line X.env=pure false) (d1:(cx==("__debug__":Str))=false) (d2:(n==("__debug__":Str))=false) (d3:(n==("__classdict__":Str))=false)
 (hp:∀ p∈X.pn++pins,p∈pn++pins2) (I:Inv (reC X X.A X.calm pn xe) pins2 σ H s) (F:Fly X.prog X.w X.stack H s ea (clK X.K x.c) H' s') (px:(PTr X.K D i k).p x σ H') :
 wpAny (model X.prog X.w) X.A (noteFrame (.ref ea) X.env) (fun _ s2=>wpAny (model X.prog X.w) X.A (setFlight (.ref ea) none) (fun _ s3=>wpAny (model X.prog X.w) X.A (handleBy (.ref ea) X.env [qT cx n y np p1 p2 p3 hpos]) (SP X pins D) X.xe s3) X.xe s2) X.xe s':=by
 have fr:X.A.frames=some (X.env :: X.outer):=by rw[←hst];exact I.ok.frames
 rw[hst]at F;refine Fly.lands F fr hf fun h4 F4=>?_
 rw[←hst]at F4;have I4:=Fly.inv (X:=reC X X.A X.calm pn xe) F4 I;refine wpAny_handleBy_cons (codeAny_handlers_test ?_) fun z=>nomatch z
 refine hV (X:=reC X (X.A.mark (some (.ref ea))) false pn xe) (pC (X:=reC X X.A X.calm pn xe) I4 rfl (fun z=>nomatch z) fun _ z=>z) hg hm ?_ d1
 refine aGt t I4.kIn F4.exc ?_
 refine codeAny_handlers_suite_as (Fly.again F4 fun h5 F5=>?_)
 have I5:=Fly.inv (X:=reC X X.A X.calm pn xe) F5 I;have I6:=Inv.track I I5 hx F5.new F5.unt F5.exc (fun h1 h2 a b=>a.stay b) (let ⟨o,e,_⟩:=F5.exc;⟨o,e⟩)
 refine gV (X:=reC X X.A X.calm pn xe) I6 hN hk (.inl ln) (v:=.ref ea) rfl (fun s7 I7=>?_) (.inr ln)
 have kl:k<Fv σ:=by rw[I.len];exact(Ao.mp hk).1
 refine thn (kC (uR (X:=reC X (X.A.mark (some (.ref ea))) false pn _) hN hi (.inl ly) (lL hk (.inl ln) d2 d3) hs (.inr ly)) pins2 s7 _ _
  ⟨fun σ8 H8=>σ8=(σ.set k (some (.ref ea))).set i (some (.ref ea))/\H8=upd H' ea (.ext (dR ea (clK X.K x.c))),fun _ _=>False,fun _ _=>False,fun _ _=>False⟩
  (pC (X:=reC X X.A X.calm pn xe) I7 rfl (fun z=>nomatch z) fun _ z=>z) ⟨.ref ea,Al kl,rfl,rfl⟩) fun f s8 q=>?_
 cases f with
 | next =>
  obtain⟨_,_,I8,rfl,rfl⟩:=q;have I9:L2.Inv X pins _ _ s8:=mL I8 rfl I.ok.hd hp;refine aJz I9 hN hk kn ln fun s9 I10=>⟨_,_,I10,?_⟩
  rw[aJf hik];exact px.2 H' ea (aD.refl _) F5.unt
 | brk=>obtain⟨_,_,_,z⟩:=q;exact z.elim
 | cont=>obtain⟨_,_,_,z⟩:=q;exact z.elim
 | ret v=>obtain⟨_,_,_,_,_,z⟩:=q;exact z.elim
end
structure XAll (K:PySem.W.Frag)(mg:Str->Option Value)(T:Addr):Prop where
 flat:mg "FlatError" = some (.ref T)
 top:XTop K T
 tab:XTab K
 nm:∀ c:XC,mg c.nm=some (.ref (clK K c))
 ex:∀ c:XC,c≠.BadRows->c≠.NoBox->Bl K (clK K c) bmV "ValueError.__new__" = true
end Mir
namespace Mir
open PySem L2
variable {K:PySem.W.Frag}
def noL (K:PySem.W.Frag):Bool:=K.all fun p=>!(p.2.cls==Value.type "list")
theorem aHi (h:noL K=true){a:Addr}{o:Obj}(e:K.lookup a=some o):o.cls≠.type "list":=fun c=>by
 have m:(a,o)∈K:=by
  clear h c
  induction K with
  | nil=>cases e
  | cons p r ih =>
   obtain⟨b,u⟩:=p;rw[Bf]at e;cases q:a==b with
   | true=>rw[q]at e;cases e;rw[eq_of_beq q];exact Af
   | false=>rw[q]at e;exact Ab _ (ih e)
 have:=Ds.mp h _ m
 rw[c]at this;simp at this
theorem pS {G:Hp}:∀ ns:List Int,aL K G (ns.map .int) (ns.map V.int)
 | []=>rfl
 | n :: r=>⟨.int n,r.map V.int,rfl,rfl,pS r⟩
theorem aHw {φ:Φ}{H:Hp}{a:Addr}{ns:List Int}(hL:noL K=true)(h:φ [.lst (ns.map .int)]=.ok (sc (.bl true)))(hS:SqL K H a (ns.map V.int)):spM K (clK K) φ [.ref a] H (fun v _=>v=.bl true) fun _ _ _=>False:=by
 have rd:Rd H a (.lst (ns.map V.int)):=by
  rcases hS with q | ⟨o,its,n,e,c,_⟩
  · exact q
  · exact absurd c (aHi hL e)
 refine⟨[.lst (ns.map .int)],fun _=>False,fun _ z=>z.elim,⟨.ref a,[],rfl,⟨a,ns.map V.int,rfl,?_,pS ns⟩,rfl⟩,?_⟩
 · rcases rd with q | ⟨o,q⟩
   · exact .inl (aJ.mpr ⟨fun z=>z,q⟩)
   · exact .inr ⟨o,aJ.mpr ⟨fun z=>z,q⟩⟩
 · rw[h]
   exact fun v H' _ r=>r
def XC.tab (a1 a2 a3 a4 a5 a6 a7 a8 a9 a10 a11 a12 a13 a14:Addr):XC->Addr
 | .NotAlike=>a1 | .BadCount=>a2 | .BadRows=>a3 | .BadRow=>a4 | .OtherSpace=>a5 | .BadSize=>a6 | .BadPlaces=>a7 | .ZeroSum=>a8 | .NoBox=>a9 | .BadTable=>a10 | .NoLine=>a11 | .BadName=>a12 | .NoRow=>a13 | .NoName=>a14
theorem xR {t:Value}{C:Addr}{b:Bool}(n:t≠.ref C)(h1:(Dh K C).isSome=true)(h2:Cz K (.ref C)=some (.type "type"))(h3:Dv K t (.ref C)=some b):Bk K t (.ref C)=some b:=by
 unfold Bk;rw[if_neg (fun z=>n (beq_iff_eq.mp z))];show (if ((Dh K C).isSome&&Cz K (.ref C)==some (.type "type"))=true then Dv K t (.ref C) else none)=some b
 rw[if_pos (by rw[h1,h2];rfl)]
 exact h3
abbrev uA (T:Addr):List Value:=[.ref T,.type "ValueError",.type "Exception",.type "BaseException",.type "object"]
structure XOne (K:PySem.W.Frag)(T:Addr)(n:Str)(C:Addr):Prop where
 ns:Ay K mainGlobals n=some (some (.ref C))
 lk:∃ od cd sl,K.lookup C=some ⟨.type "type",od,.cls cd,sl⟩/\cd.mro=.ref C :: uA T
 ga:Aq K (.ref C) "__getattribute__" = some (some (.builtin "BaseException.__getattribute__"))
 gh:Aq K (.ref C) "__getattr__" = some none
 cl:Aq K (.ref C) "__class__" = some (some (.builtin "object.__class__"))
structure XFlat (K:PySem.W.Frag)(T:Addr):Prop where
 ns:Ay K mainGlobals "FlatError" = some (some (.ref T))
 lk:∃ od cd sl,K.lookup T=some ⟨.type "type",od,.cls cd,sl⟩/\cd.mro=uA T
section
variable {T C:Addr}{n:Str}{l:List Value}
theorem vK {od:Option Addr}{cd:ClassData}{sl:Array (Option Value)}(e:K.lookup C=some ⟨.type "type",od,.cls cd,sl⟩):Dh K C=some cd:=by unfold Dh;rw[e]
theorem aKa {o:Obj}(e:K.lookup C=some o):Cz K (.ref C)=some o.cls:=by
 show (K.lookup C).map (·.cls)=_
 rw[e];rfl
theorem iN {v:Value}(h:∃ od cd sl,K.lookup C=some ⟨.type "type",od,.cls cd,sl⟩/\cd.mro=l)(ne:l≠[]):Fe K C v=some (l.contains v):=by
 obtain⟨od,cd,sl,e,m⟩:=h;unfold Fe;rw[vK e,Dr,m,if_neg (by simpa using ne)]
theorem tQ (h:∃ od cd sl,K.lookup C=some ⟨.type "type",od,.cls cd,sl⟩/\cd.mro=l):(Dh K C).isSome=true:=by
 obtain⟨od,cd,sl,e,m⟩:=h;rw[vK e];rfl
theorem rN (h:∃ od cd sl,K.lookup C=some ⟨.type "type",od,.cls cd,sl⟩/\cd.mro=l):Cz K (.ref C)=some (.type "type"):=by
 obtain⟨od,cd,sl,e,m⟩:=h;exact aKa e
end
theorem aDd {mg:Str->Option Value}{h:Heap}{T:Addr}{A:XC->Addr}(X:K.In h)(G:h.Ns mainGlobals mg)(t:XFlat K T)(o:∀ c:XC,XOne K T c.nm (A c))(inj:∀ c d:XC,A c=A d->c=d)(nT:∀ c,A c≠T)
 (ex:∀ c:XC,c≠.BadRows->c≠.NoBox->Bl K (A c) bmV "ValueError.__new__" = true):XAll K mg T:=by
 have e:∀ c,clK K c=A c:=fun c=>by unfold clK;rw[(o c).ns]
 refine⟨Dw X G t.ns,⟨rN t.lk,tQ t.lk,?_,fun c=>?_⟩,⟨fun c=>?_,fun c d=>?_,fun d=>?_,fun n hn c=>?_⟩,fun c=>?_,fun c=>?_⟩
 · exact(iN t.lk (by simp)).trans (by simp)
 · rw[e];exact(iN (o c).lk (by simp)).trans (by simp)
 · rw[e]
   exact⟨(o c).ga,(o c).gh,(o c).cl,(iN (o c).lk (by simp)).trans (by simp),(iN (o c).lk (by simp)).trans (by simp),tQ (o c).lk⟩
 · rw[e,e]
   by_cases z:d=c
   · subst z
     simp[Bk]
   · refine xR (fun q=>z (inj d c (by simpa using q))) (tQ (o c).lk) (rN (o c).lk) ((iN (o d).lk (by simp)).trans ?_)
     have q1:A c≠A d:=fun q=>z (inj c d q).symm;simp[z,q1,nT c]
 · rw[e]
   unfold Bk;rw[if_neg (by simp)]
   show (if PySem.W.kitMeta "ValueError" = true then Fe K (A d) (.type "ValueError") else none)=some true
   rw[if_pos (by decide +kernel)]
   exact(iN (o d).lk (by simp)).trans (by simp)
 · rw[e]
   refine xR (by simp) (tQ (o c).lk) (rN (o c).lk) ?_
   simp only[Ad,Ak,or_false]at hn;rcases hn with rfl | rfl | rfl | rfl | rfl | rfl<;>rfl
 · rw[e];exact Dw X G (o c).ns
 · rw[e];exact ex c
structure XRaw (K:PySem.W.Frag)(T:Addr)(n:Str)(C:Addr)(od:Option Addr)(cd:ClassData)(sl:Array (Option Value)):Prop where
 ns:Ay K mainGlobals n=some (some (.ref C))
 lk:K.lookup C=some ⟨.type "type",od,.cls cd,sl⟩
 mro:cd.mro=.ref C :: uA T
 ga:Aq K (.ref C) "__getattribute__" = some (some (.builtin "BaseException.__getattribute__"))
 gh:Aq K (.ref C) "__getattr__" = some none
 cl:Aq K (.ref C) "__class__" = some (some (.builtin "object.__class__"))
structure FRaw (K:PySem.W.Frag)(T:Addr)(od:Option Addr)(cd:ClassData)(sl:Array (Option Value)):Prop where
 ns:Ay K mainGlobals "FlatError" = some (some (.ref T))
 lk:K.lookup T=some ⟨.type "type",od,.cls cd,sl⟩
 mro:cd.mro=uA T
theorem XRaw.one {T C:Addr}{n:Str}{od:Option Addr}{cd:ClassData}{sl:Array (Option Value)}(x:XRaw K T n C od cd sl):XOne K T n C:=⟨x.ns,⟨od,cd,sl,x.lk,x.mro⟩,x.ga,x.gh,x.cl⟩
def XC.nr:XC->Nat
 | .NotAlike=>0 | .BadCount=>1 | .BadRows=>2 | .BadRow=>3 | .OtherSpace=>4 | .BadSize=>5 | .BadPlaces=>6 | .ZeroSum=>7 | .NoBox=>8 | .BadTable=>9 | .NoLine=>10 | .BadName=>11 | .NoRow=>12 | .NoName=>13
def XC.ofNr (n:Nat):XC:=[XC.NotAlike,.BadCount,.BadRows,.BadRow,.OtherSpace,.BadSize,.BadPlaces,.ZeroSum,.NoBox,.BadTable,.NoLine,.BadName,.NoRow,.NoName].getD n .NotAlike
theorem XC.of_nr (c:XC):XC.ofNr c.nr=c:=by cases c<;>rfl
theorem aKz {l:List Addr}(h:l.Nodup){i j:Nat}{x:Addr}(hi:l[i]?=some x)(hj:l[j]?=some x):i=j:=by
 obtain⟨a,_⟩:=Ao.mp hi;exact(List.getElem?_inj a h).mp (hi.trans hj.symm)
theorem XC.tab_at (a1 a2 a3 a4 a5 a6 a7 a8 a9 a10 a11 a12 a13 a14:Addr)(c:XC):[a1,a2,a3,a4,a5,a6,a7,a8,a9,a10,a11,a12,a13,a14][c.nr]?=some (XC.tab a1 a2 a3 a4 a5 a6 a7 a8 a9 a10 a11 a12 a13 a14 c):=by cases c<;>rfl
theorem xall_mk {mg:Str->Option Value}{h:Heap}{T a1 a2 a3 a4 a5 a6 a7 a8 a9 a10 a11 a12 a13 a14:Addr}{od0 od1 od2 od3 od4 od5 od6 od7 od8 od9 od10 od11 od12 od13 od14:Option Addr}{cd0 cd1 cd2 cd3 cd4 cd5 cd6 cd7 cd8 cd9 cd10 cd11 cd12 cd13 cd14:ClassData}{sl0 sl1 sl2 sl3 sl4 sl5 sl6 sl7 sl8 sl9 sl10 sl11 sl12 sl13 sl14:Array (Option Value)}
 (X:K.In h) (G:h.Ns mainGlobals mg) (t:FRaw K T od0 cd0 sl0) (o1:XRaw K T "NotAlike" a1 od1 cd1 sl1) (o2:XRaw K T "BadCount" a2 od2 cd2 sl2) (o3:XRaw K T "BadRows" a3 od3 cd3 sl3) (o4:XRaw K T "BadRow" a4 od4 cd4 sl4) (o5:XRaw K T "OtherSpace" a5 od5 cd5 sl5) (o6:XRaw K T "BadSize" a6 od6 cd6 sl6) (o7:XRaw K T "BadPlaces" a7 od7 cd7 sl7) (o8:XRaw K T "ZeroSum" a8 od8 cd8 sl8) (o9:XRaw K T "NoBox" a9 od9 cd9 sl9) (o10:XRaw K T "BadTable" a10 od10 cd10 sl10) (o11:XRaw K T "NoLine" a11 od11 cd11 sl11) (o12:XRaw K T "BadName" a12 od12 cd12 sl12) (o13:XRaw K T "NoRow" a13 od13 cd13 sl13) (o14:XRaw K T "NoName" a14 od14 cd14 sl14)
 (e1:Bl K a1 bmV "ValueError.__new__" = true) (e2:Bl K a2 bmV "ValueError.__new__" = true) (e4:Bl K a4 bmV "ValueError.__new__" = true) (e5:Bl K a5 bmV "ValueError.__new__" = true) (e6:Bl K a6 bmV "ValueError.__new__" = true) (e7:Bl K a7 bmV "ValueError.__new__" = true) (e8:Bl K a8 bmV "ValueError.__new__" = true) (e10:Bl K a10 bmV "ValueError.__new__" = true) (e11:Bl K a11 bmV "ValueError.__new__" = true) (e12:Bl K a12 bmV "ValueError.__new__" = true) (e13:Bl K a13 bmV "ValueError.__new__" = true) (e14:Bl K a14 bmV "ValueError.__new__" = true)
 (nd:[T,a1,a2,a3,a4,a5,a6,a7,a8,a9,a10,a11,a12,a13,a14].Nodup):XAll K mg T:=by
 have nd2:=Bw.mp nd;have at':=XC.tab_at a1 a2 a3 a4 a5 a6 a7 a8 a9 a10 a11 a12 a13 a14;refine aDd (A:=XC.tab a1 a2 a3 a4 a5 a6 a7 a8 a9 a10 a11 a12 a13 a14) X G ⟨t.ns,od0,cd0,sl0,t.lk,t.mro⟩ (fun c=>?_) (fun c d q=>?_) (fun c q=>?_) fun c n1 n2=>?_
 · cases c<;>exact XRaw.one (by assumption)
 · rw[←XC.of_nr c,←XC.of_nr d,aKz nd2.2 (at' c) ((at' d).trans (congrArg some q.symm))]
 · exact nd2.1 (q▸Cw (at' c))
 · cases c<;>first | assumption | exact absurd rfl n1 | exact absurd rfl n2
structure At (K:PySem.W.Frag)(x:Str)(st:Stmt)(f:Addr)(oc kV doc pm cdv ct:Value)(od an:Option Addr)(sl:Array (Option Value)):Prop where
 ns:Ay K mainGlobals x=some (some (.ref f))
 lk:K.lookup f=some ⟨oc,od,.func (Cb x x (eN st) (cX st) (aM st) .none kV doc pm an cdv ct),sl⟩
 cd:Da K cdv x=true
 kp:Ci K (.ref f)=true
end Mir
namespace Mir
open PySem L2
variable {X:Cx}{P:XP}{a b c e:Expr}{es:List Expr}{f g:FE}{fs:FEs}{pos p:Pos}
def vR (a:FE):FE:=fun ρ=>do
 let x ← a ρ
 let i ← asI x.d
 .ok (sc (.int (if i<0 then -i else i)))
def aBf (a b:FE):FE:=fun ρ=>do
 let x ← a ρ
 let y ← b ρ
 let i ← asI x.d
 let j ← asI y.d
 .ok (sc (.int (if j>i then j else i)))
def toI:D->R Int
 | .int i=>.ok i
 | .bl k=>.ok (if k then 1 else 0)
 | _=>.stk
def aMe (a:FE):FE:=fun ρ=>do
 let x ← a ρ
 let i ← toI x.d
 .ok (sc (.int i))
theorem aJu (hg:Gl X "abs")(hm:X.mg "abs" = none)(ha:PE X a (tE X.K P f))(he:starEach [a] X.env=[(false,eval a X.env)]:=by rfl):PE X (.Call (.Name "abs" p) [a] [] pos) (tE X.K P (vR f)):=by
 refine PE.imp (iT aB3 hg hm (by decide +kernel) (aA ha aF he) (he:=he)) ?_
 intro σ H Q h;refine aAa h ?_
 intro H0 B ρ v H' r d0 d g s h;cases e:asI r.d with
 | stk=>simp[e]at h
 | exc x=>exact(cM e).elim
 | ok i =>
  simp only[e,R.ok_bind]at h;exact⟨i,by rw[g.int (dA e)],h _ H' (aD.refl _) (aI.sc (show Rep _ _ (.int _) _ from rfl))⟩
theorem aLm {n:Str}{id:String}{G:Int->Int->Int}{F:FE}(hF:F=fun ρ=>f ρ >>= fun x=>g ρ >>= fun y=>asI x.d >>= fun i=>asI y.d >>= fun j=>.ok (sc (.int (G i j))))
 (hr:kM X (.builtin id) (fun xs H Q=>∃ i j,xs=[.int i,.int j]/\Q (.int (G i j)) H)) (hg:Gl X n) (hm:X.mg n=none) (hv:bootBuiltins n=some (.builtin id)) (hn:n ≠ "__name__") (hd:(n==("__debug__":Str))=false) (ha:PE X a (tE X.K P f)) (hb:PE X b (tE X.K P g))
 (he:starEach [a,b] X.env=[(false,eval a X.env),(false,eval b X.env)]) (he2:starEach [b] X.env=[(false,eval b X.env)]):PE X (.Call (.Name n p) [a,b] [] pos) (tE X.K P F):=by
 refine PE.imp (iT hr hg hm hv (aA ha (aA hb aF he2) (by rw[he,he2])) hn hd (he:=by rw[he,he2]) (hpl:=by rw[he2];rfl)) ?_
 intro σ H Q h;refine aMg hF h ?_
 intro H0 B ρ v w H' r r' d0 d g1 g2 s h;cases e1:asI r.d with
 | stk=>simp[e1]at h
 | exc x=>exact(cM e1).elim
 | ok i =>
  cases e2:asI r'.d with
  | stk=>simp[e1,e2]at h
  | exc x=>exact(cM e2).elim
  | ok j =>
   simp only[e1,e2,R.ok_bind]at h;exact⟨i,j,by rw[g1.int (dA e1),g2.int (dA e2)],h _ H' (aD.refl _) (aI.sc (show Rep _ _ (.int _) _ from rfl))⟩
theorem aKc (hc:X.calm=true)(hg:Gl X "max")(hm:X.mg "max" = none)(ha:PE X a (tE X.K P f))(hb:PE X b (tE X.K P g))(he:starEach [a,b] X.env=[(false,eval a X.env),(false,eval b X.env)]:=by rfl)(he2:starEach [b] X.env=[(false,eval b X.env)]:=by rfl) :
 PE X (.Call (.Name "max" p) [a,b] [] pos) (tE X.K P (aBf f g)):=aLm (G:=fun i j=>if j>i then j else i) rfl (yL hc) hg hm (by decide +kernel) (by decide) (by decide) ha hb he he2
end Mir
namespace L2
open PySem PySem.Spec PyProof.Rows
def Ite (K:PySem.W.Frag)(a:Addr):It :=
 ⟨fun i H=>∃ xs x,SqL K H a xs/\xs[i]?=some x,fun i H v H'=>∃ t x,v=.ref t/\H t=none/\H'=upd H t (.tup [.int i,x])/\∀ xs,SqL K H a xs->xs[i]?=some x,fun i H=>∃ xs,SqL K H a xs/\xs.length<=i⟩
def ETn (e it a:Addr)(i:Nat)(h:Heap):Prop:=(∃ old,IsEnum h e it i old)/\h.IsListIter it a i
theorem zB {P:Program}{w:World}{K:PySem.W.Frag}{es:List Expr}{k:Nat}{pos:Pos}{e it a:Addr}(n1:e≠it):Turn P w K (.Tuple es k pos) (Ite K a) [e,it] e (ETn e it a) where
 mem:=by simp
 obj:=fun i h st c hc=>by
  obtain⟨⟨old,he⟩,o,q1,q2,q3⟩:=st;simp only[Ad,Ak,or_false]at hc;rcases hc with z | z<;>rw[z]
  · exact⟨_,he,fun v z=>nomatch z⟩
  · exact⟨o,q1,fun v z=>by rw[q3]at z;cases z⟩
 keep:=fun i h h' st kp=>⟨st.1.imp fun old he=>kp _ (by simp) _ he,st.2.at fun o q=>kp _ (by simp) o q⟩
 item:=by
  intro X hP hw hK hc i pins s σ H E I hf st hg;subst hP hw hK;obtain⟨xs,x,ha,hx⟩:=hg;obtain⟨us,ru,pu,_⟩:=I.list ha;obtain⟨u,eu,rxu⟩:=ru.get hx;obtain⟨⟨old,he⟩,hit⟩:=st;have ee:e<s.heap.objs.size:=Ae he;have ei:it<s.heap.objs.size:=by obtain⟨_,q,_⟩:=hit;exact Ae q
  refine wpAny_pyNext_enum_item he hit pu.isList (x:=u) (by simpa using eu) n1 fun h' b1 b2 b3 b4 b5=>⟨_,rfl,?_⟩
  refine wpAny_letOwnedTupleGo_enum b1 fun hp2 c1 cs=>?_
  have kp:∀ c o,c∉[e,it]->s.heap.get? c=some o->hp2.get? c=some o:=fun c o hc' q=>by
   simp only[Ad,Ak,or_false,not_or]at hc';exact cs.extBut c o hc'.1 (b5 c o hc'.1 hc'.2 q)
  have st':ETn e it a (i+1) hp2:=⟨⟨u,by push_cast;exact c1⟩,b2.extBut cs.extBut n1.symm⟩
  have pr:=cs.extBut _ _ (Eu ee) b3
  refine⟨.ref s.heap.objs.size,upd H s.heap.objs.size (.tup [.int i,x]),I.turnedNew (t':=s.toks+1) kp hf (fun c hc'=>?_) (An _) ⟨by show 2<=sizeLine;decide,[.int i s.toks,u],.cons ⟨_,rfl⟩ (.cons rxu .nil),⟨_,pr,rfl,_,rfl⟩⟩,rfl,
   ⟨_,x,rfl,I.fresh,rfl,fun zs hq=>by rw[I.list_inj hq ha];exact hx⟩,st',fun c hc'=>?_⟩
  · obtain⟨⟨_,d1⟩,o,d2,_⟩:=st'
    simp only[Ad,Ak,or_false]at hc';rcases hc' with z | z<;>rw[z]
    · exact⟨_,d1⟩
    · exact⟨_,d2⟩
  · have lt:c<s.heap.objs.size:=by
     simp only[Ad,Ak,or_false]at hc';rcases hc' with z | z<;>rw[z]<;>assumption
    rw[aR (Au lt)];exact(hf c hc').1
 done:=by
  intro X hP hw hK hc i pins s σ H E I hf st hg;subst hP hw hK;obtain⟨xs,ha,hend⟩:=hg;obtain⟨us,ru,pu,_⟩:=I.list ha;have lu:=ru.length;obtain⟨⟨old,he⟩,hit⟩:=st;refine wpAny_pyNext_enum_end (I.ok.hd hc) he hit pu.isList (Array.getElem?_eq_none (by rw[Aj];omega)) fun h' kp=>⟨rfl,I.turnedL (t':=s.toks) (fun c o hc' q=>?_) hf⟩
  simp only[Ad,Ak,or_false,not_or]at hc';exact kp c o hc'.2 q
 self:=fun _ _ _ _ _ st h=>let ⟨⟨_,he⟩,_⟩:=st;wpAny_pyIter_enum he h
def aJl (K:PySem.W.Frag)(ta:TA):TI:=fun σ H R=>ta σ H fun vs H1=>∃ a,vs=[.ref a]/\(∃ xs,SqL K H1 a xs)/\R (Ite K a) H1
theorem aEq {X:Cx}{es:List Expr}{k:Nat}{tp:Pos}{a:Expr}{t:TA}{p pos:Pos}(hg:Gl X "enumerate")(hm:X.mg "enumerate" = none)(ha:PA X [a] t)(hs:starEach [a] X.env=[(false,eval a X.env)]:=by rfl) :
 PI X (.Tuple es k tp) (.Call (.Name "enumerate" p) [a] [] pos) (aJl X.K t):=by
 intro pins s σ H R I h;refine Call_ (iO I hg hm (show bootBuiltins "enumerate" = some (.type "enumerate") by decide +kernel) (Bu (thn (ha pos pins s σ H _ I h) fun us s1 ⟨vs,H1,I1,r1,x,e,⟨xs,hx⟩,q⟩=>?_) (by rw[hs];rfl) rfl))
 subst e;obtain⟨u,rfl,rx⟩:=xF r1;cases rx;obtain⟨us',ru,pu,zu⟩:=I1.list hx;refine call_enumerate_list pu.isList fun h1 he hit hsz hk=>wpAny_pyIter_enum he ?_
 have big:∀ c∈[s1.heap.objs.size+1,s1.heap.objs.size],s1.heap.objs.size<=c:=fun c hc'=>by
  simp only[Ad,Ak,or_false]at hc';rcases hc' with z | z<;>rw[z]
  · exact Bo _ 1
  · exact An _
 exact⟨_,[s1.heap.objs.size+1,s1.heap.objs.size],_,_,H1,rfl,I1.kept (t':=s1.toks) hk,zB (Nat.succ_ne_self _),⟨⟨_,he⟩,hit⟩,fun c hc'=>I1.fpOk (big c hc') (I1.hok.fresh (big c hc')),q⟩
end L2
namespace Mir
open PySem L2
variable {X:Cx}{P:XP}{a b c e:Expr}{es:List Expr}{f g:FE}{fs:FEs}{pos p:Pos}
def nO (ds:List D):List D:=ds.zipIdx.map fun x=>.tup [.int x.2,x.1]
def oR (a:FE):FI:=fun ρ=>do
 let x ← a ρ
 let xs ← asL x.d
 .ok ⟨x.k != .own,x.fr,nO xs⟩
theorem yR {K:PySem.W.Frag}{H0 H':Hp}{B:Addr->Prop}{a:Addr}{xs:List V}{ds:List D}{st fr:Bool}(hs:st=true->¬ B a)(h2:Rd H' a (.lst xs))(h3:aL K (aW fr H0 H' B) ds xs):qR K H0 H' B (Ite K a) ⟨st,fr,nO ds⟩:=by
 refine⟨fun c=>c=a,fun h c z=>z▸hs h,fun H2 B2 j1 j2 j3 j4 j5 i=>?_⟩
 have q1:SqL K H2 a xs:=.inl (gZ h2 fun o=>j1 a o rfl);have l1:=h3.length;refine⟨fun hi=>⟨xs,q1,?_⟩,fun d hd=>?_⟩
 · simp[nO]at hi;omega
 · cases e1:ds[i]? with
   | none=>simp[nO,e1]at hd
   | some d1 =>
    have ed:d=.tup [.int i,d1]:=by simp[nO,e1]at hd;exact hd.symm
    subst ed;obtain⟨v,hv,rv⟩:=h3.get e1;refine⟨⟨xs,v,q1,hv⟩,fun x H3 y=>?_⟩
    obtain⟨t,x1,e3,e4,e5,y2⟩:=y;have z1:=y2 xs q1;rw[hv]at z1;cases z1;subst e3;subst e5;refine⟨aD.upd_new e4,t,[.int i,v],rfl,aJ.mpr ⟨fun z=>?_,bC⟩,.int i,[v],rfl,rfl,v,[],rfl,?_,rfl⟩
    · rcases z with z | ⟨_,o,z,_⟩
      · obtain⟨o,q⟩:=j4 t z;rw[e4]at q;cases q
      · rw[j5 _ _ z]at e4;cases e4
    · exact Rep.same (aS (fun b o q n=>aD.upd_new e4 b o (j2 b o q n)) j3) rv
theorem wN {ts:List Expr}{k:Nat}{tp:Pos}(hg:Gl X "enumerate")(hm:X.mg "enumerate" = none)(ha:PE X a (tE X.K P f))(hs:starEach [a] X.env=[(false,eval a X.env)]:=by rfl) :
 PI X (.Tuple ts k tp) (.Call (.Name "enumerate" p) [a] [] pos) (tI X.K P (oR f)):=by
 refine PI.imp (aEq hg hm (aA ha aF hs) hs) ?_
 intro σ H Rq h
 have e:oR f=fun ρ=>evs [f] ρ >>= fun rs=>match rs with | [x]=>(asL x.d >>= fun xs=>.ok ⟨x.k != .own,x.fr,nO xs⟩) | _=>.stk:=by
  funext ρ
  unfold oR evs;cases f ρ<;>rfl
 rw[e]at h;refine aD5 (q:=fun vs H1=>∃ a,vs=[.ref a]/\(∃ xs,SqL X.K H1 a xs)/\Rq (Ite X.K a) H1) h ?_
 intro H0 B ρ vs H' rs d0 d gs s h;match vs,rs,gs with
 | [],rs,gs=>have e:rs=[]:=gs;subst e;exact h.elim
 | [v],_,⟨r,rr,e1,g1,g2⟩ =>
  subst e1;rw[show rr=[] from g2]at h
  cases e2:asL r.d with
  | stk=>simp[e2]at h
  | exc x=>exact(eB e2).elim
  | ok ds =>
   simp only[e2,R.ok_bind]at h;obtain⟨a,xs,h1,h2,h3⟩:=g1.list (cW e2);exact⟨a,by rw[h1],⟨xs,.inl h2⟩,h _ H' (aD.refl _) (yR (fun hk=>g1.notB d0 (cW e2) h1 hk) h2 h3)⟩
 | v :: w :: _,_,⟨r,rr,e1,g1,r2,rr2,e2,g2⟩ =>
  subst e1;subst e2;exact h.elim
end Mir
namespace Srt
open PySem PySem.W PyProof.Rows
section
variable {lt:Nat->Nat->Bool}{n:Nat}
def at' (p:Array Nat)(k:Nat):Nat:=p.getD k 0
def Le (lt:Nat->Nat->Bool)(a b:Nat):Prop:=lt b a=false
structure Ord (lt:Nat->Nat->Bool):Prop where
 tr:∀ {a b c},Le lt a b->Le lt b c->Le lt a c
 tot:∀ {a b},lt a b=true->Le lt a b
theorem Ord.refl (o:Ord lt)(a:Nat):Le lt a a:=by
 cases h:lt a a with
 | false=>exact h
 | true=>exact o.tot h
def Up (lt:Nat->Nat->Bool)(p:Array Nat)(m:Nat):Prop:=∀ i j,i<=j->j<m->Le lt (at' p i) (at' p j)
def Dn (lt:Nat->Nat->Bool)(p:Array Nat)(m:Nat):Prop:=∀ i j,i<=j->j<m->Le lt (at' p j) (at' p i)
theorem Up.step (o:Ord lt){p:Array Nat}{m:Nat}(h:Up lt p m)(hm:1<=m)(e:Le lt (at' p (m-1)) (at' p m)):Up lt p (m+1):=fun i j hij hj=>by
 by_cases h1:j<m
 · exact h i j hij h1
 · have:j=m:=by omega
   subst this;by_cases h2:i=j
   · subst h2;exact o.refl _
   · exact o.tr (h i (j-1) (by omega) (by omega)) e
theorem Dn.step (o:Ord lt){p:Array Nat}{m:Nat}(h:Dn lt p m)(hm:1<=m)(e:Le lt (at' p m) (at' p (m-1))):Dn lt p (m+1):=fun i j hij hj=>by
 by_cases h1:j<m
 · exact h i j hij h1
 · have:j=m:=by omega
   subst this;by_cases h2:i=j
   · subst h2;exact o.refl _
   · exact o.tr e (h i (j-1) (by omega) (by omega))
end
end Srt
namespace Srt
open PySem PySem.W PyProof.Rows
abbrev lx:=HT.aF3
theorem aB5:∀ a:List Int,lx a a=false
 | []=>rfl
 | x :: a=>by show (if x=x then lx a a else _)=false;rw[if_pos rfl];exact aB5 a
theorem aAp:∀ {a b:List Int},lx a b=true->lx b a=false
 | [],[],_=>rfl
 | [],_ :: _,_=>rfl
 | _ :: _,[],h=>by cases h
 | x :: a,y :: b,h=>by
  have h':(if x=y then lx a b else decide (x<y))=true:=h
  show (if y=x then lx b a else decide (y<x))=false
  by_cases e:x=y
  · rw[if_pos e]at h';rw[if_pos e.symm];exact aAp h'
  · rw[if_neg e]at h';rw[if_neg (Ne.symm e)]
    have:=of_decide_eq_true h'
    exact decide_eq_false (by omega)
theorem aAc:∀ {a b:List Int},lx a b=false->lx b a=false->a=b
 | [],[],_,_=>rfl
 | [],(_ :: _),h,_=>(by cases h)
 | (_ :: _),[],_,h=>(by cases h)
 | x :: a,y :: b,h,g=>by
  have h':(if x=y then lx a b else decide (x<y))=false:=h
  have g':(if y=x then lx b a else decide (y<x))=false:=g
  by_cases e:x=y
  · rw[if_pos e]at h';rw[if_pos e.symm]at g';rw[e,aAc h' g']
  · rw[if_neg e]at h';rw[if_neg (Ne.symm e)]at g'
    have u:=of_decide_eq_false h';have v:=of_decide_eq_false g';omega
theorem aAq:∀ {a b c:List Int},lx a b=true->lx b c=true->lx a c=true
 | [],[],_,h,_=>by cases h
 | [],_ :: _,[],_,g=>by cases g
 | [],(_ :: _),(_ :: _),_,_=>rfl
 | (_ :: _),[],_,h,_=>(by cases h)
 | _ :: _,_ :: _,[],_,g=>by cases g
 | x :: a,y :: b,z :: c,h,g=>by
  have h':(if x=y then lx a b else decide (x<y))=true:=h
  have g':(if y=z then lx b c else decide (y<z))=true:=g
  show (if x=z then lx a c else decide (x<z))=true
  by_cases e:x=y
  · rw[if_pos e]at h'
    by_cases f:y=z
    · rw[if_pos f]at g';rw[if_pos (e.trans f)];exact aAq h' g'
    · rw[if_neg f]at g';rw[if_neg (by omega)];have:=of_decide_eq_true g';exact decide_eq_true (by omega)
  · rw[if_neg e]at h'
    have u:=of_decide_eq_true h';by_cases f:y=z
    · rw[if_neg (by omega)];exact decide_eq_true (by omega)
    · rw[if_neg f]at g';have v:=of_decide_eq_true g';rw[if_neg (by omega)];exact decide_eq_true (by omega)
def px (a b:List Int×Int):Bool:=if a.1=b.1 then decide (a.2<b.2) else lx a.1 b.1
theorem aG6 {a b:List Int×Int}(h:px a b=true):px b a=false:=by
 unfold px at h ⊢;by_cases e:a.1=b.1
 · rw[if_pos e]at h;rw[if_pos e.symm];have:=of_decide_eq_true h;exact decide_eq_false (by omega)
 · rw[if_neg e]at h;rw[if_neg (Ne.symm e)];exact aAp h
theorem aHg {a b:List Int×Int}(h:px a b=false)(g:px b a=false):a=b:=by
 unfold px at h g;by_cases e:a.1=b.1
 · rw[if_pos e]at h;rw[if_pos e.symm]at g
   have u:=of_decide_eq_false h;have v:=of_decide_eq_false g;exact Prod.ext e (by omega)
 · rw[if_neg e]at h;rw[if_neg (Ne.symm e)]at g;exact absurd (aAc h g) e
theorem aG7 {a b c:List Int×Int}(h:px a b=true)(g:px b c=true):px a c=true:=by
 unfold px at h g ⊢;by_cases e:a.1=b.1
 · rw[if_pos e]at h
   by_cases f:b.1=c.1
   · rw[if_pos f]at g;rw[if_pos (e.trans f)]
     have u:=of_decide_eq_true h;have v:=of_decide_eq_true g;exact(decide_eq_true (by omega))
   · rw[if_neg f]at g;rw[if_neg (by rw[e];exact f),e];exact g
 · rw[if_neg e]at h
   by_cases f:b.1=c.1
   · rw[if_neg (by rw[←f];exact e),←f];exact h
   · rw[if_neg f]at g
     have t:=aAq h g;rw[if_neg (fun z=>by rw[z,aB5]at t;cases t)];exact t
end Srt
namespace L2
open PySem PySem.Spec PyProof.Rows
def sS (sc:Scope)(XN:List Str)(scope:Scope)(N:List Str)(k:Nat)(fs:List Nat):Bool :=
 scope.kind==.function&&decide (scope.names.map (·.1)).Nodup&&scope.names.all (fun y=>y.2 != .free||sc.names.contains (y.1,.cell)||sc.names.contains (y.1,.free))&&N.length==k+fs.length &&
  fs.zipIdx.all fun p=>match N[k+p.2]?,XN[p.1]? with
   | some x,some y=>decide (x=y)&&scope.names.lookup x==some .free&&(sc.names.lookup x==some .cell||sc.names.lookup x==some .free)
   | _,_=>false
theorem qL {scope:Scope}{env:Env}{x:Str}:scope.names.lookup x=some .cell->(relabel scope env).names.lookup x=some .cell:=by
 unfold relabel;generalize scope.names=names
 induction names with
 | nil=>simp
 | cons y r ih =>
  obtain⟨n,kd⟩:=y;simp only[Am];intro h;cases hx:x==n with
  | true =>
   simp only[hx,Bf]at h;cases h;simp[Bf,hx]
  | false =>
   simp only[hx,Bf]at h;have:=ih h
   split<;>simp only[Bf,hx]<;>exact this
theorem lM {X:Cx}{sc scope:Scope}{k0 k:Nat}{N0 N:List Str}{fs0 fs:List Nat}{fp:List Addr}{s:Shared}{H:Hp}(C0:CompOk X sc N0 k0 fs0)(h:sS sc N0 scope N k fs=true):CompOk (cG X sc N0 fp s H) scope N k fs:=by
 unfold sS at h;simp only[Bp]at h;obtain⟨⟨⟨⟨h1,h2⟩,h3⟩,h4⟩,h5⟩:=h;refine⟨by simpa using h1,of_decide_eq_true h2,fun y hy hf=>?_,by simpa using h4,fun j i e=>?_⟩
 · show y.1∈(cellsFrom (s.heap.objs.size+1) sc.names (gH X.env.cells sc.names [])).map (·.1)
   rw[bO,Cm,Bg];have:=Ds.mp h3 y hy
   rw[hf]at this;simp only[bne_self_eq_false,Bool.false_or,Fq,List.contains_iff_mem]at this;rcases this with q | q
   · exact .inl (fX _ _ _ (Bb.mpr ⟨_,Dg.mpr ⟨q,rfl⟩,rfl⟩))
   · obtain⟨c,e⟩:=bK (C0.free _ q rfl)
     exact .inr (Bb.mpr ⟨_,kZ sc.names [] (.inr ⟨q,e⟩),rfl⟩)
 · have hm:(i,j)∈fs.zipIdx:=Er.mpr e
   have:=Ds.mp h5 (i,j) hm
   dsimp only at this
   split at this
   · rename_i x y e1 e2
     simp only[Bm,Fq,beq_iff_eq,decide_eq_true_eq]at this;obtain⟨⟨q1,q2⟩,q3⟩:=this;subst q1;refine⟨x,e1,e2,q2,?_⟩
     exact q3.elim (fun q=>.inl (qL q)) kU
   · cases this
end L2
namespace Mir
open PySem L2
variable {X:Cx}{P:XP}{a b c e:Expr}{es:List Expr}{f g:FE}{fs:FEs}{pos p:Pos}
def asT:D->R (List D)
 | .tup ds=>.ok ds
 | _=>.stk
theorem aI.str {H0 H H':Hp}{K:PySem.W.Frag}{B:Addr->Prop}{v:V}{r:Res}{i:Str}(g:aI K H0 H H' B v r)(e:r.d=.str i):v=.str i:=by
 have:=g.shr_of (by rw[e];rfl)
 rw[e]at this;exact this
end Mir
namespace Mir
open PySem L2
variable {X:Cx}{P:XP}{a b c e:Expr}{es:List Expr}{f g:FE}{fs:FEs}{pos p:Pos}
theorem aHm {x:Str}{i:Int}(hg:Gl X x)(hm:∃ t,X.mg x=some (.int i t))(hd:(x==("__debug__":Str))=false:=by decide):PE X (.Name x pos) (tE X.K P (cE (.int i))) :=
 let ⟨t,hm⟩:=hm
 m_c (cR (v:=.int i) hg hm ⟨t,rfl⟩ hd) fun _=>rfl
def jS (a:FE):FT:=fun ρ=>do
 let x ← a ρ
 let ds ← asS x.d
 .ok (!ds.isEmpty)
theorem aL.empty {K:PySem.W.Frag}{G:Hp}{ds:List D}{vs:List V}(r:aL K G ds vs):vs.isEmpty=ds.isEmpty:=by
 have:=r.length
 cases ds<;>cases vs<;>simp at this ⊢
theorem wC {e:Expr}(h:PE X e (tE X.K P f))(he:∀ whole,isTrue e X.env whole=(do let v ← whole;standAt e.pos;holding [v] (truthy v)):=by intro _;rfl):PT X e (tT X.K P (jS f)):=by
 refine PT.imp (aCn h he) ?_
 rintro σ H Q ⟨H0,B,ρ,d,h⟩
 unfold jS at h;cases e1:f ρ with
 | stk=>simp[e1]at h
 | exc x=>simp[e1]at h;exact eE d e1 h
 | ok r =>
  cases e2:asS r.d with
  | stk=>simp[e1,e2]at h
  | exc x=>exact(mH e2).elim
  | ok ds =>
   simp only[e1,e2,R.ok_bind]at h;refine fW d e1 fun v H' s d' g'=>?_
   obtain⟨a,xs,h1,h2,h3⟩:=g'.seq e2;refine⟨!ds.isEmpty,?_,h H' s⟩
   rw[h1];rcases h2 with h2 | h2
   · exact .inl ⟨xs,.inl h2,by rw[h3.empty]⟩
   · exact .inr (.inl ⟨xs,SqT.of h2,by rw[h3.empty]⟩)
end Mir
namespace Mir
open PySem L2
variable {X:Cx}{P:XP}{a b c e:Expr}{es:List Expr}{f g:FE}{fs:FEs}{pos p:Pos}
def vN (K:PySem.W.Frag)(P:XP)(D:Ends)(H0:Hp)(T:Addr->Prop)(r:RS):Prop :=
 match r with
 | .nx ρ'=>∀ σ' H',DenS K H0 H' T σ' ρ'->D.nx σ' H'
 | .bk ρ'=>∀ σ' H',DenS K H0 H' T σ' ρ'->D.bk σ' H'
 | .ct ρ'=>∀ σ' H',DenS K H0 H' T σ' ρ'->D.ct σ' H'
 | .rt r=>∀ v H',aD H0 H'->fJ K H0 H' T v r->D.rt v H'
 | .exc x ρ'=>∀ σ' H',DenS K H0 H' T σ' ρ'->P.p x σ' H'
 | .stk=>False
variable {st:Stmt}{rest:List Stmt}{F G:FS}
def unold (ρ:Env):Env:=ρ.map fun o=>o.map fun e=>⟨e.k.rd,e.fr,e.d⟩
theorem xY {h:Res->Res}{ρ:Env}{i:Nat}{e:Res}(q:(ρ.map fun o=>o.map h)[i]?=some (some e)):∃ e0,ρ[i]?=some (some e0)/\e=h e0:=by
 rw[Be]at q;cases z:ρ[i]? with
 | none=>rw[z]at q;cases q
 | some o =>
  rw[z]at q;cases o with
  | none=>cases q
  | some e0=>cases q;exact⟨e0,rfl,rfl⟩
section
variable {K:PySem.W.Frag}{H0 H H':Hp}{T:Addr->Prop}{σ σ':St}{ρ ρ':Env}
theorem rW {i:Nat}{a:Addr}(h:dI σ (unold ρ) i a):dI σ ρ i a:=by
 obtain⟨h1,e,h2,h3⟩:=h;obtain⟨e0,q1,q2⟩:=xY h2;subst q2;refine⟨h1,e0,q1,?_⟩
 cases k:e0.k<;>rw[k]at h3<;>first | rfl | cases h3
theorem aGl {i:Nat}{a:Addr}(h:dI σ ρ i a):dI σ (unold ρ) i a:=by
 obtain⟨h1,e,h2,h3⟩:=h;refine⟨h1,⟨e.k.rd,e.fr,e.d⟩,?_,by show e.k.rd=.own;rw[h3];rfl⟩
 unfold unold;rw[Be,h2];rfl
theorem DenS.unold (s:aD H0 H)(d:DenS K H H' T σ' ρ'):DenS K H0 H' T σ' (unold ρ'):=by
 have sub:∀ b,Bs T σ' (Mir.unold ρ') b->Bs T σ' ρ' b:=fun b z=>z.imp (fun⟨i,h⟩=>⟨i,rW h⟩) id;have ban:∀ fr b,Ban fr H0 (Bs T σ' (Mir.unold ρ')) b->Ban fr H (Bs T σ' ρ') b:=fun fr b z=>z.imp (sub b) fun⟨h1,o,h2,h3⟩=>⟨h1,o,s _ _ h2,h3⟩;have m:∀ fr,aD (aW fr H H' (Bs T σ' ρ')) (aW fr H0 H' (Bs T σ' (Mir.unold ρ'))):=fun fr b o q=>let ⟨n,q⟩:=aJ.mp q;aJ.mpr ⟨fun z=>n (ban fr b z),q⟩
 refine⟨⟨by unfold Mir.unold;rw[Ah];exact d.e.len,s.trans d.e.sam,fun b z=>d.e.bnd b (sub b z),fun i e he=>?_⟩,fun a ⟨i,h⟩=>d.sep a ⟨i,rW h⟩,fun i j a h1 h2=>d.dis i j a (rW h1) (rW h2)⟩
 obtain⟨e0,h1,h2⟩:=xY he;subst h2;obtain⟨v,q1,q2⟩:=d.e.ent i e0 h1;refine⟨v,q1,?_⟩
 unfold jT at q2 ⊢;cases k:e0.k with
 | shr=>rw[k]at q2;exact Rep.same (m _) q2
 | own =>
  rw[k]at q2;obtain⟨a,o,h1',h2,h3,h4,h5⟩:=q2;subst h1';exact⟨a,o,rfl,.inl ⟨i,aGl ⟨q1,e0,h1,k⟩⟩,s.none h3,h4,h5.same (m _)⟩
 | tmp=>rw[k]at q2;exact q2.elim
 | old =>
  rw[k]at q2;refine Rep.same (fun b o q=>?_) q2.2
  obtain⟨n,q⟩:=aJ.mp q;refine aJ.mpr ⟨fun z=>?_,d.e.sam b o q⟩
  rcases z with z | ⟨z,_⟩
  · exact n (sub b z)
  · rw[show e0.fr=false from q2.1]at z;cases z
theorem fJ.base {v:V}{r:Res}(s:aD H0 H)(h:fJ K H H' T v r):fJ K H0 H' T v r:=by
 have m:∀ fr B,aD (aW fr H H' B) (aW fr H0 H' B):=fun fr B b o q=>let ⟨n,q⟩:=aJ.mp q;aJ.mpr ⟨fun z=>n (z.imp id fun⟨h1,o,h2,h3⟩=>⟨h1,o,s _ _ h2,h3⟩),q⟩
 unfold fJ at h ⊢;cases k:r.k with
 | shr=>rw[k]at h;exact Rep.same (m _ _) h
 | own=>rw[k]at h;obtain⟨a,o,h1,h2,h3,h4⟩:=h;exact⟨a,o,h1,s.none h2,h3,h4.same (m _ _)⟩
 | tmp=>rw[k]at h;obtain⟨a,o,h1,h2,h3,h4⟩:=h;exact⟨a,o,h1,s.none h2,h3,h4.same (m _ _)⟩
 | old=>rw[k]at h;obtain⟨a,o,h1,h2,h3,h4⟩:=h;exact⟨a,o,h1,s.none h2,h3,h4.same (m _ _)⟩
end
mutual
theorem Rep.stb {K:PySem.W.Frag}{G G':Hp}(s:∀ b o,G b=some o->stab o=true->G' b=some o):∀ {d:D} {v:V},d.imm=true->Rep K G d v->Rep K G' d v
 | .non,_,_,h=>h
 | .bl _,_,_,h=>h
 | .int _,_,_,h=>h
 | .str _,_,_,h=>h
 | .lst _,_,i,_=>by cases i
 | .tup ds,_,i,⟨a,xs,h1,h2,h3⟩=>⟨a,xs,h1,s _ _ h2 rfl,aL.stb s (by simpa[D.imm] using i) h3⟩
 | .obj _ _,_,i,_=>by cases i
 | .any,_,i,_=>by cases i
 | .dct _ _,_,i,_=>by cases i
 | .exc _ _,_,_,h=>uP.map h fun _ _ q=>s _ _ q rfl
theorem aL.stb {K:PySem.W.Frag}{G G':Hp}(s:∀ b o,G b=some o->stab o=true->G' b=some o):∀ {ds:List D} {vs:List V},D.imms ds=true->aL K G ds vs->aL K G' ds vs
 | [],_,_,h=>h
 | d :: r,_,i,⟨x,xr,h1,h2,h3⟩=>by
  have i':d.imm=true/\D.imms r=true:=by simpa[D.imms] using i
  exact⟨x,xr,h1,Rep.stb s i'.1 h2,aL.stb s i'.2 h3⟩
end
end Mir
namespace Mir
open PySem L2
variable {X:Cx}{P:XP}{a b c e:Expr}{es:List Expr}{f g:FE}{fs:FEs}{pos p:Pos}
def aB7 (H0 H H1:Hp):Prop:=∀ b,H1 b=H b\/∃ o xs,H b=some (.frz o (.lst xs))/\H1 b=some (.lst xs)/\H0 b=none
theorem aB7.ne {H0 H H1:Hp}(t:aB7 H0 H H1){b:Addr}{u:HO}(h:H b=some u)(n:∀ o xs,u≠.frz o (.lst xs)):H1 b=some u:=by
 rcases t b with e | ⟨o,ys,e1,e2,_⟩
 · exact e.trans h
 · rw[e1]at h;cases h;exact absurd rfl (n _ _)
theorem aB7.cut {H0 H H1:Hp}(t:aB7 H0 H H1)(B:Addr->Prop):aB7 H0 (Mir.cut H B) (Mir.cut H1 B):=fun b=>by
 unfold Mir.cut;by_cases hb:B b
 · left;simp[hb]
 · simpa[hb] using t b
end Mir
namespace L2
open PySem PySem.Spec PyProof.Rows
section
variable {κ:Type}[DecidableEq κ]
def vC (kvs:List (κ×V))(k:κ):Option V:=(kvs.find? fun kv=>decide (kv.1=k)).map (·.2)
def aE6 (kvs:List (κ×V))(k:κ)(v:V):List (κ×V) :=
 if (kvs.any fun kv=>decide (kv.1=k))=true then kvs.map (fun kv=>if kv.1=k then (kv.1,v) else kv) else kvs++[(k,v)]
def aFd (kvs:List (κ×V))(k:κ):List (κ×V):=kvs.filter fun kv=>decide (kv.1≠k)
theorem tP {p:κ×V}{r:List (κ×V)}{k:κ}(e:p.1=k):vC (p :: r) k=some p.2:=by simp[vC,Ep,e]
theorem uJ {p:κ×V}{r:List (κ×V)}{k:κ}(e:¬ p.1=k):vC (p :: r) k=vC r k:=by simp[vC,Ep,e]
theorem sP (k:κ):∀ kvs:List (κ×V),(kvs.any fun kv=>decide (kv.1=k))=(vC kvs k).isSome
 | []=>rfl
 | p :: r=>by
  rw[List.any_cons];by_cases e:p.1=k
  · simp only[tP e,decide_eq_true e,Bool.true_or,Option.isSome_some]
  · rw[uJ e,decide_eq_false e,Bool.false_or];exact sP k r
theorem oN.isSome_eq {o:Option V}{u:Option Value}(r:oN o u):o.isSome=u.isSome:=by
 cases o with
 | none=>cases u with
  | none=>rfl
  | some _=>exact(show False from r).elim
 | some _=>cases u with
  | none=>exact(show False from r).elim
  | some _=>rfl
theorem KV.any {kvs:List (κ×V)}{vs:List (κ×Value)}(r:KV kvs vs)(k:κ):(kvs.any fun kv=>decide (kv.1=k))=vs.any fun kv=>decide (kv.1=k):=by
 unfold KV at r;induction r with
 | nil=>rfl
 | cons h t ih=>rw[List.any_cons,List.any_cons,ih,h.1]
theorem KV.repl {kvs:List (κ×V)}{vs:List (κ×Value)}(r:KV kvs vs)(k:κ){y:V}{u:Value}(ry:bM y u) :
 KV (kvs.map fun kv=>if kv.1=k then (kv.1,y) else kv) (vs.map fun kv=>if kv.1=k then (kv.1,u) else kv):=by
 unfold KV at r ⊢;induction r with
 | nil=>exact .nil
 | @cons p q ps qs h t ih =>
  rw[Am,Am];refine .cons ?_ ih
  obtain⟨h1,h2⟩:=h;by_cases e:p.1=k
  · rw[if_pos e,if_pos (h1.symm.trans e)];exact⟨h1,ry⟩
  · rw[if_neg e,if_neg (fun z=>e (h1.trans z))];exact⟨h1,h2⟩
theorem KV.put {kvs:List (κ×V)}{vs:List (κ×Value)}(r:KV kvs vs)(k:κ){y:V}{u:Value}(ry:bM y u):KV (aE6 kvs k y) (stored vs k u):=by
 unfold aE6 stored;rw[r.any k];by_cases e:(vs.any fun kv=>decide (kv.1=k))=true
 · rw[if_pos e,if_pos e];exact r.repl k ry
 · rw[if_neg e,if_neg e];exact Paired.snoc r ⟨rfl,ry⟩
theorem KV.drop {kvs:List (κ×V)}{vs:List (κ×Value)}(r:KV kvs vs)(k:κ):KV (aFd kvs k) (without vs k):=by
 unfold KV at r ⊢;unfold aFd without;induction r with
 | nil=>exact .nil
 | @cons p q ps qs h t ih =>
  obtain⟨h1,h2⟩:=h;rw[Db,Db];by_cases e:p.1=k
  · have a:¬ decide (p.1≠k)=true:=by simp[e]
    have b:¬ decide (q.1≠k)=true:=by simp[h1.symm.trans e]
    rw[if_neg a,if_neg b];exact ih
  · have e':¬ q.1=k:=fun z=>e (h1.trans z)
    have a:decide (p.1≠k)=true:=by simp[e]
    have b:decide (q.1≠k)=true:=by simp[e']
    rw[if_pos a,if_pos b];exact .cons ⟨h1,h2⟩ ih
end
abbrev KT (H:Hp):List (List Key×V)->List (List Key×Addr×Value)->Prop:=Paired fun p q=>p.1=q.1/\H q.2.1=some (.tup (p.1.map kV))/\bM p.2 q.2.2
theorem KT.val {H:Hp}{kvs:List (List Key×V)}{xs:List (List Key×Addr×Value)}(r:KT H kvs xs)(k:List Key):oN (vC kvs k) ((atKey xs k).map (·.2)):=by
 induction r with
 | nil=>exact True.intro
 | @cons p q ps qs h t ih =>
  obtain⟨h1,_,h2⟩:=h;by_cases e:p.1=k
  · have e':q.1=k:=h1.symm.trans e
    have b:atKey (q :: qs) k=some q.2:=by simp[atKey,Ep,e']
    rw[tP e,b];exact h2
  · have e':¬ q.1=k:=fun z=>e (h1.trans z)
    have b:atKey (q :: qs) k=atKey qs k:=by simp[atKey,Ep,e']
    rw[uJ e,b];exact ih
theorem KT.repl {H:Hp}{kvs:List (List Key×V)}{xs:List (List Key×Addr×Value)}(r:KT H kvs xs)(k:List Key){y:V}{u:Value}(ry:bM y u) :
 KT H (kvs.map fun kv=>if kv.1=k then (kv.1,y) else kv) (xs.map (putAt k u)):=by
 induction r with
 | nil=>exact .nil
 | @cons p q ps qs h t ih =>
  rw[Am,Am];refine .cons ?_ ih
  obtain⟨h1,h2,h3⟩:=h;unfold putAt;by_cases e:p.1=k
  · rw[if_pos e,if_pos (h1.symm.trans e)];exact⟨h1,h2,ry⟩
  · rw[if_neg e,if_neg (fun z=>e (h1.trans z))];exact⟨h1,h2,h3⟩
theorem KT.put {H:Hp}{kvs:List (List Key×V)}{xs:List (List Key×Addr×Value)}(r:KT H kvs xs)(k:List Key){b:Addr}{y:V}{u:Value}(hb:H b=some (.tup (k.map kV)))(ry:bM y u) :
 KT H (aE6 kvs k y) (storedH xs k b u):=by
 have e:(kvs.any fun kv=>decide (kv.1=k))=(atKey xs k).isSome:=by
  rw[sP,(r.val k).isSome_eq,Option.isSome_map]
 unfold aE6 storedH;rw[e];by_cases q:(atKey xs k).isSome=true
 · rw[if_pos q,if_pos q];exact r.repl k ry
 · rw[if_neg q,if_neg q];exact Paired.snoc r ⟨rfl,hb,ry⟩
end L2
namespace Mir
open PySem L2
variable {X:Cx}{P:XP}{a b c e:Expr}{es:List Expr}{f g k:FE}{fs:FEs}{pos p:Pos}
theorem kQ.len {ks:List (List Int)}{kvs:List (List Key×V)}(h:kQ ks kvs):kvs.length=ks.length:=by
 simpa using congrArg Fv h
end Mir
namespace Srt
open PySem PySem.W PyProof.Rows
def ins {α:Type}(r:α->α->Bool)(x:α):List α->List α
 | []=>[x]
 | y :: l=>if r y x then y :: ins r x l else x :: y :: l
def srt {α:Type}(r:α->α->Bool):List α->List α
 | []=>[]
 | x :: l=>ins r x (srt r l)
section
variable {α:Type}{r:α->α->Bool}
theorem mS (x:α):∀ l:List α,(ins r x l).Perm (x :: l)
 | []=>Ed _
 | y :: l=>by
  unfold ins;split
  · exact((mS x l).cons y).trans (List.Perm.swap x y l)
  · exact Ed _
theorem sV:∀ l:List α,(srt r l).Perm l
 | []=>Ed _
 | x :: l=>(mS x (srt r l)).trans ((sV l).cons x)
structure Tot (r:α->α->Bool):Prop where
 asy:∀ {a b},r a b=true->r b a=false
 tri:∀ {a b},r a b=false->r b a=false->a=b
 trs:∀ {a b c},r a b=true->r b c=true->r a c=true
theorem Tot.le (t:Tot r){a b c:α}(h:r b a=false)(g:r c b=false):r c a=false:=by
 cases q:r c a with
 | false=>rfl
 | true =>
  cases ab:r a b with
  | true=>have:=t.trs q ab;rw[g]at this;cases this
  | false=>rw[t.tri ab h]at q;rw[g]at q;cases q
theorem aB0 (t:Tot r)(x:α):∀ {l:List α},l.Pairwise (fun a b=>r b a=false)->(ins r x l).Pairwise fun a b=>r b a=false
 | [],_=>by simp[ins]
 | y :: l,h=>by
  have hc:=Ea.mp h;obtain⟨h1,h2⟩:=hc;unfold ins;split
  · rename_i z
    refine Ea.mpr ⟨fun b hb=>?_,aB0 t x h2⟩
    rcases Ad.mp ((mS x l).mem_iff.mp hb) with e | e
    · rw[e];exact t.asy z
    · exact h1 b e
  · rename_i z
    have z':r y x=false:=by simpa using z
    refine Ea.mpr ⟨fun b hb=>?_,h⟩
    rcases Ad.mp hb with e | e
    · rw[e];exact z'
    · exact t.le z' (h1 b e)
theorem aAb (t:Tot r):∀ l:List α,(srt r l).Pairwise fun a b=>r b a=false
 | []=>Ct
 | x :: l=>aB0 t x (aAb t l)
theorem aBh (t:Tot r){l k:List α}(p:k.Perm l)(u:k.Pairwise fun a b=>r b a=false):k=srt r l :=
 List.Perm.eq_of_pairwise (le:=fun a b=>r b a=false) (fun a b _ _ h g=>t.tri g h) u (aAb t l) (p.trans (sV l).symm)
end
def ix (a b:Int):Bool:=decide (a<b)
theorem aGq:Tot ix:=⟨fun h=>decide_eq_false (by have:=of_decide_eq_true h;omega),fun h g=>by have:=of_decide_eq_false h;have:=of_decide_eq_false g;omega,fun h g=>decide_eq_true (by have:=of_decide_eq_true h;have:=of_decide_eq_true g;omega)⟩
theorem aHj:Tot px:=⟨aG6,aHg,aG7⟩
end Srt
namespace Mir
open PySem L2
variable {X:Cx}{P:XP}{a b c e:Expr}{es:List Expr}{f g:FE}{fs:FEs}{pos p:Pos}
def aJq (a b:FE):FE:=fun ρ=>do
 let x ← a ρ
 let y ← b ρ
 let i ← asT x.d
 let j ← asT y.d
 if i.length+j.length<=sizeLine then .ok ⟨.shr,x.fr&&y.fr,.tup (i++j)⟩ else .stk
end Mir
namespace Mir
open PySem L2
def aJa:D->Bool
 | .lst es=>D.imms es
 | _=>false
theorem aEk {d:D}(h:aJa d=true):∃ es,d=.lst es/\D.imms es=true:=by
 cases d<;>first | exact⟨_,rfl,h⟩ | cases h
theorem aL.lil {K:PySem.W.Frag}{G G':Hp}(s:∀ b o,G b=some o->stab o=true->G' b=some o):∀ {ds:List D} {vs:List V},ds.all aJa=true->(∀ b xs,V.ref b∈vs->Rd G b (.lst xs)->Rd G' b (.lst xs))->aL K G ds vs->aL K G' ds vs
 | [],_,_,_,h=>h
 | d :: r,_,i,l,⟨x,xr,h1,h2,h3⟩=>by
  rw[List.all_cons,Bm]at i;obtain⟨es,rfl,ie⟩:=aEk i.1;obtain⟨a,xs,e1,e2,e3⟩:=h2;subst h1;refine⟨x,xr,rfl,⟨a,xs,e1,l a xs (by rw[e1];exact Af) e2,aL.stb s ie e3⟩,aL.lil s i.2 (fun b ys q=>l b ys (Ab _ q)) h3⟩
theorem Rd.raw {G:Hp}{a:Addr}{xs:List V}(h:Rd G a (.lst xs)):∃ o,G a=some o/\stab o=false:=by
 rcases h with h | ⟨o,h⟩
 · exact⟨_,h,rfl⟩
 · exact⟨_,h,rfl⟩
end Mir
namespace Mir
open PySem L2
def aIi:RS->RS
 | .nx ρ'=>.nx (unold ρ')
 | .bk ρ'=>.bk (unold ρ')
 | .ct ρ'=>.ct (unold ρ')
 | .exc x ρ'=>.exc x (unold ρ')
 | r=>r
variable {X:Cx}{P:XP}{e:Expr}{f:FE}{F:FS}{pos:Pos}
theorem vN.unold {K:PySem.W.Frag}{D:Ends}{H0 H1:Hp}{T:Addr->Prop}{r:RS}(s:aD H0 H1)(h:vN K P D H0 T (aIi r)):vN K P D H1 T r:=by
 cases r with
 | nx ρ'=>exact fun σ' H' d'=>h σ' H' (d'.unold s)
 | bk ρ'=>exact fun σ' H' d'=>h σ' H' (d'.unold s)
 | ct ρ'=>exact fun σ' H' d'=>h σ' H' (d'.unold s)
 | rt r=>exact fun v H' s' ro=>h v H' (s.trans s') (ro.base s)
 | exc x ρ'=>exact fun σ' H' d'=>h σ' H' (d'.unold s)
 | stk=>exact h
end Mir
namespace Mir
open PySem L2
variable {X:Cx}{P:XP}{a b c e:Expr}{es:List Expr}{f g:FE}{fs:FEs}{pos p:Pos}
def aLn (a:FE)(lo hi:FO):FE:=fun ρ=>do
 let x ← a ρ
 let l ← lo ρ
 let h ← hi ρ
 let ds ← asT x.d
 .ok ⟨.shr,x.fr,.tup (lF ds l h)⟩
end Mir
namespace Mir
open PySem L2
variable {X:Cx}{P:XP}{a b c e:Expr}{es:List Expr}{f g:FE}{fs:FEs}{pos p:Pos}
def aJh (a:FE):FE:=fun ρ=>do
 let x ← a ρ
 let ds ← asT x.d
 let l ← aFt ds
 .ok (sc (.int l.sum))
end Mir
namespace Mir
open PySem L2
variable {X:Cx}{P:XP}{a b c e:Expr}{es:List Expr}{f g:FE}{fs:FEs}{pos p:Pos}
theorem aAr:∀ c:Nat,(cY c).Nodup
 | 0=>by decide +kernel
 | _+1=>show (cY 1).Nodup by decide +kernel
theorem wM:∀ {ns:List Str} {fs:List (Str×V)} {i:Nat} {n:Str} {v:V},fs.map (·.1)=ns->ns.Nodup->ns[i]?=some n->(fs.map (·.2))[i]?=some v->fs.lookup n=some v
 | _,[],_,_,_,_,_,_,h=>by simp at h
 | [],_ :: _,_,_,_,h,_,_,_=>by simp at h
 | m :: ns,(k,u) :: fs,0,n,v,h1,nd,h2,h3=>by
  simp only[Am,List.cons.injEq]at h1;simp only[List.getElem?_cons_zero,Am,Ca.injEq]at h2 h3;obtain⟨rfl,h1⟩:=h1;subst h2 h3;simp[Cr]
 | m :: ns,(k,u) :: fs,i+1,n,v,h1,nd,h2,h3=>by
  simp only[Am,List.cons.injEq]at h1;simp only[List.getElem?_cons_succ,Am]at h2 h3;obtain⟨rfl,h1⟩:=h1;have hn:n≠k:=fun z=>(Bw.mp nd).1 (z▸Cw h2);have hb:(n==k)=false:=by simpa using hn
  rw[Bf,hb];exact wM h1 (Bw.mp nd).2 h2 h3
structure OC (K:PySem.W.Frag)(c:Nat):Prop where
 cl:Cls K (clO K c)
 na:∀ n∈cY c,iL K (clO K c) n
def gM (c i:Nat)(a:FE):FE:=fun ρ=>do
 let x ← a ρ
 match x.d with
 | .obj k ds=>if k=c then (match ds[i]? with
  | some d=>.ok ⟨.shr,x.fr||d.imm,d⟩
  | none=>.stk) else .stk
 | _=>.stk
theorem uH {n:Str}{c i:Nat}(O:OC X.K c)(ha:PE X a (tE X.K P f))(hn:(cY c)[i]?=some n:=by rfl)(hb:attributeBase a n X.env (eval a X.env)=eval a X.env:=by rfl):PE X (.Attribute a n pos) (tE X.K P (gM c i f)):=by
 refine PE.imp (aIc ha hb) ?_
 intro σ H Q h;refine t1 (q:=fun x H1=>∃ a C dx fs v,x=.ref a/\H1 a=some (.ins C dx fs)/\Cls X.K C/\iL X.K C n/\fs.lookup n=some v/\Q v H1) h ?_
 intro H0 B ρ v H' r d g s h;cases k:r.d with
 | obj c' ds =>
  simp only[k]at h;by_cases hc:c'=c
  · subst hc
    rw[if_pos rfl]at h;cases e:ds[i]? with
    | none=>simp[e]at h
    | some d1 =>
     simp only[e]at h;have:=g.shr_of (by rw[k];rfl)
     rw[k]at this;obtain⟨a,dx,fs,rfl,q,nm,re⟩:=this;obtain⟨v1,e1,r1⟩:=re.get e;exact⟨a,_,dx,fs,v1,rfl,(aJ.mp q).2,O.cl,O.na n (Cw hn),wM nm (aAr _) hn e1,h v1 H' (aD.refl _) (Rep.fr d.sam r1)⟩
  · rw[if_neg hc]at h;exact h.elim
 | _=>simp[k]at h
def oH (c:Nat)(fs:FEs):FE:=fun ρ=>do
 let rs ← evs fs ρ
 let y ← gives rs
 if y.2.length=(cY c).length then .ok ⟨.shr,y.1,.obj c y.2⟩ else .stk
def spI (K:PySem.W.Frag)(c:Nat):Sp:=fun vs H Q _=>∃ x dx us,vs=.ref x :: us/\us.length=(cY c).length/\H x=some (.ins (clO K c) dx [])/\Q .non (upd H x (.ins (clO K c) dx ((cY c).zip us)))
def xC (Pg:Program)(w:World)(K:PySem.W.Frag)(mg:Str->Option Value)(base:Heap)(k c:Nat):Prop :=
 ∃ (f:Addr) (fd:FuncData),Mk K (clO K c) f/\FnOk Pg w K mg base (CXM Pg w) k f fd ("self" :: cY c) (spI K c)/\gC K fd ("self" :: cY c) []/\mg (wG c)=some (.ref (clO K c))
theorem aGk {Pg:Program}{w:World}:vG (CXM Pg w) X E0:=fun _ _ _ _ _ _ _ ⟨_,_,_,_,_,_,_,z⟩=>z.elim
theorem aFs {c k:Nat}{x:Str}(m:xC X.prog X.w X.K X.mg X.base k c)(hr:Room (k+1) X.A)(hg:Gl X x)(ha:PA X (e :: es) (tAs X.K P fs))(hx:wG c=x:=by rfl)
 (hdb:(x==("__debug__":Str))=false:=by decide) (he:starEach (e :: es) X.env=(false,eval e X.env) :: starEach es X.env:=by rfl) (hpl:(backTo pos (starEach es X.env)).any (·.1)=false:=by rfl) :
 PE X (.Call (.Name x p) (e :: es) [] pos) (tE X.K P (oH c fs)):=by
 obtain⟨fi,fd,M,F,b,hm⟩:=m;subst hx;refine PE.imp (aEv (E:=E0) M F hr hg hm b .nil aGk ha hdb he hpl) ?_
 intro σ H Q h;refine tA1 h ?_
 intro H0 B ρ vs H' rs d0 d gs s h;cases e:gives rs with
 | stk=>simp[e]at h
 | exc x=>exact(gQ e).elim
 | ok y =>
  simp only[e,R.ok_bind]at h;have r:=gs.gives d0 e;by_cases hz:y.2.length=(cY c).length
  · rw[if_pos hz]at h
    intro x dx hx hdx ne;have hl:vs.length=(cY c).length:=by rw[←r.length];exact hz
    refine⟨x,dx,vs,by rw[Dz],hl,bC,rfl,?_⟩
    rw[mF]
    have s2:aD H' (upd (upd H' dx (.own x)) x (.ins (clO X.K c) dx ((cY c).zip vs))):=fun b o q=>by
     rw[aR (bJ q hx),aR (bJ q hdx)];exact q
    refine h _ _ s2 ?_
    refine⟨x,dx,_,rfl,aJ.mpr ⟨fun z=>?_,bC⟩,List.map_fst_zip (by omega),?_⟩
    · rcases z with z | ⟨_,o,z,_⟩
      · obtain⟨o,q,_⟩:=d.bnd x z
        rw[hx]at q;cases q
      · have:=d.sam x o z
        rw[hx]at this;cases this
    · rw[List.map_snd_zip (by omega)]
      exact aL.same (aS (fun b o q _=>s2 b o q) fun b z=>.inl z) r
  · rw[if_neg hz]at h;exact h.elim
section
variable {Pg:Program}{w:World}{K:PySem.W.Frag}{mg:Str->Option Value}{base:Heap}
theorem aKx {qual:Str}{st:Stmt}{f:Addr}{fd:FuncData}(F:Fun K "__init__" qual st f fd)(S:FnScope ("self" :: cY 1) ("self" :: cY 1) (aM st))(O:OC K 1)
 (hb:∀ (cdv:Value) (A:Around) (outer:List PySem.Env) (s:Shared) (H:Hp) (E:XK),PSs (jO (CXM Pg w) Pg w K mg base ("self" :: cY 1) qual (aM st) f cdv A outer s H E) (cX st) (aEh (aDc K (nH 0) (nH 1) "bottom") (aEh (aDc K (nH 0) (nH 2) "heads") (aDc K (nH 0) (nH 3) "lines")))) :
 FnOk Pg w K mg base (CXM Pg w) 1 f fd ("self" :: cY 1) (spI K 1):=by
 obtain⟨oc,od,kV,doc,pm,an,cdv,ct,osl,rfl,lk,hcd⟩:=F.ex;refine zK lk hcd S (fun vs H Q E ⟨x,dx,us,e,l,_⟩=>by rw[e];simp[l]) fun A outer s H vs Q E hr ⟨x,dx,us,e,l,hx,q⟩=>⟨_,hb cdv A outer s H E,?_⟩
 match us,l with
 | [u1,u2,u3],_ =>
  subst e
  refine⟨u1,rfl,.ref x,rfl,x,_,dx,[],rfl,hx,O.cl,O.na _ (by decide +kernel),by decide,u2,rfl,.ref x,rfl,x,_,dx,_,rfl,bC,O.cl,O.na _ (by decide +kernel),by show (1:Nat)<1000;decide,
   u3,rfl,.ref x,rfl,x,_,dx,_,rfl,bC,O.cl,O.na _ (by decide +kernel),by show (2:Nat)<1000;decide,?_⟩
  rw[mF,mF];exact q
structure ORaw (K:PySem.W.Frag)(c:Nat)(C f:Addr):Prop where
 ns:Ay K mainGlobals (wG c)=some (some (.ref C))
 pg:Eg K C Str.empty=true
 hd:Di K C=true
 po:Ez K C=true
 sa:Aq K (.ref C) "__setattr__" = some (some (.builtin "object.__setattr__"))
 mkd:Fo K C=true
 ii:Aq K (.ref C) "__init__" = some (some (.ref f))
 fn:PySem.W.isFn K (.ref f)=true
 kc:Ci K (.ref C)=true
theorem ORaw.cl {c:Nat}{C f:Addr}(o:ORaw K c C f):clO K c=C:=by unfold clO;rw[o.ns]
theorem ORaw.oc {c:Nat}{C f:Addr}(o:ORaw K c C f)(na:∀ n∈cY c,Aq K (.ref C) n=some none):OC K c :=
 ⟨by rw[o.cl];exact⟨o.pg,o.hd,o.po,o.sa⟩,fun n hn=>by rw[o.cl];exact na n hn⟩
theorem ORaw.oc1 {C f:Addr}(o:ORaw K 1 C f)(h1:Aq K (.ref C) "bottom" = some none)(h2:Aq K (.ref C) "heads" = some none)(h3:Aq K (.ref C) "lines" = some none):OC K 1:=o.oc fun n hn=>by
 rcases Ad.mp hn with rfl | hn
 · exact h1
 · rcases Ad.mp hn with rfl | hn
   · exact h2
   · rw[Bz.mp hn];exact h3
theorem ORaw.mkr {c:Nat}{C f:Addr}{fd:FuncData}{h:Heap}(o:ORaw K c C f)(X:K.In h)(G:h.Ns mainGlobals mg)(F:FnOk Pg w K mg base (CXM Pg w) 1 f fd ("self" :: cY c) (spI K c))(b:gC K fd ("self" :: cY c) []):xC Pg w K mg base 1 c :=
 ⟨f,fd,by rw[o.cl];exact⟨o.mkd,o.ii,o.fn,o.kc⟩,F,b,by rw[o.cl];exact Dw X G o.ns⟩
end
end Mir
namespace Mir
open PySem L2 PySem.Spec PyProof.Rows
variable {X:Cx}{P:XP}{a b c e:Expr}{es:List Expr}{f g:FE}{fs:FEs}{pos p:Pos}
def CF:Int->Int->Bool:=fun _ j=>decide (j≠0)&&decide (j.natAbs.log2<9000)
def aDt:=i2E CF (fun i j=>i.fdiv j)
def aIu:Int->Int->Prop:=fun _ j=>j≠0/\j.natAbs.log2<9000
theorem aCj:OpR X (binaryOp .FloorDiv) (rI aIu fun i j=>.int (i.fdiv j)):=opI fun i j _ _ _ _ _ hc q=>floordiv_int hc.1 q (.inl (PyProof.noPylong_of_log2 hc.2))
theorem aJ3 (ha:PE X a (tE X.K P f))(hb:PE X b (tE X.K P g)):PE X (.BinOp a .FloorDiv b pos) (tE X.K P (aDt f g)):=vP aCj (fun i j h=>by
 unfold CF at h;simp at h;exact h) ha hb
end Mir
namespace Zp
open PySem
abbrev eH (a b c:Value):Obj:={ cls:=.type "tuple",data:=.seq #[a,b,c] }
abbrev gY (f0:Value)(f1:Bool)(TI TO:Addr):Obj:={ cls:=.type "zip",data:=.fields #[f0,.bool f1,.bool false,.ref TI,.ref TO] }
structure Pl3 (z TI TO i1 i2 i3 l1 l2 l3:Addr):Prop where
 nd:[z,TI,TO,i1,i2,i3].Nodup
 ls:∀ l∈[l1,l2,l3],l∉[z,TO,i1,i2,i3]
section
variable {prog:Program}{w:World}{A:Around}{E:Value->Shared->Prop}{s:Shared}{z TI TO i1 i2 i3 l1 l2 l3:Addr}{k:Nat}{xs ys zs:Array Value}
theorem aBm {T:Addr}{a b c x:Value}{j:Nat}{Q:Unit->Shared->Prop}(e:s.heap.get? T=some (eH a b c))
 (q:∀ h',h'.get? T=some { cls:=.type "tuple",data:=.seq ((#[a,b,c]:Array Value).setIfInBounds j x) }->Heap.SameBut T s.heap h'->Q () { s with heap:=h' }):wpAny (model prog w) A (updateSeq T fun r=>r.setIfInBounds j x) Q E s :=
 wpAny_updateSeq e rfl (q _ (by rw[Cp _ e rfl];simp[Obj.mapSeq]) (Heap.SameBut.update ..))
theorem aLz {f0:Value}{f1:Bool}{T:Addr}{Q:Unit->Shared->Prop}(e:s.heap.get? z=some (gY f0 f1 TI TO))(q:∀ h',h'.get? z=some (gY (rawInt T) false TI TO)->Heap.SameBut z s.heap h'->Q () { s with heap:=h' }):wpAny (model prog w) A (Builtin.SmallTypes.ownedTupleHandOut (.ref z) (.ref T)) Q E s:=by
 delta Builtin.SmallTypes.ownedTupleHandOut
 exact wpAny_bind (wpAny_setField_rec e (by simp) fun h1 e1 u1=>wpAny_setField_rec e1 (by simp) fun h2 e2 u2=>q h2 e2 ⟨u2.1.trans u1.1,fun b m=>(u2.2 b m).trans (u1.2 b m)⟩)
theorem aI3 {x y u a b c:Value}{Q:Fin->Shared->Prop}(D:Pl3 z TI TO i1 i2 i3 l1 l2 l3)
 (ho:s.heap.get? z=some (gY .none false TI TO)) (hI:s.heap.get? TI=some (eH (.ref i1) (.ref i2) (.ref i3))) (hO:s.heap.get? TO=some (eH a b c))
 (a1:s.heap.IsListIter i1 l1 k) (a2:s.heap.IsListIter i2 l2 k) (a3:s.heap.IsListIter i3 l3 k) (b1:s.heap.IsList l1 xs) (b2:s.heap.IsList l2 ys) (b3:s.heap.IsList l3 zs) (ex:xs[k]?=some x) (ey:ys[k]?=some y) (eu:zs[k]?=some u)
 (q:∀ h',h'.get? z=some (gY (rawInt s.heap.objs.size) false TI TO)->h'.get? TO=some (eH x y u)->h'.IsListIter i1 l1 (k+1)->h'.IsListIter i2 l2 (k+1)->h'.IsListIter i3 l3 (k+1)->h'.get? s.heap.objs.size=some (eH x y u)->h'.objs.size=s.heap.objs.size+1->Out [z,TO,i1,i2,i3] s.heap h' ->
  Q (.done (.ret (.ref s.heap.objs.size))) { s with heap:=h' }):wpAny (model prog w) A (Builtin.«zip.__next__» ⟨[.ref z],[]⟩) Q E s:=by
 obtain⟨nd,ls⟩:=D;simp only[Bw,Ad,Ak,or_false,not_or,not_false_eq_true,List.nodup_nil,and_true]at nd;obtain⟨⟨n1,n2,n3,n4,n5⟩,⟨n6,n7,n8,n9⟩,⟨n10,n11,n12⟩,⟨n13,n14⟩,n15⟩:=nd;have m1:=ls l1 (by simp)
 have m2:=ls l2 (by simp)
 have m3:=ls l3 (by simp)
 simp only[Ad,Ak,or_false,not_or]at m1 m2 m3;have hd:=show (gY .none false TI TO).data=.fields #[.none,.bool false,.bool false,.ref TI,.ref TO] from rfl
 repeat (first | assumption | (with_reducible refine wpAny_field ho hd rfl ?_) | (with_reducible refine wpAny_seqItems hI rfl ?_) | (with_reducible refine wpAny_setField_rec ho (by simp) fun h1 e1 u1=>?_) | ((fail_if_success with_reducible refine wpAny_bind (wpAny_bind (wpAny_onRaise ?_)));wp_step))
 refine wpAny_bind (wpAny_bind (wpAny_onRaise (wpAny_bind (wpAny_nextOf_list_item (it:=i1) (a1.extBut u1.extBut (Ne.symm n3)) (b1.extBut u1.extBut m1.1) ex fun h2 e2 u2=>wpAny_pure ?_))))
 have o2:h2.get? TO=some (eH a b c):=u2.extBut _ _ n10 (u1.extBut _ _ (Ne.symm n2) hO);repeat (first | assumption | (with_reducible refine wpAny_seqItems o2 rfl ?_) | (with_reducible refine aBm o2 fun h3 e3 u3=>?_) | ((fail_if_success with_reducible refine wpAny_bind (wpAny_bind (wpAny_onRaise ?_)));wp_step))
 have o3:h3.get? TO=some (eH x b c):=e3;refine wpAny_bind (wpAny_bind (wpAny_onRaise (wpAny_bind (wpAny_nextOf_list_item (it:=i2) (((a2.extBut u1.extBut (Ne.symm n4)).extBut u2.extBut (Ne.symm n13)).extBut u3.extBut (Ne.symm n11)) (((b2.extBut u1.extBut m2.1).extBut u2.extBut m2.2.2.1).extBut u3.extBut m2.2.1) ey fun h4 e4 u4=>wpAny_pure ?_))))
 have o4:h4.get? TO=some (eH x b c):=u4.extBut _ _ n11 o3;repeat (first | assumption | (with_reducible refine wpAny_seqItems o4 rfl ?_) | (with_reducible refine aBm o4 fun h5 e5 u5=>?_) | ((fail_if_success with_reducible refine wpAny_bind (wpAny_bind (wpAny_onRaise ?_)));wp_step))
 have o5:h5.get? TO=some (eH x y c):=e5;refine wpAny_bind (wpAny_bind (wpAny_onRaise (wpAny_bind (wpAny_nextOf_list_item (it:=i3) (((((a3.extBut u1.extBut (Ne.symm n5)).extBut u2.extBut (Ne.symm n14)).extBut u3.extBut (Ne.symm n12)).extBut u4.extBut (Ne.symm n15)).extBut u5.extBut (Ne.symm n12)) (((((b3.extBut u1.extBut m3.1).extBut u2.extBut m3.2.2.1).extBut u3.extBut m3.2.1).extBut u4.extBut m3.2.2.2.1).extBut u5.extBut m3.2.1) eu fun h6 e6 u6=>wpAny_pure ?_))))
 have o6:h6.get? TO=some (eH x y c):=u6.extBut _ _ n12 o5;have z6:h6.get? z=some (gY .ellipsis false TI TO):=u6.extBut _ _ n5 (u5.extBut _ _ n2 (u4.extBut _ _ n4 (u3.extBut _ _ n2 (u2.extBut _ _ n3 e1))));repeat (first | assumption | (with_reducible refine wpAny_seqItems o6 rfl ?_) | (with_reducible refine aBm o6 fun h7 e7 u7=>?_) | (with_reducible refine wpAny_seqItems (show h7.get? TO=some (eH x y u) from e7) rfl ?_) | (refine aLz (Aa _ (u7.extBut _ _ n2 z6)) fun h8 e8 u8=>?_) | wp_step)
 have z7:h7.objs.size=s.heap.objs.size:=u7.1.trans (u6.1.trans (u5.1.trans (u4.1.trans (u3.1.trans (u2.1.trans u1.1)))));have zl:s.heap.objs.size≠z:=Eu (Ae ho);have up:∀ c o,c≠z->h7.get? c=some o->h8.get? c=some o:=fun c o hc e=>u8.extBut _ _ hc (Aa _ e);have r1:h7.IsListIter i1 l1 (k+1):=((((e2.extBut u3.extBut (Ne.symm n10)).extBut u4.extBut n13).extBut u5.extBut (Ne.symm n10)).extBut u6.extBut n14).extBut u7.extBut (Ne.symm n10);have r2:h7.IsListIter i2 l2 (k+1):=((e4.extBut u5.extBut (Ne.symm n11)).extBut u6.extBut n15).extBut u7.extBut (Ne.symm n11)
 have r3:h7.IsListIter i3 l3 (k+1):=e6.extBut u7.extBut (Ne.symm n12);have nw:h8.get? h7.objs.size=some (eH x y u):=u8.extBut _ _ (z7▸zl) (Av h7 rfl);rw[z7]at e8 nw
 have key:=q h8 e8 (up _ _ (Ne.symm n2) e7) (r1.at fun o e=>up _ o (Ne.symm n3) e) (r2.at fun o e=>up _ o (Ne.symm n4) e) (r3.at fun o e=>up _ o (Ne.symm n5) e) nw (u8.1.trans ((Bi ..).trans (by rw[z7]))) fun c o hc e=>by
  simp only[Ad,Ak,or_false,not_or]at hc;obtain⟨c1,c2,c3,c4,c5⟩:=hc;exact up c o c1 (u7.extBut _ _ c2 (u6.extBut _ _ c5 (u5.extBut _ _ c2 (u4.extBut _ _ c4 (u3.extBut _ _ c2 (u2.extBut _ _ c3 (u1.extBut _ _ c1 e)))))))
 show Q (.done (.ret (.ref h7.objs.size))) { s with heap:=h8 }
 rw[z7];exact key
theorem aLt {a b c:Value}{Q:Fin->Shared->Prop}(hh:A.handled=none)(D:Pl3 z TI TO i1 i2 i3 l1 l2 l3)
 (ho:s.heap.get? z=some (gY .none false TI TO)) (hI:s.heap.get? TI=some (eH (.ref i1) (.ref i2) (.ref i3))) (hO:s.heap.get? TO=some (eH a b c))
 (a1:s.heap.IsListIter i1 l1 k) (a2:s.heap.IsListIter i2 l2 k) (a3:s.heap.IsListIter i3 l3 k) (b1:s.heap.IsList l1 xs) (b2:s.heap.IsList l2 ys) (b3:s.heap.IsList l3 zs) (no:xs.size<=k\/ys.size<=k\/zs.size<=k)
 (q:∀ h' e o,h'.get? e=some o->o.cls=.type "StopIteration"->Out [z,TO,i1,i2,i3] s.heap h'->E (.ref e) { s with heap:=h' }):wpAny (model prog w) A (Builtin.«zip.__next__» ⟨[.ref z],[]⟩) Q E s:=by
 obtain⟨nd,ls⟩:=D;simp only[Bw,Ad,Ak,or_false,not_or,not_false_eq_true,List.nodup_nil,and_true]at nd;obtain⟨⟨n1,n2,n3,n4,n5⟩,⟨n6,n7,n8,n9⟩,⟨n10,n11,n12⟩,⟨n13,n14⟩,n15⟩:=nd;have m1:=ls l1 (by simp)
 have m2:=ls l2 (by simp)
 have m3:=ls l3 (by simp)
 simp only[Ad,Ak,or_false,not_or]at m1 m2 m3;have hd:=show (gY .none false TI TO).data=.fields #[.none,.bool false,.bool false,.ref TI,.ref TO] from rfl
 have last:∀ (h h':Heap) (e:Addr) (o:Obj),Out [z,TO,i1,i2,i3] s.heap h->h.get? z=some (gY .ellipsis false TI TO)->h.get? e=some o->o.cls=.type "StopIteration"->Heap.SameBut z h h'->E (.ref e) { s with heap:=h' }:=fun h h' e o w1 w2 w3 w4 w5 =>
  q h' e o (w5.extBut _ _ (fun z'=>by rw[z',w2]at w3;cases w3;simp at w4) w3) w4 (w1.then (Out.of w5.extBut (by simp)))
 repeat (first | assumption | (with_reducible refine wpAny_field ho hd rfl ?_) | (with_reducible refine wpAny_seqItems hI rfl ?_) | (with_reducible refine wpAny_setField_rec ho (by simp) fun h1 e1 u1=>?_) | ((fail_if_success with_reducible refine wpAny_bind (wpAny_bind (wpAny_onRaise ?_)));wp_step))
 have w1:Out [z,TO,i1,i2,i3] s.heap h1:=Out.of u1.extBut (by simp)
 by_cases hx:k<xs.size
 · refine wpAny_bind (wpAny_bind (wpAny_onRaise (wpAny_bind (wpAny_nextOf_list_item (it:=i1) (a1.extBut u1.extBut (Ne.symm n3)) (b1.extBut u1.extBut m1.1) (Array.getElem?_eq_getElem hx) fun h2 e2 u2=>wpAny_pure ?_))))
   have o2:h2.get? TO=some (eH a b c):=u2.extBut _ _ n10 (u1.extBut _ _ (Ne.symm n2) hO);repeat (first | assumption | (with_reducible refine wpAny_seqItems o2 rfl ?_) | (with_reducible refine aBm o2 fun h3 e3 u3=>?_) | ((fail_if_success with_reducible refine wpAny_bind (wpAny_bind (wpAny_onRaise ?_)));wp_step))
   have w3:Out [z,TO,i1,i2,i3] s.heap h3:=(w1.then (Out.of u2.extBut (by simp))).then (Out.of u3.extBut (by simp))
   have y3:h3.get? z=some (gY .ellipsis false TI TO):=u3.extBut _ _ n2 (u2.extBut _ _ n3 e1);by_cases hy:k<ys.size
   · refine wpAny_bind (wpAny_bind (wpAny_onRaise (wpAny_bind (wpAny_nextOf_list_item (it:=i2) (((a2.extBut u1.extBut (Ne.symm n4)).extBut u2.extBut (Ne.symm n13)).extBut u3.extBut (Ne.symm n11)) (((b2.extBut u1.extBut m2.1).extBut u2.extBut m2.2.2.1).extBut u3.extBut m2.2.1) (Array.getElem?_eq_getElem hy) fun h4 e4 u4=>wpAny_pure ?_))))
     have o4:h4.get? TO=some (eH xs[k] b c):=u4.extBut _ _ n11 e3;repeat (first | assumption | (with_reducible refine wpAny_seqItems o4 rfl ?_) | (with_reducible refine aBm o4 fun h5 e5 u5=>?_) | ((fail_if_success with_reducible refine wpAny_bind (wpAny_bind (wpAny_onRaise ?_)));wp_step))
     have w5:Out [z,TO,i1,i2,i3] s.heap h5:=(w3.then (Out.of u4.extBut (by simp))).then (Out.of u5.extBut (by simp))
     have y5:h5.get? z=some (gY .ellipsis false TI TO):=u5.extBut _ _ n2 (u4.extBut _ _ n4 y3);have eu:zs[k]?=none:=Array.getElem?_eq_none (by omega)
     refine wpAny_bind (wpAny_bind (wpAny_onRaise (wpAny_bind (wpAny_nextOf_list_end (it:=i3) hh (((((a3.extBut u1.extBut (Ne.symm n5)).extBut u2.extBut (Ne.symm n14)).extBut u3.extBut (Ne.symm n12)).extBut u4.extBut (Ne.symm n15)).extBut u5.extBut (Ne.symm n12)) (((((b3.extBut u1.extBut m3.1).extBut u2.extBut m3.2.2.1).extBut u3.extBut m3.2.1).extBut u4.extBut m3.2.2.2.1).extBut u5.extBut m3.2.1) eu fun h6 e u6 p=>?_))))
     obtain⟨o,p1,p2⟩:=p;have y6:h6.get? z=some (gY .ellipsis false TI TO):=u6 _ _ n5 y5;exact wpAny_setField_rec y6 (by simp) fun h7 _ u7=>last h6 h7 e o (w5.then (Out.of u6 (by simp))) y6 p1 p2 u7
   · have ey:ys[k]?=none:=Array.getElem?_eq_none (Nat.not_lt.mp hy)
     refine wpAny_bind (wpAny_bind (wpAny_onRaise (wpAny_bind (wpAny_nextOf_list_end (it:=i2) hh (((a2.extBut u1.extBut (Ne.symm n4)).extBut u2.extBut (Ne.symm n13)).extBut u3.extBut (Ne.symm n11)) (((b2.extBut u1.extBut m2.1).extBut u2.extBut m2.2.2.1).extBut u3.extBut m2.2.1) ey fun h4 e u4 p=>?_))))
     obtain⟨o,p1,p2⟩:=p;have y4:h4.get? z=some (gY .ellipsis false TI TO):=u4 _ _ n4 y3;exact wpAny_setField_rec y4 (by simp) fun h7 _ u7=>last h4 h7 e o (w3.then (Out.of u4 (by simp))) y4 p1 p2 u7
 · have ex:xs[k]?=none:=Array.getElem?_eq_none (Nat.not_lt.mp hx)
   refine wpAny_bind (wpAny_bind (wpAny_onRaise (wpAny_bind (wpAny_nextOf_list_end (it:=i1) hh (a1.extBut u1.extBut (Ne.symm n3)) (b1.extBut u1.extBut m1.1) ex fun h2 e u2 p=>?_))))
   obtain⟨o,p1,p2⟩:=p;have y2:h2.get? z=some (gY .ellipsis false TI TO):=u2 _ _ n3 e1;exact wpAny_setField_rec y2 (by simp) fun h7 _ u7=>last h2 h7 e o (w1.then (Out.of u2 (by simp))) y2 p1 p2 u7
end
end Zp
namespace Zp
open PySem
abbrev itO (l:Addr):Obj:={ cls:=.type "list_iterator",data:=.fields #[.ref l,.int 0 0] }
theorem zt3 (a b c:Value):checkTypeCall "zip" ⟨[a,b,c],[]⟩=pure ():=by kernel_rfl
theorem zn3 (a b c:Value):checkBuiltinCall "zip.__new__" ⟨[.type "zip",a,b,c],[]⟩=pure ():=by kernel_rfl
theorem zi4 (o a b c:Value):argsOk "object.__init__" ⟨[o,a,b,c],[]⟩:=by
 unfold argsOk;rw[signature?_of (id:="object.__init__") (n:="__tini__".toList) (o:="tcejbo".toList) (by kernel_rfl) PySem.F.owner_object];kernel_rfl
def iA (h:Heap)(l1 l2 l3:Addr):Heap:=((h.push (itO l1)).push (itO l2)).push (itO l3)
def tups (h:Heap)(l1 l2 l3:Addr):Heap:=((iA h l1 l2 l3).push (eH (.ref h.objs.size) (.ref (h.push (itO l1)).objs.size) (.ref ((h.push (itO l1)).push (itO l2)).objs.size))).push (eH .none .none .none)
theorem aDh (l1 l2 l3:Addr)(xs ys zs:Array Value):Meets (Builtin.«zip.__new__» ⟨[.type "zip",.ref l1,.ref l2,.ref l3],[]⟩) (fun _ R s=>s.heap.IsList l1 xs/\s.heap.IsList l2 ys/\s.heap.IsList l3 zs /\
 R (.ok (.ret (.ref (tups s.heap l1 l2 l3).objs.size))) { s with heap:=(tups s.heap l1 l2 l3).push (gY .none false (iA s.heap l1 l2 l3).objs.size ((iA s.heap l1 l2 l3).push (eH (.ref s.heap.objs.size) (.ref (s.heap.push (itO l1)).objs.size) (.ref ((s.heap.push (itO l1)).push (itO l2)).objs.size))).objs.size) }) :=
 .of_wp fun prog w A R s h=>by
  obtain⟨hp,gs,dr,tk,sys⟩:=s;obtain⟨y1,y2,y3,h⟩:=h;have sub:=sub_zip;have p1:Heap.IsList (Shared.heap ⟨hp,gs,dr,tk,sys⟩) l1 xs:=y1;have p2:Heap.IsList (Shared.heap ⟨hp.push (itO l1),gs,dr,tk,sys⟩) l2 ys:=y2.push _;have p3:Heap.IsList (Shared.heap ⟨(hp.push (itO l1)).push (itO l2),gs,dr,tk,sys⟩) l3 zs:=(y3.push _).push _;wp_walk using wpAny_pyIter_list p1,wpAny_pyIter_list p2,wpAny_pyIter_list p3
  exact⟨_,rfl,h⟩
section
variable {prog:Program}{w:World}{A:Around}{E:Value->Shared->Prop}{s:Shared}
theorem aK6 {l1 l2 l3:Addr}{xs ys zs:Array Value}{Q:Value->Shared->Prop}(y1:s.heap.IsList l1 xs)(y2:s.heap.IsList l2 ys)(y3:s.heap.IsList l3 zs)
 (q:∀ (h':Heap) (n:Nat),n=s.heap.objs.size->h'.get? (n+5)=some (gY .none false (n+3) (n+4))->h'.get? (n+3)=some (eH (.ref n) (.ref (n+1)) (.ref (n+2)))->h'.get? (n+4)=some (eH .none .none .none) ->
  h'.IsListIter n l1 0->h'.IsListIter (n+1) l2 0->h'.IsListIter (n+2) l3 0->(∀ c o,s.heap.get? c=some o->h'.get? c=some o)->Q (.ref (n+5)) { s with heap:=h' }) :
 wpAny (model prog w) A (call (.type "zip") [.ref l1,.ref l2,.ref l3]) Q E s:=by
 refine callType_new PySem.F.called_zip (by decide) (zt3 _ _ _) (zn3 _ _ _) (fun o=>zi4 o _ _ _) PySem.F.entry_zip_new (aDh l1 l2 l3 xs ys zs) ⟨y1,y2,y3,?_⟩
 generalize hn:s.heap.objs.size=n
 have s1:(s.heap.push (itO l1)).objs.size=n+1:=by rw[Bi,hn]
 have s2:((s.heap.push (itO l1)).push (itO l2)).objs.size=n+2:=by rw[Bi,s1]
 have s3:(iA s.heap l1 l2 l3).objs.size=n+3:=by unfold iA;rw[Bi,s2]
 have s4:∀ o,((iA s.heap l1 l2 l3).push o).objs.size=n+4:=fun o=>by rw[Bi,s3]
 have s5:(tups s.heap l1 l2 l3).objs.size=n+5:=by unfold tups;rw[Bi,s4]
 have up:∀ c o,(iA s.heap l1 l2 l3).get? c=some o->∀ o',((tups s.heap l1 l2 l3).push o').get? c=some o:=fun c o e o'=>Aa _ (Aa _ (Aa _ e));have g0:(iA s.heap l1 l2 l3).get? n=some (itO l1):=Aa _ (Aa _ (hn▸Av s.heap rfl));have g1:(iA s.heap l1 l2 l3).get? (n+1)=some (itO l2):=Aa _ (s1▸Av (s.heap.push (itO l1)) rfl);have g2:(iA s.heap l1 l2 l3).get? (n+2)=some (itO l3):=s2▸Av ((s.heap.push (itO l1)).push (itO l2)) rfl
 have g3:∀ o',((tups s.heap l1 l2 l3).push o').get? (n+3)=some (eH (.ref n) (.ref (n+1)) (.ref (n+2))):=fun o'=>by
  have:=Aa o' (Aa (eH .none .none .none) (Av (iA s.heap l1 l2 l3) (o:=eH (.ref s.heap.objs.size) (.ref (s.heap.push (itO l1)).objs.size) (.ref ((s.heap.push (itO l1)).push (itO l2)).objs.size)) rfl))
  rw[s3,hn,s1,s2]at this;unfold tups;rw[hn,s1,s2];exact this
 have g4:∀ o',((tups s.heap l1 l2 l3).push o').get? (n+4)=some (eH .none .none .none):=fun o'=>Aa o' (s4 _▸Av ((iA s.heap l1 l2 l3).push _) rfl);have g5:∀ a b,((tups s.heap l1 l2 l3).push (gY .none false a b)).get? (n+5)=some (gY .none false a b):=fun a b=>s5▸Av (tups s.heap l1 l2 l3) rfl;rw[s5,s3,s4];refine⟨⟨_,g5 _ _,rfl⟩,q _ n hn.symm (g5 _ _) (g3 _) (g4 _) ⟨_,up _ _ g0 _,rfl,rfl⟩ ⟨_,up _ _ g1 _,rfl,rfl⟩ ⟨_,up _ _ g2 _,rfl,rfl⟩ fun c o e=>up _ _ (Aa _ (Aa _ (Aa _ e))) _⟩
end
end Zp
namespace L2
open PySem PySem.Spec PyProof.Rows Zp
def It3 (K:PySem.W.Frag)(a b c:Addr):It :=
  ⟨fun i H=>∃ xs ys zs x y u,SqL K H a xs/\SqL K H b ys/\SqL K H c zs/\xs[i]?=some x/\ys[i]?=some y/\zs[i]?=some u,
   fun i H v H'=>∃ t x y u,v=.ref t/\H t=none/\H'=upd H t (.tup [x,y,u])/\(∀ xs,SqL K H a xs->xs[i]?=some x)/\(∀ ys,SqL K H b ys->ys[i]?=some y)/\∀ zs,SqL K H c zs->zs[i]?=some u,
   fun i H=>∃ xs ys zs,SqL K H a xs/\SqL K H b ys/\SqL K H c zs/\(xs.length<=i\/ys.length<=i\/zs.length<=i)⟩
structure ZT (z TI TO i1 i2 i3 a b c:Addr)(i:Nat)(h:Heap):Prop where
 z0:h.get? z=some (gY .none false TI TO)
 it:h.get? TI=some (eH (.ref i1) (.ref i2) (.ref i3))
 ow:∃ u v w,h.get? TO=some (eH u v w)
 k1:h.IsListIter i1 a i
 k2:h.IsListIter i2 b i
 k3:h.IsListIter i3 c i
theorem ZT.all {z TI TO i1 i2 i3 a b c:Addr}{i:Nat}{h:Heap}(t:ZT z TI TO i1 i2 i3 a b c i h):∀ d∈[z,TI,TO,i1,i2,i3],∃ o,h.get? d=some o/\∀ v,o.data≠.cell v:=fun d hd=>by
 obtain⟨z0,it,⟨u,v,w,ow⟩,⟨o1,e1,_,d1⟩,⟨o2,e2,_,d2⟩,⟨o3,e3,_,d3⟩⟩:=t;simp only[Ad,Ak,or_false]at hd;rcases hd with rfl | rfl | rfl | rfl | rfl | rfl
 · exact⟨_,z0,fun v z=>nomatch z⟩
 · exact⟨_,it,fun v z=>nomatch z⟩
 · exact⟨_,ow,fun v z=>nomatch z⟩
 · exact⟨o1,e1,fun v z=>by rw[d1]at z;cases z⟩
 · exact⟨o2,e2,fun v z=>by rw[d2]at z;cases z⟩
 · exact⟨o3,e3,fun v z=>by rw[d3]at z;cases z⟩
theorem aJ6 {P:Program}{w:World}{K:PySem.W.Frag}{es:List Expr}{k:Nat}{pos:Pos}{z TI TO i1 i2 i3 a b c:Addr}(D:Pl3 z TI TO i1 i2 i3 a b c) :
 Turn P w K (.Tuple es k pos) (It3 K a b c) [z,TI,TO,i1,i2,i3] z (ZT z TI TO i1 i2 i3 a b c) where
 mem:=by simp
 obj:=fun i h st d hd=>st.all d hd
 keep:=fun i h h' st kp=>by
  obtain⟨z0,it,⟨u,v,w,ow⟩,k1,k2,k3⟩:=st;exact⟨kp _ (by simp) _ z0,kp _ (by simp) _ it,⟨u,v,w,kp _ (by simp) _ ow⟩,k1.at fun o e=>kp _ (by simp) o e,k2.at fun o e=>kp _ (by simp) o e,k3.at fun o e=>kp _ (by simp) o e⟩
 item:=by
  intro X hP hw hK hc i pins s σ H E I hf st hg;subst hP hw hK;obtain⟨xs,ys,zs,x,y,t,ha,hb,hd,hx,hy,ht⟩:=hg;obtain⟨us,ru,pu,_⟩:=I.list ha;obtain⟨vs,rv,pv,_⟩:=I.list hb;obtain⟨ws,rw',pw,_⟩:=I.list hd;obtain⟨u,eu,rxu⟩:=ru.get hx;obtain⟨v,ev,ryv⟩:=rv.get hy;obtain⟨w0,ew,rtw⟩:=rw'.get ht;have al:=st.all;obtain⟨z0,it,⟨u0,v0,x0,ow⟩,k1,k2,k3⟩:=st;refine nxt z0 rfl (aI3 D z0 it ow k1 k2 k3 pu.isList pv.isList pw.isList (x:=u) (y:=v) (u:=w0) (by simpa using eu) (by simpa using ev) (by simpa using ew) fun h' b1 b2 b3 b4 b5 b6 b7 b8=>⟨_,rfl,_,rfl,?_⟩)
  refine wpAny_letOwnedTupleGo_zip b1 fun hp2 c1 cs=>?_
  have nz:s.heap.objs.size≠z:=Eu (Ae z0);have nd:=D.nd;simp only[Bw,Ad,Ak,or_false,not_or,not_false_eq_true,List.nodup_nil,and_true]at nd;obtain⟨⟨n1,n2,n3,n4,n5⟩,⟨n6,n7,n8,n9⟩,_⟩:=nd
  have kp:∀ d o,d∉[z,TI,TO,i1,i2,i3]->s.heap.get? d=some o->hp2.get? d=some o:=fun d o hd' e=>by
   simp only[Ad,Ak,or_false,not_or]at hd';exact cs.extBut d o hd'.1 (b8 d o (by simp[hd'.1,hd'.2.2]) e)
  have st':ZT z TI TO i1 i2 i3 a b c (i+1) hp2:=⟨c1,cs.extBut _ _ (Ne.symm n1) (b8 _ _ (by simp[Ne.symm n1,n6,n7,n8,n9]) it),⟨_,_,_,cs.extBut _ _ (Ne.symm n2) b2⟩,b3.extBut cs.extBut (Ne.symm n3),b4.extBut cs.extBut (Ne.symm n4),b5.extBut cs.extBut (Ne.symm n5)⟩
  have pr:hp2.get? s.heap.objs.size=some (eH u v w0):=cs.extBut _ _ nz b6;have fr:H s.heap.objs.size=none:=I.fresh
  refine⟨.ref s.heap.objs.size,upd H s.heap.objs.size (.tup [x,y,t]),I.turnedNew (t':=s.toks) kp hf (fun d hd'=>let ⟨o,e,_⟩:=st'.all d hd';⟨o,e⟩) (An _) ⟨by show 3<=sizeLine;decide,[u,v,w0],.cons rxu (.cons ryv (.cons rtw .nil)),⟨_,pr,rfl,_,rfl⟩⟩,rfl,
   ⟨_,x,y,t,rfl,fr,rfl,fun l hq=>by rw[I.list_inj hq ha];exact hx,fun l hq=>by rw[I.list_inj hq hb];exact hy,fun l hq=>by rw[I.list_inj hq hd];exact ht⟩,st',fun d hd'=>?_⟩
  obtain⟨o,e,_⟩:=al d hd';rw[aR (Au (Ae e))];exact(hf d hd').1
 done:=by
  intro X hP hw hK hc i pins s σ H E I hf st hg;subst hP hw hK;obtain⟨xs,ys,zs,ha,hb,hd,hend⟩:=hg;obtain⟨us,ru,pu,_⟩:=I.list ha;obtain⟨vs,rv,pv,_⟩:=I.list hb;obtain⟨ws,rw',pw,_⟩:=I.list hd;have lu:=ru.length;have lv:=rv.length;have lw:=rw'.length;obtain⟨z0,it,⟨u0,v0,x0,ow⟩,k1,k2,k3⟩:=st;refine nxt z0 rfl (aLt (I.ok.hd hc) D z0 it ow k1 k2 k3 pu.isList pv.isList pw.isList (by rw[Aj,Aj,Aj];omega) fun h' e o e1 e2 kp=>⟨e,o,rfl,e1,e2,rfl,I.turnedL (t':=s.toks) (fun d u hd' q=>kp d u (fun m=>hd' ?_) q) hf⟩)
  simp only[Ad,Ak,or_false]at m ⊢;rcases m with m | m | m | m | m<;>simp[m]
 self:=fun _ _ _ _ _ st h=>wpAny_pyIter_zip st.z0 h
def aJk (K:PySem.W.Frag)(ta:TA):TI:=fun σ H R=>ta σ H fun vs H1=>∃ a b c,vs=[.ref a,.ref b,.ref c]/\(∃ xs,SqL K H1 a xs)/\(∃ ys,SqL K H1 b ys)/\(∃ zs,SqL K H1 c zs)/\R (It3 K a b c) H1
theorem aDe {X:Cx}{es:List Expr}{k:Nat}{tp:Pos}{a b c:Expr}{t:TA}{p pos:Pos}(hc:X.calm=true)(hg:Gl X "zip")(hm:X.mg "zip" = none)(ha:PA X [a,b,c] t)
 (h1:starEach [a,b,c] X.env=(false,eval a X.env) :: starEach [b,c] X.env:=by rfl) (h2:(backTo pos (starEach [b,c] X.env)).any (·.1)=false:=by rfl) :
 PI X (.Tuple es k tp) (.Call (.Name "zip" p) [a,b,c] [] pos) (aJk X.K t):=by
 intro pins s σ H R I h;refine Call_ (iO I hg hm boot_zip (Bu (thn (ha pos pins s σ H _ I h) fun us s1 ⟨vs,H1,I1,r1,x,y,u,e,⟨xs,hx⟩,⟨ys,hy⟩,⟨zs,hz⟩,q⟩=>?_) h1 h2))
 subst e;cases r1 with
 | cons rx r2=>cases r2 with
  | cons ry r3=>cases r3 with
   | cons rz r4 =>
    cases r4;cases rx;cases ry;cases rz;obtain⟨us',ru,pu,_⟩:=I1.list hx;obtain⟨vs',rv,pv,_⟩:=I1.list hy;obtain⟨ws',rw',pw,_⟩:=I1.list hz;have lt:∀ {l:Addr} {v:Array Value},s1.heap.IsList l v->l<s1.heap.objs.size:=fun il=>by obtain⟨_,e,_⟩:=il;exact Ae e
    have a1:=lt pu.isList;have a2:=lt pv.isList;have a3:=lt pw.isList;refine aK6 pu.isList pv.isList pw.isList fun h1 n hn z0 it ow k1 k2 k3 kp=>wpAny_pyIter_zip z0 ?_
    have big:∀ d∈[n+5,n+3,n+4,n,n+1,n+2],s1.heap.objs.size<=d:=fun d hd=>by
     simp only[Ad,Ak,or_false]at hd;rw[←hn];rcases hd with rfl | rfl | rfl | rfl | rfl | rfl<;>first | exact An _ | exact Bo _ _
    have pl:Pl3 (n+5) (n+3) (n+4) n (n+1) (n+2) x y u:=by
     refine⟨by simp,fun l hl=>?_⟩
     simp only[Ad,Ak,or_false,not_or]at hl ⊢;have:l<n:=by rw[hn];rcases hl with rfl | rfl | rfl<;>assumption
     exact⟨Au (Ac this (Bo _ _)),Au (Ac this (Bo _ _)),Au this,Au (Ac this (Bo _ _)),Au (Ac this (Bo _ _))⟩
    exact⟨_,[n+5,n+3,n+4,n,n+1,n+2],_,_,H1,rfl,I1.kept (t':=s1.toks) kp,aJ6 pl,⟨z0,it,⟨_,_,_,ow⟩,k1,k2,k3⟩,fun d hd=>I1.fpOk (big d hd) (I1.hok.fresh (big d hd)),q⟩
end L2
namespace Mir
open PySem L2
variable {X:Cx}{P:XP}{a b c:Expr}{f g h:FE}{pos p:Pos}
def zp3:List D->List D->List D->List D
 | x :: xs,y :: ys,z :: zs=>.tup [x,y,z] :: zp3 xs ys zs
 | _,_,_=>[]
theorem aAf:∀ (xs ys zs:List D) (i:Nat),(∀ d,(zp3 xs ys zs)[i]?=some d->∃ x y z,xs[i]?=some x/\ys[i]?=some y/\zs[i]?=some z/\d=.tup [x,y,z])/\((zp3 xs ys zs).length<=i->xs.length<=i\/ys.length<=i\/zs.length<=i)
 | [],ys,zs,i=>⟨fun d e=>by simp[zp3]at e,fun _=>.inl (Cq _)⟩
 | _ :: _,[],zs,i=>⟨fun d e=>by simp[zp3]at e,fun _=>.inr (.inl (Cq _))⟩
 | _ :: _,_ :: _,[],i=>⟨fun d e=>by simp[zp3]at e,fun _=>.inr (.inr (Cq _))⟩
 | x :: xs,y :: ys,z :: zs,0=>⟨fun d e=>⟨x,y,z,rfl,rfl,rfl,by simpa[zp3] using e.symm⟩,fun l=>by simp[zp3]at l⟩
 | x :: xs,y :: ys,z :: zs,i+1=>by
  obtain⟨h1,h2⟩:=aAf xs ys zs i;refine⟨fun d e=>?_,fun l=>?_⟩
  · obtain⟨u,v,w,q⟩:=h1 d (by simpa[zp3] using e)
    exact⟨u,v,w,by simpa using q⟩
  · have:=h2 (by simpa[zp3] using l)
    simpa using this
def pP (a b c:FE):FI:=fun ρ=>do
 let rs ← evs [a,b,c] ρ
 match rs with
 | [x,y,z]=>do
  let xs ← asL x.d
  let ys ← asL y.d
  let zs ← asL z.d
  .ok ⟨(x.k != .own&&y.k != .own)&&z.k != .own,(x.fr&&y.fr)&&z.fr,zp3 xs ys zs⟩
 | _=>.stk
theorem aK2 {K:PySem.W.Frag}{H0 H':Hp}{B:Addr->Prop}{a b c:Addr}{xs ys zs:List V}{ds es us:List D}{st f1 f2 f3:Bool}(hs:st=true->¬ B a/\¬ B b/\¬ B c)(ra:Rd H' a (.lst xs))(rb:Rd H' b (.lst ys))(rc:Rd H' c (.lst zs))
 (pa:aL K (aW f1 H0 H' B) ds xs) (pb:aL K (aW f2 H0 H' B) es ys) (pc:aL K (aW f3 H0 H' B) us zs):qR K H0 H' B (It3 K a b c) ⟨st,(f1&&f2)&&f3,zp3 ds es us⟩:=by
 refine⟨fun d=>d=a\/d=b\/d=c,fun h d z=>z.elim (fun e=>e▸(hs h).1) fun z=>z.elim (fun e=>e▸(hs h).2.1) fun e=>e▸(hs h).2.2,fun H2 B2 j1 j2 j3 j4 j5 i=>?_⟩
 have q1:SqL K H2 a xs:=.inl (gZ ra fun o=>j1 a o (.inl rfl));have q2:SqL K H2 b ys:=.inl (gZ rb fun o=>j1 b o (.inr (.inl rfl)));have q3:SqL K H2 c zs:=.inl (gZ rc fun o=>j1 c o (.inr (.inr rfl)));have l1:=pa.length;have l2:=pb.length;have l3:=pc.length;obtain⟨z1,z2⟩:=aAf ds es us i;refine⟨fun hi=>⟨xs,ys,zs,q1,q2,q3,by have:=z2 hi;omega⟩,fun d hd=>?_⟩
 obtain⟨d1,d2,d3,e1,e2,e3,rfl⟩:=z1 d hd;obtain⟨v1,hv1,r1⟩:=pa.get e1;obtain⟨v2,hv2,r2⟩:=pb.get e2;obtain⟨v3,hv3,r3⟩:=pc.get e3;refine⟨⟨xs,ys,zs,v1,v2,v3,q1,q2,q3,hv1,hv2,hv3⟩,fun x H3 y=>?_⟩
 obtain⟨t,x1,x2,x3,w1,w2,w3,y1,y2,y3⟩:=y;have k1:=y1 xs q1;have k2:=y2 ys q2;have k3:=y3 zs q3;rw[hv1]at k1;cases k1;rw[hv2]at k2;cases k2;rw[hv3]at k3;cases k3;subst w1;subst w3;have m:∀ fr,aD (aW fr H0 H' B) (aW fr H0 (upd H2 t (.tup [v1,v2,v3])) B2):=fun fr=>aS (fun b o q n=>aD.upd_new w2 b o (j2 b o q n)) j3
 have one:∀ {f f':Bool} {d:D} {v:V},(f'=true->f=true)->Rep K (aW f H0 H' B) d v->Rep K (aW f' H0 (upd H2 t (.tup [v1,v2,v3])) B2) d v:=fun {f f' d v} ff r=>by
  have r':=Rep.same (m f) r;cases f with
  | true =>
   cases f' with
   | true=>exact r'
   | false=>exact Rep.same (fun b o q=>let ⟨n,q⟩:=aJ.mp q;aJ.mpr ⟨fun z=>n (z.imp id fun⟨h,_⟩=>nomatch h),q⟩) r'
  | false =>
   cases f' with
   | true=>exact absurd (ff rfl) (by decide)
   | false=>exact r'
 refine⟨aD.upd_new w2,t,[v1,v2,v3],rfl,aJ.mpr ⟨fun z=>?_,bC⟩,v1,[v2,v3],rfl,one (fun z=>?_) r1,v2,[v3],rfl,one (fun z=>?_) r2,v3,[],rfl,one (fun z=>?_) r3,rfl⟩
 · rcases z with z | ⟨_,o,z,_⟩
   · obtain⟨o,q⟩:=j4 t z;rw[w2]at q;cases q
   · rw[j5 _ _ z]at w2;cases w2
 all_goals (simp only[Bm]at z;first | exact z.1.1 | exact z.1.2 | exact z.2)
theorem aD1 {ts:List Expr}{k:Nat}{tp:Pos}(hc:X.calm=true)(hg:Gl X "zip")(hm:X.mg "zip" = none)(ha:PE X a (tE X.K P f))(hb:PE X b (tE X.K P g))(hd:PE X c (tE X.K P h))(h1:starEach [a,b,c] X.env=(false,eval a X.env) :: starEach [b,c] X.env:=by rfl)(h2:starEach [b,c] X.env=(false,eval b X.env) :: starEach [c] X.env:=by rfl)(h3:starEach [c] X.env=(false,eval c X.env) :: starEach [] X.env:=by rfl)(h4:(backTo pos (starEach [b,c] X.env)).any (·.1)=false:=by rfl) :
 PI X (.Tuple ts k tp) (.Call (.Name "zip" p) [a,b,c] [] pos) (tI X.K P (pP f g h)):=by
 refine PI.imp (aDe hc hg hm (aA ha (aA hb (aA hd aF h3) h2) h1) h1 h4) ?_
 intro σ H Rq q
 refine aD5 (k:=fun rs=>match rs with
  | [x,y,z]=>(asL x.d >>= fun xs=>asL y.d >>= fun ys=>asL z.d >>= fun zs=>.ok ⟨(x.k != .own&&y.k != .own)&&z.k != .own,(x.fr&&y.fr)&&z.fr,zp3 xs ys zs⟩)
  | _=>.stk) q ?_
 intro H0 B ρ vs H' rs d0 d gs s q;match vs,rs,gs with
 | [],rs,gs=>have e:rs=[]:=gs;subst e;exact q.elim
 | [v],_,⟨r,rr,e1,g1,g2⟩=>subst e1;rw[show rr=[] from g2]at q;exact q.elim
 | [v,w],_,⟨r,rr,e1,g1,r2,rr2,e2,g2,g3⟩=>subst e1;subst e2;rw[show rr2=[] from g3]at q;exact q.elim
 | _ :: _ :: _ :: _ :: _,_,⟨r,rr,e1,g1,r2,rr2,e2,g2,r3,rr3,e3,g3,r4,rr4,e4,_⟩=>subst e1;subst e2;subst e3;subst e4;exact q.elim
 | [v,w,u],_,⟨r,rr,e1,g1,r2,rr2,e2,g2,r3,rr3,e3,g3,g4⟩ =>
  subst e1;subst e2;subst e3;rw[show rr3=[] from g4]at q
  cases a1:asL r.d with
  | stk=>simp[a1]at q
  | exc x=>exact(eB a1).elim
  | ok xs=>cases a2:asL r2.d with
   | stk=>simp[a1,a2]at q
   | exc x=>exact(eB a2).elim
   | ok ys=>cases a3:asL r3.d with
    | stk=>simp[a1,a2,a3]at q
    | exc x=>exact(eB a3).elim
    | ok zs =>
     simp only[a1,a2,a3,R.ok_bind]at q;obtain⟨p1,x1,y1,z1,w1⟩:=g1.list (cW a1);obtain⟨p2,x2,y2,z2,w2⟩:=g2.list (cW a2);obtain⟨p3,x3,y3,z3,w3⟩:=g3.list (cW a3);refine⟨p1,p2,p3,by rw[y1,y2,y3],⟨x1,.inl z1⟩,⟨x2,.inl z2⟩,⟨x3,.inl z3⟩,q _ H' (aD.refl _) (aK2 (fun hk=>?_) z1 z2 z3 w1 w2 w3)⟩
     simp only[Bm]at hk;exact⟨g1.notB d0 (cW a1) y1 hk.1.1,g2.notB d0 (cW a2) y2 hk.1.2,g3.notB d0 (cW a3) y3 hk.2⟩
end Mir
namespace Mir
open PySem L2 PySem.W
section
variable {prog:Program}{w:World}{A:Around}{E:Value->Shared->Prop}{s:Shared}{K:Frag}{C T x:Addr}{ox:Obj}{name:Str}{v:Value}
structure XFld (K:Frag)(T C:Addr)(name:Str):Prop where
 sa:findIn K (.ref C) "__setattr__" = some (some (.builtin "object.__setattr__"))
 cl:∃ cd,clsIn K C=some cd/\cd.hasDict=true/\cd.mro=.ref C :: uA T
 no:findIn K (.ref C) name=some none
theorem vL (self:Value)(C T:Addr):refuseLoop self "__setattr__" (.ref C :: uA T)=pure ():=by
 rw[refuseLoop_ref,refuseLoop_ref];exact PySem.F.store_ValueError.passes self
theorem yI {Q:Unit->Shared->Prop}(X:K.In s.heap)(F:XFld K T C name)(hx:s.heap.get? x=some ox)(hcl:ox.cls=.ref C)(hno:notCls ox=true)(hd0:ox.dict=none)
 (h:∀ h' dx tk,s.heap.get? dx=none->h'.get? x=some { ox with dict:=some dx }->h'.Ns1 dx (fun y=>if y=name then some v else none)->(∀ b o,b≠x->s.heap.get? b=some o->h'.get? b=some o)->Q () { s with heap:=h',toks:=tk }) :
 wpAny (model prog w) A (setAttr (.ref x) name v) Q E s:=by
 obtain⟨cd,hc,hdi,hmro⟩:=F.cl;have J:InstAt s.heap x ox C none:=⟨hx,hcl,hno,by rw[hd0];trivial⟩
 refine set_plain X J F.sa ?_
 have sub:Looks (model prog w) ({ s with toks:=s.toks+1 }:Shared).heap (isInstance (.ref x) (.type "object")) true:=J.type.andThen (looks_mroIn X (by unfold mroIn;rw[hc,Dr,hmro];simp))
 obtain so:=PySem.F.store_object;refine codeAny_call_builtin so.slot.plain so.entry (@check_slot (model prog w) _ _ _ "object.__setattr__" "object" "__setattr__" (.ref x) [.str name s.toks,v] [] _ so.kind so.split sub (so.args (.ref x) (.str name s.toks) v) ?_)
 have hm:Looks (model prog w) ({ s with toks:=s.toks+1 }:Shared).heap (mroOf (.ref C)) cd.mro:=(looks_clsIn X hc).andThen .now
 rw[osa_eq,refuse_eq];refine wpAny_bind (wpAny_bind (J.type.here (s:={ s with toks:=s.toks+1 }) (wpAny_bind (hm.here ?_))))
 rw[hmro,vL];refine wpAny_pure (wpAny_bind (J.type.here (s:={ s with toks:=s.toks+1 }) (wpAny_bind ((looks_findIn X F.no).here (s:={ s with toks:=s.toks+1 }) (wpAny_bind (wpAny_pure ?_))))))
 refine wpAny_bind (wpAny_pure (wpAny_bind (wpAny_bind (wpAny_loadPart hx ?_))))
 obtain⟨oc,odi,da,sl⟩:=ox;dsimp only at hcl hd0
 subst hcl hd0;refine wpAny_bind ((looks_clsIn X hc).here (s:={ s with toks:=s.toks+1 }) ?_)
 rw[hdi];have nc:∀ c,da≠.cls c:=fun c z=>by subst z;cases hno
 have new:s.heap.get? s.heap.objs.size=none:=El (An _);have xl:x≠s.heap.objs.size:=Au (Ae hx);rw[if_neg (by decide)]
 dsimp only
 rw[if_neg (by simp[typeHasDict])]
 split
 · exact absurd rfl (nc _)
 have hx1:(s.heap.push { cls:=.type "dict",data:=.dict #[] }).get? x=some { cls:=.ref C,data:=da,slots:=sl }:=Aa _ hx;refine wpAny_bind (wpAny_alloc (wpAny_bind (wpAny_update hx1 (wpAny_pure ?_))))
 have xs:=Cp (fun o:Obj=>{ cls:=o.cls,dict:=some s.heap.objs.size,data:=o.data,slots:=o.slots }) hx1 (by
  have:=pE hx
  cases da<;>first | rfl | exact this)
 have ds:((s.heap.push { cls:=.type "dict",data:=.dict #[] }).update x fun o=>{ cls:=o.cls,dict:=some s.heap.objs.size,data:=o.data,slots:=o.slots }).get? s.heap.objs.size=some { cls:=.type "dict",data:=.dict #[] }:=(Cn _ _ xl).trans (Av _ rfl);dsimp only
 unfold Builtin.ObjectAttr.storeInDict Builtin.ObjectAttr.newKeyGuard;refine wpAny_bind (wpAny_pure (wpAny_bind (wpAny_nsSet1 (Heap.Ns1.of_empty ⟨_,#[],_,ds,rfl,fun e he=>absurd he (by simp),fun _=>rfl⟩) fun h' n1 sb=>?_)))
 obtain⟨oD,es,ep,e1,e2,e3⟩:=n1.count (Within.cons name v Within.nil);refine wpAny_bind (wpAny_lookBehind e1 (by rw[e2];exact pastItsLine_dict (Bn e3 (by simp))) (wpAny_pure ?_))
 exact h h' s.heap.objs.size _ new ((sb.2 x xl).trans xs) n1 fun b o hb q=>(sb.2 b (Au (Ae q))).trans ((Cn _ _ (Ne.symm hb)).trans (Aa _ q))
end
end Mir
namespace Mir
open PySem L2 PySem.W
section
variable {prog:Program}{w:World}{A:Around}{E:Value->Shared->Prop}{s:Shared}{K:Frag}{C T x:Addr}{ox od:Obj}{name:Str}{v:Value}
theorem aBe {tk:Tok}{Q:Fin->Shared->Prop}(X:K.In s.heap)(I:InstAt s.heap x ox C (some od))(hf:findObj K C (some od) name=some (.value v))(hv:handedIn v=true)(q:Q (.done (.ret v)) s) :
 wpAny (model prog w) A (Builtin.«object.__getattribute__» ⟨[.ref x,.str name tk],[]⟩) Q E s:=by
 have l0:=I.type (M:=model prog w);have l1:=looks_find (M:=model prog w) X I hf;have l2:=handedOut_of hv;obtain⟨h,g,d,t,os⟩:=s;repeat (any_goals (first | assumption | with_reducible refine l0.at ?_ | with_reducible refine l1.at ?_ | wp_step))
theorem aAh {expr:Bool}{Q:Value->Shared->Prop}(c:XCls K C)(X:K.In s.heap)(I:InstAt s.heap x ox C (some od))(hf:findObj K C (some od) name=some (.value v))(hv:handedIn v=true)(q:Q v { s with toks:=s.toks+1 }) :
 wpAny (model prog w) A (getAttr (.ref x) name expr) Q E s:=by
 have l0:=I.type (M:=model prog w);have l1:=looks_findIn (M:=model prog w) X c.ga;have l2:=looks_findIn (M:=model prog w) X c.gh;have l3:=F.excAttr_ValueError.ga.bind (.ref x);have l4:=handedOut_of hv
 have n1:(onTheHeap (Value.ref C)&&Value.builtin "BaseException.__getattribute__" == Value.builtin "object.__getattribute__")=false:=by
  rw[show (Value.builtin "BaseException.__getattribute__" == Value.builtin "object.__getattribute__")=false by decide +kernel,Bool.and_false]
 obtain⟨h,g,d,t,os⟩:=s;unfold getAttr;repeat (any_goals (first | assumption | with_reducible refine l0.at ?_ | with_reducible refine l1.at ?_ | with_reducible refine l2.at ?_ | wp_step))
 rw[if_neg (by rw[show onTheHeap (Value.builtin "BaseException.__getattribute__")=false from rfl,Bool.and_false];decide)]
 have ex:dR x C h:=⟨ox,I.at_,I.cls,I.no⟩;unfold boundAndCalled;repeat first | wp_step | assumption
 refine codeAny_call_builtin F.excAttr_ValueError.ga.plain F.entry_bexc_ga (aIz c X ex (aBe X I hf hv ?_))
 repeat first | wp_step | assumption
end
end Mir
namespace Mir
open PySem L2
abbrev aMd (vs:List Value):Obj:={ cls:=.type "tuple",data:=.seq vs.toArray }
abbrev oO (C t:Addr):Obj:={ cls:=.ref C,data:=.fields #[.ref t,.none,.none,.none,.bool false,.none] }
abbrev made (h:Heap)(C:Addr)(vs:List Value):Heap:=(h.push (aMd vs)).push (oO C h.objs.size)
def nF (h:Heap)(C N:Addr)(bm:List Value)(new:String):Prop:=∃ nm q bs hdct sn sub ab col dd k0 k1 k2 k3 k5,h.get? C=some (excClassObj nm q C N bs bm hdct sn sub ab col dd k0 k1 k2 k3 k5 new)
def aH5 (h:Heap)(C fI:Addr):Prop:=∃ b n i bmB bm N mN o,ExcBaseFacts b n i bmB/\OwnTail h bmB bm/\nF h C N bm n/\h.Ns N mN/\mN "__init__" = some (.ref fI)/\h.get? fI=some o/\o.cls=.type "function"
theorem nF.keeps {h h':Heap}{C N:Addr}{bm:List Value}{n:String}(c:nF h C N bm n)(k:∀ b o,h.get? b=some o->h'.get? b=some o):nF h' C N bm n :=
 let ⟨nm,q,bs,hdct,sn,sub,ab,col,dd,k0,k1,k2,k3,k5,e⟩:=c
 ⟨nm,q,bs,hdct,sn,sub,ab,col,dd,k0,k1,k2,k3,k5,k _ _ e⟩
theorem aCg {Pg:Program}{w:World}{R:Around}{Z:Value->Shared->Prop}{C fI:Addr}{vs:List Value}{s:Shared}{Y:Value->Shared->Prop}(S:aH5 s.heap C fI)(few:vs.length<=sizeLine)
 (run:wpAny (model Pg w) (R.under (.builtin "type.__call__" ⟨.ref C :: vs,[]⟩)) (call (.ref fI) (.ref (s.heap.objs.size+1) :: vs)) (fun r s'=>r=.none/\Y (.ref (s.heap.objs.size+1)) s') Z { s with heap:=made s.heap C vs }) :
 wpAny (model Pg w) R (call (.ref C) vs) Y Z s:=by
 obtain⟨b,n,i,bmB,bm,N,mN,oI,F,T,cl,hn,hi,hf,hfc⟩:=S;obtain⟨hp,gs,dr,tk,sys⟩:=s;have more:∀ b o,hp.get? b=some o->(made hp C vs).get? b=some o:=fun b o e=>Aa _ (Aa _ e);have cl2:=cl.keeps more;obtain⟨nm,q,bs,hdct,sn,sub,ab,col,dd,k0,k1,k2,k3,k5,e0⟩:=cl;obtain⟨nm',q',bs',hdct',sn',sub',ab',col',dd',k0',k1',k2',k3',k5',e1⟩:=cl2;have f1:=tc_lookup;have f2:=tc_bind (.ref C);have ty:(⟨hp,gs,dr,tk,sys⟩:Shared).TypeIs (.ref C) "type":=⟨_,e0,rfl⟩;have new:(made hp C vs).get? (hp.objs.size+1)=some (oO C hp.objs.size):=by heap_get
 have self:(Value.ref C :: bm).contains (.ref C)=true:=by simp
 have start:∀ Q:Fin->Shared->Prop,(∀ s',Y (.ref (hp.objs.size+1)) s'->Q (.done (.ret (.ref (hp.objs.size+1)))) s')->wpAny (model Pg w) (R.under (.builtin "type.__call__" ⟨.ref C :: vs,[]⟩)) (Builtin.«type.__call__» ⟨.ref C :: vs,[]⟩) Q Z ⟨hp,gs,dr,tk,sys⟩:=fun Q last=>by
  repeat (first | wp_step | with_reducible refine wpAny_madeBy_exc e0 ?_ | with_reducible refine wpAny_loadPart_at e0 ?_)
  refine codeAny_call_builtin_code (Code.quiet_builtin _ F.quiet) (wpAny_check_new_subT F T e0 (codeAny_exc_new_subT F T e0 ?_ few))
  dsimp only
  unfold isInstance;repeat (first | (with_reducible refine wpAny_isSubtype_exc e1 ?_;rw[self]) | with_reducible refine wpAny_loadPart_at new ?_ | wp_step)
  refine wpAny_typeLookup_tail e1 (hn.keeps more) (T.keeps more) F.mroIs F.init.lookup (by rw[hi];refine wpAny_holding (wpAny_bind (by unfold bindSpecial;refine wpAny_bind (wpAny_typeOf (T:="function") ⟨_,more _ _ hf,hfc⟩ (by rw[if_pos (by decide)];refine wpAny_pure (wpAny_bind (wpAny_mono run (fun r s' z=>?_) fun _ _ y=>y));obtain⟨rfl,z⟩:=z;wp_walk;exact last s' z)))))
 refine wpAny_call (codeAny_of_tree (show wpAny _ _ (callAny (.ref C) _) _ _ _ from ?_))
 repeat (any_goals (first | assumption | wp_step | with_reducible refine wpAny_loadPart_at e0 ?_))
 exact⟨rfl,codeAny_call_builtin_at (Code.quiet_builtin _ (by decide +kernel)) entry_typeCall (wpAny_check_type_call_sub e0 (start _ fun s' z=>z))⟩
end Mir
namespace Mir
open PySem L2
variable {X:Cx}{pins:List (Addr×Obj)}{σ:St}{H H':Hp}{s s':Shared}
def Raw (e C t:Addr)(h:Heap):Prop:=h.get? e=some (oO C t)
def vH (e C t dx:Addr)(h:Heap):Prop:=h.get? e=some { oO C t with dict:=some dx }
def sXF (K:PySem.W.Frag)(T:Addr)(ta tv:TE):TS:=fun D σ H=>tv σ H fun y H1=>ta σ H1 fun x H2=>∃ e C t p,x=.ref e/\y=.int p/\H2 e=some (.ext (Raw e C t))/\XFld K T C "place" /\
 ∀ dx,H2 dx=none->D.nx σ (upd (upd H2 e (.ext (vH e C t dx))) dx (.ext (cU dx p)))
theorem aD9 {T:Addr}{o value:Expr}{ta tv:TE}{pos pos':Pos}(hex:X.ex=[])(ha:PE X o ta)(hv:PE X value tv)(hs:swapsWith value (some (.Attribute o "place" pos')) pos.line X.env=pure false) :
 PS X (.Assign [.Attribute o "place" pos'] value pos) (sXF X.K T ta tv):=by
 intro pins s σ H D I h;refine plainObj_wpAny_Assign_Attribute (thn (hv pins s σ H _ I h) fun u s1 z=>?_) hs
 obtain⟨y,H1,I1,ry,q⟩:=z;refine thn (ha pins s1 σ H1 _ I1 q) fun ov s2 z=>?_
 obtain⟨x,H2,I2,rx,e,C,t,p,ex,ey,he,F,nx⟩:=z;subst ex ey;obtain rfl:ov=Value.ref e:=rx;obtain⟨tk,rfl⟩:=(show ∃ t,u=Value.int p t from ry)
 have raw:s2.heap.get? e=some (oO C t):=(I2.hok e _ he).1;refine yI (ox:=oO C t) I2.kIn F raw rfl rfl rfl fun h' dx tk' new at' ns kp=>?_
 have I3:Inv X pins σ (upd H2 e (.ext (vH e C t dx))) { s2 with heap:=h',toks:=tk' }:=I2.write (x:=e) (e:=e) (by rw[he];trivial) (.inl rfl) (fun b o hb q=>kp b o hb q) ⟨_,at'⟩ ⟨at',⟨_,at'⟩,fun h1 h2 z k=>k _ z⟩
 have ne:dx≠e:=fun z=>by rw[z,raw]at new;cases new
 have fr:H2 dx=none:=by
  cases q:H2 dx with
  | none=>rfl
  | some u =>
   obtain⟨o1,e1⟩:=cK.there (I2.hok dx u q);rw[new]at e1;cases e1
 have pl:cU dx p h':=⟨_,_,ns,if_pos rfl⟩;have I4:=Inv.track (ea:=dx) (φ:=cU dx p) I2 I3 hex new (by rw[aR ne];exact fr) pl (fun h1 h2 z k=>z.stay k) (by obtain⟨o,_,_,e1,_⟩:=ns;exact⟨o,e1⟩)
 exact⟨σ,_,I4,nx dx fr⟩
end Mir
namespace Mir
open PySem L2
variable {X:Cx}{pins:List (Addr×Obj)}{σ:St}{H H':Hp}{s s':Shared}
section
variable {Pg:Program}{w:World}{K:PySem.W.Frag}{mg:Str->Option Value}{base:Heap}{C T:Addr}
def yS (C:Addr):Sp:=fun vs H Q _=>∃ e t p,vs=[.ref e,.int p]/\H e=some (.ext (Raw e C t))/\∀ dx,H dx=none->Q .non (upd (upd H e (.ext (vH e C t dx))) dx (.ext (cU dx p)))
theorem aJe {qual:Str}{st:Stmt}{f:Addr}{fd:FuncData}(F:Fun K "__init__" qual st f fd)(S:FnScope ["self","place"] ["self","place"] (aM st))(xf:XFld K T C "place")
 (hb:∀ (cdv:Value) (A:Around) (outer:List PySem.Env) (s:Shared) (H:Hp) (E:XK),PSs (jO (CXM Pg w) Pg w K mg base ["self","place"] qual (aM st) f cdv A outer s H E) (cX st) (sXF K T (nH 0) (nH 1))) :
 FnOk Pg w K mg base (CXM Pg w) 1 f fd ["self","place"] (yS C):=by
 obtain⟨oc,od,kV,doc,pm,an,cdv,ct,osl,rfl,lk,hcd⟩:=F.ex;refine zK lk hcd S (fun vs H Q E z=>?_) fun A outer s H vs Q E hr z=>⟨_,hb cdv A outer s H E,?_⟩
 · obtain⟨e,t,p,q,_⟩:=z
   rw[q];rfl
 · obtain⟨e,t,p,q,he,k⟩:=z
   subst q;exact⟨_,rfl,_,rfl,e,C,t,p,rfl,rfl,he,xf,k⟩
end
def lH (K:PySem.W.Frag)(C:Addr)(bmB:List Value)(newId:String)(fI:Addr):Bool :=
 match K.lookup C with
 | some ⟨.type "type",_,.cls c,sl⟩=>match c.mro,sl.toList with
  | .ref D :: tl,[_,_,_,_,some (.builtin i),_] =>
   D==C&&(i==newId&&(!c.hasDel&&(PySem.W.tailIn K bmB tl&&(PySem.W.nsOkIn K c.ns&&Ay K c.ns "__init__" == some (some (.ref fI))))))
  | _,_=>false
 | _=>false
theorem aDb {K:PySem.W.Frag}{h:Heap}{N:Addr}{m:Str->Option Value}{x:Str}{v:Value}(X:K.In h)(G:h.Ns N m)(e:Ay K N x=some (some v)):m x=some v:=by
 obtain⟨o,es,ep,a,b,_,f⟩:=G;unfold Ay at e;split at e
 case h_2=>cases e
 case h_1 look =>
  have z:=X _ _ look;rw[a]at z;cases z;cases b;split at e
  case h_1 en found =>
   cases e;have:=f x
   unfold nsFind findBy at this;rw[←Array.find?_toList,found]at this;exact this.symm
  case h_2=>split at e<;>cases e
theorem aK9 {K:PySem.W.Frag}{h:Heap}{C fI:Addr}{bmB:List Value}{newId:String}(X:K.In h)(q:lH K C bmB newId fI=true) :
 ∃ bm N nm q bs hdct sn sub ab col dd k0 k1 k2 k3 k5 mN,h.get? C=some (excClassObj nm q C N bs bm hdct sn sub ab col dd k0 k1 k2 k3 k5 newId)/\h.Ns N mN/\mN "__init__" = some (.ref fI)/\OwnTail h bmB bm:=by
 unfold lH at q;repeat' split at q
 case h_1 dd c sl look _ _ D tl s0 s1 s2 s3 mk s5 em es =>
  simp only[Bm]at q;obtain⟨q1,q2,q3,q4,q5,q6⟩:=q;have eC:D=C:=by simpa using q1
  have en:mk=newId:=by simpa using q2
  have ed:c.hasDel=false:=by simpa using q3
  have ei:Ay K c.ns "__init__" = some (some (.ref fI)):=by simpa using q6
  have here:=X _ _ look;cases c;cases sl;dsimp only at em es ed q5 ei
  subst eC en em es ed;exact⟨_,_,_,_,_,_,_,_,_,_,_,_,_,_,_,_,_,here,.of_isNs (Ew X q5),aDb X (.of_isNs (Ew X q5)) ei,PySem.W.tail_of_in X q4⟩
 all_goals exact absurd q Bv
theorem aEm {C fI:Addr}{fd:FuncData}{k:Nat}{p:Int}{tk:Tok}{Q:VK}(hex:X.ex=[])(hK:lH X.K C bmV "ValueError.__new__" fI=true)(fo:∃ o,X.K.lookup fI=some o/\o.cls=.type "function")(F:FnOk X.prog X.w X.K X.mg X.base (CXM X.prog X.w) k fI fd ["self","place"] (yS C))(hr:Room (k+1) X.A)(hb:gC X.K fd ["self","place"] [])
 (I:Inv X pins σ H s) (h:∀ e t dx,s.heap.get? e=none->H e=none->H dx=none->e≠dx->Q (.ref e) (upd (upd H e (.ext (vH e C t dx))) dx (.ext (cU dx p)))) :
 wpAny (model X.prog X.w) X.A (call (.ref C) [.int p tk]) (EP X pins σ Q) X.xe s:=by
 obtain⟨bm,N,nm,q,bs,hdct,sn,sub,ab,col,dd,k0,k1,k2,k3,k5,mN,hC,hN,hi,TL⟩:=aK9 I.kIn hK;obtain⟨oI,lk,hfc⟩:=fo;obtain⟨hh,g,d,t,os⟩:=s;refine aCg ⟨_,_,_,_,_,N,mN,oI,PySem.F.excBase_ValueError,TL,⟨nm,q,bs,hdct,sn,sub,ab,col,dd,k0,k1,k2,k3,k5,hC⟩,hN,hi,I.kIn _ _ lk,hfc⟩ (show (1:Nat)<=sizeLine by decide) ?_
 have kp:∀ b o,hh.get? b=some o->(made hh C [.int p tk]).get? b=some o:=fun b o e=>Aa _ (Aa _ e);have I1:Inv X pins σ H ⟨made hh C [.int p tk],g,d,t,os⟩:=I.kept (t':=t) kp;have new:hh.get? (hh.objs.size+1)=none:=El (Ft _);have unt:H (hh.objs.size+1)=none:=I.hok.fresh (Ft _)
 have raw:Raw (hh.objs.size+1) C hh.objs.size (made hh C [.int p tk]):=by
  show (made hh C [.int p tk]).get? (hh.objs.size+1)=_
  heap_get
 have I2:=Inv.track (ea:=hh.objs.size+1) (φ:=Raw (hh.objs.size+1) C hh.objs.size) I I1 hex new unt raw (fun h1 h2 z k=>k _ z) ⟨_,raw⟩;refine wpAny_call (codeAny_mono (F.run _ X.stack _ _ ⟨[.ref (hh.objs.size+1),.int p tk],[]⟩ [.ref (hh.objs.size+1),.int p tk] [.ref (hh.objs.size+1),.int p] (fun v H'=>v=.non/\Q (.ref (hh.objs.size+1)) H') E0 (hr.make C [.int p tk] []) (I2.env0.make C [.int p tk] []) (hb _ [.ref (hh.objs.size+1),.int p tk] I2.kIn rfl) (.cons rfl (.cons ⟨tk,rfl⟩ .nil)) ⟨_,_,_,rfl,bC,fun dx hdx=>⟨rfl,?_⟩⟩) fun r s' z=>?_)
 · have ne:hh.objs.size+1≠dx:=fun z=>by rw[←z,bC]at hdx;cases hdx
   rw[mF];rw[aR (Ne.symm ne)]at hdx;exact h _ _ dx new unt hdx ne
 · cases r with
   | error e =>
    obtain⟨_,_,_,_,_,_,_,z⟩:=z;exact z.elim
   | ok fl =>
    cases fl with
    | ret u =>
     obtain⟨v,H3,I3,rv,ev,q3⟩:=I2.after z;subst ev;exact⟨rv,⟨V.ref (hh.objs.size+1),H3,I3,rfl,q3⟩⟩
    | next=>exact z.elim
    | brk=>exact z.elim
    | cont=>exact z.elim
end Mir
namespace Mir
open PySem L2
variable {X:Cx}{pins:List (Addr×Obj)}{σ:St}{H H':Hp}{s s':Shared}{ea C:Addr}{P:XP}
def drp (H:Hp)(a:Addr):Hp:=fun b=>if b=a then none else H b
theorem oE {a b:Addr}(h:b≠a):drp H a b=H b:=if_neg h
theorem vQ {a:Addr}:drp H a a=none:=if_pos rfl
theorem Inv.drop {φ:Heap->Prop}(I:Inv X pins σ H s)(he:H ea=some (.ext φ)):Inv X pins σ (drp H ea) s:=by
 have ne:∀ b u,H b=some u->(∀ ψ,u≠.ext ψ)->drp H ea b=some u:=fun b u q n=>by
  rw[oE (fun z=>by rw[z,he]at q;cases q;exact n _ rfl)];exact q
 have non:∀ b,H b=none->drp H ea b=none:=fun b q=>by
  by_cases z:b=ea
  · rw[z];exact vQ
  · rw[oE z];exact q
 have bs:=I.base;refine⟨I.ok,I.os,I.bare,⟨bs.keep,bs.slot,fun b o e n hb=>non _ (bs.free b o e n hb),bs.there,fun b xs e=>ne _ _ (bs.tups b xs e) (fun _ z=>nomatch z),fun b o u e=>ne _ _ (bs.frzs b o u e) (fun _ z=>nomatch z),fun b ps e=>?_⟩,I.loc,I.cell,non _ I.free,fun x c e=>non _ (I.freeC x c e),fun p hp=>?_,fun b u e=>?_,I.len⟩
 · obtain⟨more,q⟩:=bs.tbls b ps e
   exact⟨more,ne _ _ q (fun _ z=>nomatch z)⟩
 · obtain⟨q1,q2,q3⟩:=I.pin p hp
   exact⟨q1,non _ q2,q3⟩
 · by_cases z:b=ea
   · rw[z,vQ]at e;cases e
   · rw[oE z]at e
     exact(I.hok b u e).stay (fun _ _ _ q=>q) (fun c q=>ne _ _ q (fun _ z=>nomatch z)) fun c xs q=>ne _ _ q (fun _ z=>nomatch z)
theorem aC9 {M:Model}{E:Value->Shared->Prop}{Q:Unit->Shared->Prop}{oe:Obj}{vs:Array Value}{a0:Value}(I:Inv X pins σ H s)(hx:X.ex=[])(hst:X.stack=X.env :: X.outer)(hf:X.env.frame=some X.env.locals)(new:X.s₀.heap.get? ea=none)(unt:H ea=none)
 (he:s.heap.get? ea=some oe) (hc:oe.cls=.ref C) (hd:oe.data=.fields vs) (v1:vs[1]?=some .none) (v0:vs[0]?=some a0)
 (hQ:∀ h',Fly X.prog X.w X.outer X.H₀ X.s₀ ea C H { s with heap:=h' }->Dct ea oe.dict h'->Q () { s with heap:=h' }):wpAny M X.A (leaving X.env (.ref ea)) Q E s:=by
 have fr:=I.stack
 have nfr:ea∉frs X.stack:=fun z=>by
  obtain⟨_,o,q1,q2⟩:=fr.mem (b:=ea) z;rw[he]at q1;cases q1;exact q2 vs hd
 have hid:∀ b o,s.heap.get? b=some o->b≠ea->b∉frs X.stack->(Ck s.heap (ea :: frs X.stack)).get? b=some o:=fun b o q n1 n2=>Es _ q fun z=>by
  rcases Ad.mp z with z | z
  · exact n1 z
  · exact n2 z
 have old:∀ b o,X.s₀.heap.get? b=some o->b≠ea:=fun b o e z=>by rw[z,new]at e;cases e
 have ne:∀ b o,X.s₀.heap.get? b=some o->b≠X.env.locals:=fun b o e=>Au (Ac (Ae e) I.ok.above)
 have nin:∀ b o,X.s₀.heap.get? b=some o->b∉frs X.outer->b∉frs X.stack:=fun b o e n=>by
  rw[hst,gS hf];simp only[Ad,not_or];exact⟨ne b o e,n⟩
 have trk:∀ b u o',H b=some u->s.heap.get? b=some o'->(Ck s.heap (ea :: frs X.stack)).get? b=some o':=fun b u o' e q=>hid b o' q (fun z=>by rw[z,unt]at e;cases e) fun z=>by
  rw[I.stkFree b z]at e;cases e
 have base:Un (frs X.outer) [] X.H₀ H X.s₀.heap s.heap:=by
  have:=I.base
  rw[hx]at this;exact this
 have core:wpAny M X.A (leaving X.env (.ref ea)) (fun _ s2=>∃ h',s2={ s with heap:=h' }/\Fly X.prog X.w X.outer X.H₀ X.s₀ ea C H { s with heap:=h' }) E s:=by
  refine wpAny_leaving_firstW (base:=Ck s.heap (ea :: frs X.stack)) (a0:=a0) (outer:=X.outer) (by rw[I.ok.frames,hst]) ?_ hf he (fun b o q=>Ev _ q) (Ek _ Af) hd v1 v0 fun h' hL=>⟨h',rfl,?_⟩
  · rw[←hst]
    exact PySem.W.funFrames_hide fr fun env h1 a h2=>Ab _ (Eb.mpr ⟨env,h1,h2⟩)
  · obtain⟨k1,⟨_,_,k2⟩,k3,k4⟩:=hL
    rw[hc]at k3;have x1:Heap.FlyingW (Ck s.heap (ea :: frs X.stack)) X.outer ea (.ref C) a0 h':=⟨k1,Ek _ Af,k2,k3⟩;refine⟨I.os,I.bare,mE I.hok trk k1,rT base I.hok (fun b o o' e n q=>hid b o' q (old b o e) (nin b o e n)) trk k1 (fun b o hb q=>?_),new,unt,a0,_,x1,fun b o o' e n q=>?_,fun b u o' e q=>?_⟩
    · have hb':b∈frs X.stack:=by rw[hst,gS hf];exact Ab _ hb
      obtain⟨_,o1,e1,nf⟩:=fr.mem (b:=b) hb';rw[q]at e1;cases e1;exact k4 b o q nf
    · obtain⟨o1,e1⟩:=base.there b o e (by simp)
      have q1:=hid b o1 e1 (old b o e) (nin b o e n);have:=k1 _ _ q1
      rw[show ({ s with heap:=h' }:Shared).heap.get? b=some o' from q]at this
      cases this;exact q1
    · obtain⟨o1,e1⟩:=cK.there (I.hok b u e)
      have q1:=trk b u o1 e e1;have:=k1 _ _ q1
      rw[show ({ s with heap:=h' }:Shared).heap.get? b=some o' from q]at this
      cases this;exact q1
 refine wpAny_mono (KD.any (jN _ _) he core) (fun _ s2 z=>?_) fun _ _ z=>z
 obtain⟨⟨h',q1,q2⟩,o',q3,q4⟩:=z;subst q1;exact hQ h' q2 ⟨o',q3,q4⟩
def aIf (cl:XC->Addr)(X:Cx)(P:XP):Prop:=∀ (pins:List (Addr×Obj)) (σ:St) (H:Hp) (s:Shared) (ea t dx:Addr) (c:XC) (p:Int),Inv X pins σ H s->X.s₀.heap.get? ea=none->H ea=none->s.heap.get? ea=some { oO (cl c) t with dict:=some dx }->H dx=some (.ext (cU dx p))->P.p ⟨c,[.int p]⟩ σ H->X.xe (.ref ea) s
theorem aLe {Pg:Program}{w:World}{K:PySem.W.Frag}{mg:Str->Option Value}{base:Heap}{cl:XC->Addr}{N:List Str}{qual:Str}{scope:Scope}{fa:Addr}{cdv:Value}{A:Around}{outer:List PySem.Env}{s0:Shared}{H0:Hp}{E:XK} :
 aIf cl (jO (CXM Pg w) Pg w K mg base N qual scope fa cdv A outer s0 H0 E) (PX cl E):=by
 intro pins σ H s ea t dx c p I new unt he hd px;exact aC9 I rfl rfl rfl new unt he rfl rfl rfl rfl fun h' F' di=>⟨ea,cl c,some dx,H,rfl,F',di,px H (some dx) (aD.refl H) ⟨dx,rfl,hd⟩⟩
end Mir
namespace Mir
open PySem L2
theorem yG {M:Model}{R:Around}{Z:Value->Shared->Prop}{s:Shared}{v:PySem.Env}{C N:Addr}{bm:List Value}{n:String}{x:Sem Value}{Y:Flow->Shared->Prop}(base:bm.contains (.type "BaseException")=true)(idle:R.handled=none)
 (h:wpAny M R x (fun u s1=>∃ e t dx,u=.ref e/\nF s1.heap C N bm n/\s1.heap.get? e=some { oO C t with dict:=some dx }/\Z (.ref e) s1) Z s):wpAny M R (raiseStmt v (some x) none) Y Z s:=by
 unfold raiseStmt;refine wpAny_bind (wpAny_mono h (fun u s1 z=>?_) fun _ _ y=>y)
 obtain⟨e,t,dx,rfl,⟨nm,q,bs,hdct,sn,sub,ab,col,dd,k0,k1,k2,k3,k5,hC⟩,he,fin⟩:=z;obtain⟨hp,g,d,tk,os⟩:=s1;repeat (first | wp_step | (with_reducible refine wpAny_isSubtype_exc hC ?_;rw[show (Value.ref C :: bm).contains (.type "BaseException")=true by rw[List.contains_cons,base,Bool.or_true]]) | with_reducible refine wpAny_loadPart_at hC ?_ | with_reducible refine wpAny_loadPart_at he ?_)
 refine wpAny_raiseNew_none idle fin
variable {X:Cx}{P:XP}{e:Expr}{f:FE}{pos:Pos}
def kK (c:XC)(f:FE):FS:=fun ρ=>(f ρ).at ρ fun r=>(asI r.d).at ρ fun p=>.exc ⟨c,[.int p]⟩ ρ
theorem aAj {cl:XC->Addr}{xc:XC}{x:Str}{np cpos:Pos}{fI:Addr}{fd:FuncData}{k:Nat}(hm:X.mg x=some (.ref (cl xc)))(hK:lH X.K (cl xc) bmV "ValueError.__new__" fI=true)(fo:∃ o,X.K.lookup fI=some o/\o.cls=.type "function")
 (F:FnOk X.prog X.w X.K X.mg X.base (CXM X.prog X.w) k fI fd ["self","place"] (yS (cl xc))) (hb:gC X.K fd ["self","place"] []) (hr:Room (k+1) X.A) (hc:X.calm=true) (hex:X.ex=[]) (hg:Gl X x) (ht:aIf cl X P) (ha:PA X [e] (tAs X.K P [f]))
 (hdb:(x==("__debug__":Str))=false:=by decide) (he:starEach [e] X.env=(false,eval e X.env) :: starEach [] X.env:=by rfl):PS X (.Raise (some (.Call (.Name x np) [e] [] cpos)) none pos) (tS X.K P (kK xc f)):=by
 intro pins s σ H D I h;obtain⟨H0,T,ρ,d,h⟩:=h;obtain⟨tl,N,nm,q,bs,hdct,sn,sub,ab,col,dd,k0,k1,k2,k3,k5,mN,hC,hN,hi,TL⟩:=aK9 I.ok.mod.kin hK;rw[arm_exec_Raise _ none pos X.env];refine wpAny_bind (wpAny_standAt (yG (C:=cl xc) (N:=N) (bm:=tl) (n:="ValueError.__new__") (TL.hasType PySem.F.excBase_ValueError.hasBase) (I.ok.hd hc) ?_))
 refine wpAny_bind (wpAny_mono (wpAny_Call_ofName (hV I hg hm ?_ hdb)) (fun v s3 z=>wpAny_bind (wpAny_standAt (wpAny_pure z))) fun _ _ y=>y)
 refine wpAny_bind (wpAny_holding (wpAny_mono (Q:=fun a s2=>a.kw=[]/\nF s2.heap (cl xc) N tl "ValueError.__new__"/\wpAny (model X.prog X.w) X.A (call (.ref (cl xc)) a.pos) (fun v s3=>∃ e t dx,v=.ref e/\nF s3.heap (cl xc) N tl "ValueError.__new__"/\s3.heap.get? e=some { oO (cl xc) t with dict:=some dx }/\X.xe (.ref e) s3) X.xe s2) ?_ (fun a s2 y=>wpAny_bind (wpAny_standAt ?_)) fun _ _ y=>y))
 rotate_left
 · obtain⟨ap,ak⟩:=a
   obtain⟨y1,⟨nm,q,bs,hdct,sn,sub,ab,col,dd,k0,k1,k2,k3,k5,hC⟩,y⟩:=y;obtain rfl:ak=[]:=y1;obtain⟨hp,g,d,tk,os⟩:=s2;simp only[show (backTo cpos (starEach [e] X.env)).any (·.1)=false by rw[he];rfl]
   exact wpAny_bind (wpAny_keeperOf_exc hC (wpAny_bind (wpAny_mono y (fun v s3 y3=>wpAny_bind (wpAny_holding (wpAny_point (wpAny_pure y3)))) fun _ _ y=>y)))
 have key:tAs X.K P [f] σ H fun vs H1=>∃ p,vs=[.int p]/\P.p ⟨xc,[.int p]⟩ σ H1:=by
  refine⟨H0,_,ρ,d.e,?_⟩
  unfold kK at h;unfold evs;cases e1:f ρ with
  | stk=>simp only[e1,R.at]at h;exact h.elim
  | exc z=>simp only[e1,R.at]at h;exact h σ H d Ext.refl
  | ok r =>
   simp only[e1,R.at,R.ok_bind,evs]at h ⊢;intro vs H1 s1 gs;cases e2:asI r.d with
   | stk=>rw[e2]at h;exact h.elim
   | exc z=>exact(cM e2).elim
   | ok p =>
    rw[e2]at h
    obtain⟨v,rfl⟩:∃ v,vs=[v]:=by
     have:=gs.len
     match vs,this with
     | [v],_=>exact⟨v,rfl⟩
    obtain⟨r1,rr,q1,g1,_⟩:=gs;cases q1;exact⟨p,by rw[g1.int (dA e2)],h σ H1 (d.mono s1) (Ext.same s1)⟩
 have hA:=ha cpos pins s σ H _ I key;rw[he]at hA ⊢;refine Calls.evalArgs_plain (wpAny_mono hA (fun us s2 ⟨vs,H1,I1,r,p,q1,q2⟩=>⟨rfl,⟨nm,q,bs,hdct,sn,sub,ab,col,dd,k0,k1,k2,k3,k5,I1.bk _ _ hC⟩,?_⟩) fun _ _ y=>y)
 subst q1
 obtain⟨tk,ev⟩:∃ tk,us=[.int p tk]:=by
  cases r with
  | cons r1 r2=>cases r2;obtain⟨tk,z⟩:=r1;exact⟨tk,by rw[z]⟩
 subst ev;refine wpAny_mono (aEm hex hK fo F hr hb I1 (Q:=fun v H'=>∃ e t dx,v=.ref e/\s2.heap.get? e=none/\H1 e=none/\H1 dx=none/\e≠dx/\H'=upd (upd H1 e (.ext (vH e (cl xc) t dx))) dx (.ext (cU dx p))) fun e t dx z1 z2 z3 z4=>⟨e,t,dx,rfl,z1,z2,z3,z4,rfl⟩) (fun v s3 z=>?_) fun _ _ y=>y
 obtain⟨v',H3,I3,rv,e,t,dx,rfl,z1,z2,z3,z4,rfl⟩:=z;have ev:v=.ref e:=rv;have hF:=I3.hok e _ (by rw[aR z4];exact bC)
 have hE:s3.heap.get? e=some { oO (cl xc) t with dict:=some dx }:=by
  exact hF.1
 have hd:upd (upd H1 e (.ext (vH e (cl xc) t dx))) dx (.ext (cU dx p)) e=some (.ext (vH e (cl xc) t dx)):=by rw[aR z4];exact bC
 refine⟨e,t,dx,ev,⟨nm,q,bs,hdct,sn,sub,ab,col,dd,k0,k1,k2,k3,k5,I3.bk _ _ hC⟩,hE,ht pins σ _ s3 e t dx xc p (Inv.drop I3 hd) ?_ vQ hE ?_ ?_⟩
 · cases q:X.s₀.heap.get? e with
   | none=>rfl
   | some o =>
    obtain⟨o1,q1⟩:=I1.base.there e o q (by rw[hex];simp)
    rw[z1]at q1;cases q1
 · rw[oE z4.symm];exact bC
 · refine P.mono q2 fun b u q=>?_
   rw[oE (fun z=>by rw[z,z2]at q;cases q),aR (fun z=>by rw[z,z3]at q;cases q),aR (fun z=>by rw[z,z2]at q;cases q)]
   exact q
end Mir
namespace Mir
open PySem L2
variable {X:Cx}{P:XP}{pins:List (Addr×Obj)}{σ:St}{H H':Hp}{s s':Shared}{ea C T:Addr}
def tXF (K:PySem.W.Frag)(T:Addr)(ta:TE):TE:=fun σ H Q=>ta σ H fun x H1=>∃ a C dx p,x=.ref a/\H1 a=some (.ext (vO a C dx))/\H1 dx=some (.ext (cU dx p))/\XFld K T C "place"/\XCls K C/\Q (.int p) H1
theorem aIs {e:Expr}{ta:TE}{pos:Pos}(he:PE X e ta)(hb:attributeBase e "place" X.env (eval e X.env)=eval e X.env):PE X (.Attribute e "place" pos) (tXF X.K T ta):=by
 intro pins s σ H Q I h;refine wV hb (thn (he pins s σ H _ I h) fun u s1 ⟨x,H1,I1,rx,a,C,dx,p,ex,ea,ed,F,c,q⟩=>?_)
 subst ex;obtain rfl:u=Value.ref a:=rx;obtain⟨o,e1,e2,e3,e4⟩:=(I1.hok a _ ea).1;obtain⟨mA,t,n,ep⟩:=(I1.hok dx _ ed).1;obtain⟨od,ho,hl⟩:=pZ n;obtain⟨cd,hc,hdi,_⟩:=F.cl;exact aAh c I1.kIn ⟨e1,e2,e3,by rw[e4];exact ho⟩ (PySem.W.findObj_own (attr:=none) (by unfold Di;rw[hc];exact hdi) F.no rfl (by rw[hl,ep])) rfl ⟨.int p,H1,I1.tok _,⟨t,rfl⟩,q⟩
section
variable {Pg:Program}{w:World}{l:List PySem.Env}{M:Model}{A:Around}{E:Value->Shared->Prop}{R:Shared->Prop}{dx:Option Addr}
theorem Fly.landsD {env:PySem.Env}{outer:List PySem.Env}{L:Addr}(F:Fly Pg w (env :: outer) H s ea C H' s')(di:Dct ea dx s'.heap)(hA:A.frames=some (env :: outer))(hf:env.frame=some L)(q:∀ h',Fly Pg w (env :: outer) H s ea C H' { s' with heap:=h' }->Dct ea dx h'->R { s' with heap:=h' }) :
 wpAny M A (noteFrame (.ref ea) env) (fun _ s3=>wpAny M A (setFlight (.ref ea) none) (fun _ s4=>R s4) E s3) E s':=by
 obtain⟨o,e1,e2⟩:=di;refine wpAny_mono (KD.any (xD _ _) e1 (Fly.lands F hA hf (R:=fun s4=>∃ h',s4={ s' with heap:=h' }/\Fly Pg w (env :: outer) H s ea C H' { s' with heap:=h' }) fun h' z=>⟨h',rfl,z⟩)) (fun _ s3 z=>?_) fun _ _ y=>y
 obtain⟨z,o',z1,z2⟩:=z;refine wpAny_mono (KD.any (lG _ _) z1 z) (fun _ s4 y=>?_) fun _ _ y=>y
 obtain⟨⟨h',rfl,F'⟩,o'',y1,y2⟩:=y;exact q h' F' ⟨o'',y1,y2.trans (z2.trans e2)⟩
theorem Fly.againD (F:Fly Pg w l H s ea C H' s')(di:Dct ea dx s'.heap)(q:∀ h',Fly Pg w l H s ea C H' { s' with heap:=h' }->Dct ea dx h'->R { s' with heap:=h' }):wpAny M A (setFlight (.ref ea) none) (fun _ s4=>R s4) E s':=by
 obtain⟨o,e1,e2⟩:=di;refine wpAny_mono (KD.any (lG _ _) e1 (Fly.again F (R:=fun s4=>∃ h',s4={ s' with heap:=h' }/\Fly Pg w l H s ea C H' { s' with heap:=h' }) fun h' z=>⟨h',rfl,z⟩)) (fun _ s4 y=>?_) fun _ _ y=>y
 obtain⟨⟨h',rfl,F'⟩,o'',y1,y2⟩:=y;exact q h' F' ⟨o'',y1,y2.trans e2⟩
end
structure XHit (K:PySem.W.Frag)(C:Addr):Prop where
 ty:Cz K (.ref C)=some (.type "type")
 is:(Dh K C).isSome=true
 be:Dv K (.ref C) (.type "BaseException")=some true
 xs:Dv K (.ref C) (.ref C)=some true
theorem aC2 {M:Model}{A:Around}{E:Value->Shared->Prop}{K:PySem.W.Frag}{Q:Bool->Shared->Prop}(t:XHit K C)(X:K.In s.heap)(I:dR ea C s.heap)(q:Q true s):wpAny M A (excMatches (.ref ea) (.ref C)) Q E s:=by
 have l0:=I.type (M:=M);have l1:=PySem.W.looks_typeIn (M:=M) X t.ty;have l2:=Dt (M:=M) X t.be;have l3:=Dt (M:=M) X t.xs;have f:=tc_notTuple;obtain⟨k,d,cd,sl,e⟩:=mM t.is;have e':=X _ _ e;obtain⟨h,g,dr,tk,os⟩:=s;unfold excMatches;repeat (first | assumption | with_reducible refine l0.at ?_ | with_reducible refine l1.at ?_ | with_reducible refine l2.at ?_ | with_reducible refine l3.at ?_ | with_reducible refine wpAny_loadPart_at e' ?_ | wp_step)
def aAn (c:XC)(i k:Nat)(F:FS):FS:=fun ρ=>match F ρ with
 | .exc x ρ1=>match x.ds with
  | [.int p]=>if x.c=c then .nx ((ρ1.set i (some (sc (.int p)))).set k none) else .stk
  | _=>.stk
 | r=>r
def aJn (c:XC)(D:Ends)(i k:Nat):XP where
 p x σ H:=∃ p,x=⟨c,[.int p]⟩/\∀ H',aD H H'->D.nx ((σ.set i (some (.int p))).set k none) H'
 mono h s:=let ⟨p,e,q⟩:=h;⟨p,e,fun H' s'=>q H' (s.trans s')⟩
section
variable {i k:Nat}{y n cx:Str}{np p1 p2 p3 p4 hpos pos:Pos}{c:XC}
abbrev mJ (cx n y:Str)(np p1 p2 p3 p4 hpos:Pos):ExceptHandler:=.ExceptHandler (some (.Name cx np)) (some n) [.Assign [.Name y p1] (.Attribute (.Name n p2) "place" p4) p3] hpos
theorem aD6 {D:Ends}{x:Xc}{dx:Option Addr}{pn pins2:List (Addr×Obj)}{xe:Value->Shared->Prop}(hx:X.ex=[])(hst:X.stack=X.env :: X.outer)(hf:X.env.frame=some X.env.locals)(t:XHit X.K (clK X.K c))(xf:XFld X.K T (clK X.K c) "place")(xc:XCls X.K (clK X.K c))(hg:Gl X cx)(hm:X.mg cx=some (.ref (clK X.K c)))
 (hN:X.N.Nodup) (hi:X.N[i]?=some y) (hk:X.N[k]?=some n) (hik:i≠k) (ly:X.env.scope.names.lookup y=some .local) (ln:X.env.scope.names.lookup n=some .local) (kn:X.env.kindOf n=some .local) (hb:attributeBase (.Name n p2) "place" X.env (eval (.Name n p2) X.env)=eval (.Name n p2) X.env)
 (hs:swapsWith (.Attribute (.Name n p2) "place" p4) (some (.Name y p1)) p3.line X.env=pure false) (d1:(cx==("__debug__":Str))=false) (d2:(n==("__debug__":Str))=false) (d3:(n==("__classdict__":Str))=false)
 (hp:∀ p∈X.pn++pins,p∈pn++pins2) (I:Inv (reC X X.A X.calm pn xe) pins2 σ H s) (F:Fly X.prog X.w X.stack H s ea (clK X.K x.c) H' s') (di:Dct ea dx s'.heap) (xd:XD x dx H') (px:(aJn c D i k).p x σ H') :
 wpAny (model X.prog X.w) X.A (noteFrame (.ref ea) X.env) (fun _ s2=>wpAny (model X.prog X.w) X.A (setFlight (.ref ea) none) (fun _ s3=>wpAny (model X.prog X.w) X.A (handleBy (.ref ea) X.env [mJ cx n y np p1 p2 p3 p4 hpos]) (SP X pins D) X.xe s3) X.xe s2) X.xe s':=by
 obtain⟨p,rfl,px⟩:=px;obtain⟨da,rfl,hd⟩:=(show ∃ a,dx=some a/\H' a=some (.ext (cU a p)) from xd)
 have fr:X.A.frames=some (X.env :: X.outer):=by rw[←hst];exact I.ok.frames
 rw[hst]at F;refine Fly.landsD F di fr hf fun h4 F4 di4=>?_
 rw[←hst]at F4;have I4:=Fly.inv (X:=reC X X.A X.calm pn xe) F4 I;refine wpAny_handleBy_cons (codeAny_handlers_test ?_) fun z=>nomatch z
 refine hV (X:=reC X (X.A.mark (some (.ref ea))) false pn xe) (pC (X:=reC X X.A X.calm pn xe) I4 rfl (fun z=>nomatch z) fun _ z=>z) hg hm ?_ d1
 refine aC2 t I4.kIn F4.exc ?_
 refine codeAny_handlers_suite_as (Fly.againD F4 di4 fun h5 F5 di5=>?_)
 have I5:=Fly.inv (X:=reC X X.A X.calm pn xe) F5 I
 have exd:vO ea (clK X.K c) da h5:=by
  obtain⟨o,e1,e2,e3⟩:=F5.exc;obtain⟨o',e4,e5⟩:=di5;have:=e1.symm.trans e4
  cases this;exact⟨o,e1,e2,e3,e5⟩
 have I6:=Inv.track I I5 hx F5.new F5.unt exd (fun h1 h2 a b=>a.stay b) (let ⟨o,e,_⟩:=exd;⟨o,e⟩)
 refine gV (X:=reC X X.A X.calm pn xe) I6 hN hk (.inl ln) (v:=.ref ea) rfl (fun s7 I7=>?_) (.inr ln)
 have kl:k<Fv σ:=by rw[I.len];exact(Ao.mp hk).1
 have ne:da≠ea:=fun z=>by rw[z,F5.unt]at hd;cases hd
 refine thn (kC (uR (X:=reC X (X.A.mark (some (.ref ea))) false pn _) hN hi (.inl ly) (aIs (T:=T) (lL hk (.inl ln) d2 d3) hb) hs (.inr ly)) pins2 s7 _ _
  ⟨fun σ8 H8=>σ8=(σ.set k (some (.ref ea))).set i (some (.int p))/\H8=upd H' ea (.ext (vO ea (clK X.K c) da)),fun _ _=>False,fun _ _=>False,fun _ _=>False⟩
  (pC (X:=reC X X.A X.calm pn xe) I7 rfl (fun z=>nomatch z) fun _ z=>z) ⟨.ref ea,Al kl,ea,_,da,p,rfl,bC,by rw[aR ne];exact hd,xf,xc,rfl,rfl⟩) fun f s8 q=>?_
 cases f with
 | next =>
  obtain⟨_,_,I8,rfl,rfl⟩:=q;have I9:L2.Inv X pins _ _ s8:=mL I8 rfl I.ok.hd hp;refine aJz I9 hN hk kn ln fun s9 I10=>⟨_,_,I10,?_⟩
  rw[aJf hik];exact px _ (aD.upd_new F5.unt)
 | brk=>obtain⟨_,_,_,z⟩:=q;exact z.elim
 | cont=>obtain⟨_,_,_,z⟩:=q;exact z.elim
 | ret v=>obtain⟨_,_,_,_,_,z⟩:=q;exact z.elim
theorem aGs {body:List Stmt}{F:FS}(hx:X.ex=[])(hst:X.stack=X.env :: X.outer)(hf:X.env.frame=some X.env.locals)(t:XHit X.K (clK X.K c))(xf:XFld X.K T (clK X.K c) "place")(xc:XCls X.K (clK X.K c))(hg:Gl X cx)(hm:X.mg cx=some (.ref (clK X.K c)))
 (hN:X.N.Nodup) (hi:X.N[i]?=some y) (hk:X.N[k]?=some n) (hik:i≠k) (ly:X.env.scope.names.lookup y=some .local) (ln:X.env.scope.names.lookup n=some .local) (kn:X.env.kindOf n=some .local)
 (hb:∀ (pn:List (Addr×Obj)) (xe:Value->Shared->Prop) (P':XP),Thr (CXM X.prog X.w) (clK X.K) (reC X X.A X.calm pn xe) P'->PassesOwn (model X.prog X.w) X.A X.env xe->PSs (reC X X.A X.calm pn xe) body (tS X.K P' F))
 (ab:attributeBase (.Name n p2) "place" X.env (eval (.Name n p2) X.env)=eval (.Name n p2) X.env:=by rfl)
 (hs:swapsWith (.Attribute (.Name n p2) "place" p4) (some (.Name y p1)) p3.line X.env=pure false:=by rfl) (d1:(cx==("__debug__":Str))=false:=by decide) (d2:(n==("__debug__":Str))=false:=by decide) (d3:(n==("__classdict__":Str))=false:=by decide) :
 PS X (.Try body [mJ cx n y np p1 p2 p3 p4 hpos] [] [] pos) (tS X.K P (aAn c i k F)):=by
 intro pins s σ H D I h;obtain⟨H0,W,ρ,d,h⟩:=h;refine wpAny_Try_except ?_
 have run:=hb (X.pn++pins) (fun e s1=>wpAny (model X.prog X.w) X.A (noteFrame e X.env) (fun _ s2=>wpAny (model X.prog X.w) X.A (setFlight e none) (fun _ s3=>wpAny (model X.prog X.w) X.A (handleBy e X.env [mJ cx n y np p1 p2 p3 p4 hpos]) (SP X pins D) X.xe s3) X.xe s2) X.xe s1) (aJn c D i k) (fun pins2 σ2 H2 s2 e s3 I2 z=>by
  obtain⟨ea,C,dx,H3,rfl,Fl,di,x,hC,xd,px⟩:=z;cases hC
  exact aD6 hx hst hf t xf xc hg hm hN hi hk hik ly ln kn ab hs d1 d2 d3 (fun p z=>Do _ z) I2 Fl di xd px) (PassesOwn.looking (K:=fun e s2=>wpAny (model X.prog X.w) X.A (setFlight e none) (fun _ s3=>wpAny (model X.prog X.w) X.A (handleBy e X.env [mJ cx n y np p1 p2 p3 p4 hpos]) (SP X pins D) X.xe s3) X.xe s2)) [] s σ H D (pC I rfl I.ok.hd (by simp)) ⟨H0,W,ρ,d,?_⟩
 · have back:∀ {σ' H' s1 xe},L2.Inv (reC X X.A X.calm (X.pn++pins) xe) [] σ' H' s1->L2.Inv X pins σ' H' s1:=fun J=>mL J rfl I.ok.hd (by simp)
   refine wpAny_mono run (fun f s1 q=>?_) fun _ _ z=>z
   cases f with
   | next=>obtain⟨σ1,H1,J,q⟩:=q;exact wpAny_execs_nil ⟨σ1,H1,back J,q⟩
   | brk=>obtain⟨σ1,H1,J,q⟩:=q;exact⟨σ1,H1,back J,q⟩
   | cont=>obtain⟨σ1,H1,J,q⟩:=q;exact⟨σ1,H1,back J,q⟩
   | ret v=>obtain⟨u,σ1,H1,J,q⟩:=q;exact⟨u,σ1,H1,back J,q⟩
 · unfold aAn at h
   cases e:F ρ with
   | exc x ρ1 =>
    rw[e]at h;obtain⟨xc,ds⟩:=x;dsimp only at h
    split at h
    case h_2=>exact h.elim
    case h_1 _ p =>
    by_cases z:xc=c
    · rw[if_pos z]at h
      subst z;intro σ1 H1 d1 x1;refine⟨p,rfl,fun H2 s2=>?_⟩
      have d3:=d1.mono s2;have d4:=d3.set_shr (i:=i) (v:=.int p) (fr:=true) (dd:=.int p) rfl;have d5:=d4.1.unset k;exact h _ _ d5.1 ((x1.trans (Ext.same s2)).trans ⟨fun _ _ q _=>q,fun b q=>.inl (d4.2 b (d5.2 b q))⟩)
    · rw[if_neg z]at h
      exact h.elim
   | _=>rw[e]at h;exact h
end
def yB (i k:Nat)(F:FS):FS:=fun ρ=>match F ρ with
 | .exc x ρ1=>.nx ((ρ1.set i (some (sc (.exc x.c [])))).set k none)
 | r=>r
def aMn (K:PySem.W.Frag)(D:Ends)(i k:Nat):XP where
 p x σ H:=∀ H' a,aD H H'->H' a=none->D.nx ((σ.set i (some (.ref a))).set k none) (upd H' a (.ext (dR a (clK K x.c))))
 mono h s H' a s' n:=h H' a (s.trans s') n
section
variable {i k:Nat}{y n cx:Str}{np p1 p2 p3 hpos pos:Pos}
theorem aH7 {body:List Stmt}{F:FS}(hx:X.ex=[])(hst:X.stack=X.env :: X.outer)(hf:X.env.frame=some X.env.locals)(t:XTop X.K T)(hg:Gl X cx)(hm:X.mg cx=some (.ref T))
 (hN:X.N.Nodup) (hi:X.N[i]?=some y) (hk:X.N[k]?=some n) (hik:i≠k) (ly:X.env.scope.names.lookup y=some .local) (ln:X.env.scope.names.lookup n=some .local) (kn:X.env.kindOf n=some .local)
 (hb:∀ (pn:List (Addr×Obj)) (xe:Value->Shared->Prop) (P':XP),Thr (CXM X.prog X.w) (clK X.K) (reC X X.A X.calm pn xe) P'->PassesOwn (model X.prog X.w) X.A X.env xe->PSs (reC X X.A X.calm pn xe) body (tS X.K P' F))
 (hs:swapsWith (.Name n p2) (some (.Name y p1)) p3.line X.env=pure false:=by rfl) (d1:(cx==("__debug__":Str))=false:=by decide) (d2:(n==("__debug__":Str))=false:=by decide) (d3:(n==("__classdict__":Str))=false:=by decide) :
 PS X (.Try body [qT cx n y np p1 p2 p3 hpos] [] [] pos) (tS X.K P (yB i k F)):=by
 intro pins s σ H D I h;obtain⟨H0,W,ρ,d,h⟩:=h;refine wpAny_Try_except ?_
 have run:=hb (X.pn++pins) (fun e s1=>wpAny (model X.prog X.w) X.A (noteFrame e X.env) (fun _ s2=>wpAny (model X.prog X.w) X.A (setFlight e none) (fun _ s3=>wpAny (model X.prog X.w) X.A (handleBy e X.env [qT cx n y np p1 p2 p3 hpos]) (SP X pins D) X.xe s3) X.xe s2) X.xe s1) (aMn X.K D i k) (fun pins2 σ2 H2 s2 e s3 I2 z=>by
  obtain⟨ea,C,dx,H3,rfl,Fl,di,x,hC,xd,px⟩:=z;cases hC
  exact aGx (x:=⟨x.c,[]⟩) hx hst hf t hg hm hN hi hk hik ly ln kn hs d1 d2 d3 (fun p z=>Do _ z) I2 Fl ⟨rfl,px⟩) (PassesOwn.looking (K:=fun e s2=>wpAny (model X.prog X.w) X.A (setFlight e none) (fun _ s3=>wpAny (model X.prog X.w) X.A (handleBy e X.env [qT cx n y np p1 p2 p3 hpos]) (SP X pins D) X.xe s3) X.xe s2)) [] s σ H D (pC I rfl I.ok.hd (by simp)) ⟨H0,W,ρ,d,?_⟩
 · have back:∀ {σ' H' s1 xe},L2.Inv (reC X X.A X.calm (X.pn++pins) xe) [] σ' H' s1->L2.Inv X pins σ' H' s1:=fun J=>mL J rfl I.ok.hd (by simp)
   refine wpAny_mono run (fun f s1 q=>?_) fun _ _ z=>z
   cases f with
   | next=>obtain⟨σ1,H1,J,q⟩:=q;exact wpAny_execs_nil ⟨σ1,H1,back J,q⟩
   | brk=>obtain⟨σ1,H1,J,q⟩:=q;exact⟨σ1,H1,back J,q⟩
   | cont=>obtain⟨σ1,H1,J,q⟩:=q;exact⟨σ1,H1,back J,q⟩
   | ret v=>obtain⟨u,σ1,H1,J,q⟩:=q;exact⟨u,σ1,H1,back J,q⟩
 · unfold yB at h
   cases e:F ρ with
   | exc x ρ1 =>
    rw[e]at h;intro σ1 H1 d1 x1 H2 a s2 na;have s3:aD H2 (upd H2 a (.ext (dR a (clK X.K x.c)))):=aD.upd_new na;have d3:=d1.mono (s2.trans s3);have nb:∀ o,(upd H2 a (.ext (dR a (clK X.K x.c)))) a=some o->stab o=true:=fun o q=>by rw[bC]at q;cases q;rfl
    have d4:=d3.set_shr (i:=i) (v:=.ref a) (fr:=true) (dd:=.exc x.c []) ⟨a,_,rfl,aJ.mpr ⟨fun q=>?_,bC⟩,fun _ z=>z,trivial⟩
    · have d5:=d4.1.unset k
      exact h _ _ d5.1 ((x1.trans (Ext.same (s2.trans s3))).trans ⟨fun _ _ q _=>q,fun b q=>.inl (d4.2 b (d5.2 b q))⟩)
    · rcases q with q | ⟨_,o,q1,q2⟩
      · obtain⟨o,q1,q2⟩:=d3.e.bnd a q
        rw[nb o q1]at q2;cases q2
      · rw[nb o (d3.e.sam a o q1)]at q2;cases q2
   | _=>rw[e]at h;exact h
end
end Mir
namespace Mir
open PySem L2
section
variable {Pg:Program}{w:World}{K:PySem.W.Frag}{mg:Str->Option Value}{base:Heap}{T:Addr}
def PlX (Pg:Program)(w:World)(K:PySem.W.Frag)(mg:Str->Option Value)(base:Heap)(T:Addr):Prop:=∃ fI fd,lH K (clK K .BadRows) bmV "ValueError.__new__" fI=true/\(∃ o,K.lookup fI=some o/\o.cls=.type "function") /\
 FnOk Pg w K mg base (CXM Pg w) 1 fI fd ["self","place"] (yS (clK K .BadRows))/\gC K fd ["self","place"] []/\XFld K T (clK K .BadRows) "place"/\XHit K (clK K .BadRows)
theorem PlX.xf (U:PlX Pg w K mg base T):XFld K T (clK K .BadRows) "place":=let ⟨_,_,_,_,_,_,h,_⟩:=U;h
theorem PlX.hit (U:PlX Pg w K mg base T):XHit K (clK K .BadRows):=let ⟨_,_,_,_,_,_,_,h⟩:=U;h
structure PRaw (K:PySem.W.Frag)(T C f:Addr)(od:Option Addr)(cd:ClassData)(sl:Array (Option Value)):Prop where
 ns:Ay K mainGlobals "BadRows" = some (some (.ref C))
 lk:K.lookup C=some ⟨.type "type",od,.cls cd,sl⟩
 mro:cd.mro=.ref C :: uA T
 hd:cd.hasDict=true
 sa:Aq K (.ref C) "__setattr__" = some (some (.builtin "object.__setattr__"))
 no:Aq K (.ref C) "place" = some none
 ii:Aq K (.ref C) "__init__" = some (some (.ref f))
 own:lH K C bmV "ValueError.__new__" f=true
variable {C f:Addr}{od:Option Addr}{cd:ClassData}{sl:Array (Option Value)}
theorem PRaw.cl (r:PRaw K T C f od cd sl):clK K .BadRows=C:=by
 unfold clK;rw[show (XC.BadRows).nm = "BadRows" from rfl,r.ns]
theorem PRaw.xf (r:PRaw K T C f od cd sl):XFld K T (clK K .BadRows) "place":=by
 rw[r.cl];exact⟨r.sa,⟨cd,vK r.lk,r.hd,r.mro⟩,r.no⟩
theorem PRaw.plx {o:Obj}{fd:FuncData}(r:PRaw K T C f od cd sl)(lk:K.lookup f=some o)(hc:o.cls=.type "function")(F:FnOk Pg w K mg base (CXM Pg w) 1 f fd ["self","place"] (yS (clK K .BadRows)))(hb:gC K fd ["self","place"] []):PlX Pg w K mg base T:=by
 have m:∃ od cd sl,K.lookup C=some ⟨.type "type",od,.cls cd,sl⟩/\cd.mro=.ref C :: uA T:=⟨od,cd,sl,r.lk,r.mro⟩;refine⟨f,fd,by rw[r.cl];exact r.own,⟨o,lk,hc⟩,F,hb,r.xf,?_⟩
 rw[r.cl];exact⟨rN m,tQ m,(iN m (by simp)).trans (by simp),(iN m (by simp)).trans (by simp)⟩
end
variable {X:Cx}{P:XP}{e:Expr}{f:FE}{pos np cpos:Pos}{T:Addr}
theorem aB8 (U:PlX X.prog X.w X.K X.mg X.base T)(XT:XAll X.K X.mg T)(hr:Room 2 X.A)(hc:X.calm=true)(hex:X.ex=[])(hg:Gl X "BadRows")(ht:aIf (clK X.K) X P)(ha:PA X [e] (tAs X.K P [f]))
 (he:starEach [e] X.env=(false,eval e X.env) :: starEach [] X.env:=by rfl):PS X (.Raise (some (.Call (.Name "BadRows" np) [e] [] cpos)) none pos) (tS X.K P (kK .BadRows f)) :=
 let ⟨_,_,h1,h2,h3,h4,_,_⟩:=U
 aAj (xc:=.BadRows) (XT.nm .BadRows) h1 h2 h3 h4 hr hc hex hg ht ha (by decide) he
end Mir
namespace Mir
open PySem L2
abbrev li (xs:List Int):List D:=xs.map .int
abbrev lil (t:List (List Int)):List D:=t.map fun xs=>.lst (li xs)
theorem aH {s t:FS}{ρ ρ1:Mir.Env}(h:s ρ=.nx ρ1):aP s t ρ=t ρ1:=by simp only[aP,h]
theorem rP {s t:FS}{ρ:Mir.Env}{r:Res}(h:s ρ=.rt r):aP s t ρ=.rt r:=by simp only[aP,h]
theorem kP {s t:FS}{ρ ρ1:Mir.Env}{x:Xc}(h:s ρ=.exc x ρ1):aP s t ρ=.exc x ρ1:=by simp only[aP,h]
theorem lN {it:FI}{tg:Tg}{b:FS}{ρ:Mir.Env}{fr:Bool}{ds:List D}(h:it ρ=.ok ⟨true,fr,ds⟩):gL it tg b ρ=eS tg b fr ds ρ:=by simp only[gL,h,R.at,if_true]
theorem dM {np n:Nat}{s:FS}{ds:List D}{r:Res}(hl:ds.length=np)(h:s (stE n ds)=.rt r):bY np n s ds=.ok ⟨r.k,r.fr||r.d.imm,r.d⟩:=by simp only[bY,hl,if_true,h]
theorem vV {np n:Nat}{s:FS}{ds:List D}{ρ:Mir.Env}(hl:ds.length=np)(h:s (stE n ds)=.nx ρ):bY np n s ds=.ok (sc .non):=by simp only[bY,hl,if_true,h]
theorem fZ {np n:Nat}{s:FS}{ds:List D}{x:Xc}{ρ:Mir.Env}(hl:ds.length=np)(h:s (stE n ds)=.exc x ρ):bY np n s ds=.exc x:=by simp only[bY,hl,if_true,h]
theorem uX {f:FE}{ρ:Mir.Env}{k:Kd}{fr:Bool}{d:D}(h:f ρ=.ok ⟨k,fr,d⟩):bF f ρ=.rt ⟨if k=.shr then .shr else .tmp,fr,d⟩:=by simp only[bF,h,R.at]
theorem kR {f:FE}{ρ:Mir.Env}{r:Res}(h:f ρ=.ok r):dH f ρ=.nx ρ:=by simp only[dH,h,R.at]
theorem dU {f:FE}{ρ:Mir.Env}{i:Nat}{fr:Bool}{d:D}(h:f ρ=.ok ⟨.tmp,fr,d⟩):aO i f ρ=.nx (ρ.set i (some ⟨.own,fr,d⟩)):=by simp only[aO,h,R.at,Res.keep]
theorem set_shr {f:FE}{ρ:Mir.Env}{i:Nat}{fr:Bool}{d:D}(h:f ρ=.ok ⟨.shr,fr,d⟩):aO i f ρ=.nx (ρ.set i (some ⟨.shr,fr,d⟩)):=by simp only[aO,h,R.at,Res.keep]
theorem fR {t:FT}{A B:FS}{ρ:Mir.Env}{b:Bool}(h:t ρ=.ok b):ifS t A B ρ=if b then A ρ else B ρ:=by simp only[ifS,h,R.at]
theorem aBl {f:FE}{A B:FS}{ρ:Mir.Env}{b:Bool}{k:Kd}{fr:Bool}(h:f ρ=.ok ⟨k,fr,.bl b⟩):ifS (bT f) A B ρ=if b then A ρ else B ρ:=by
 simp only[ifS,bT,h,R.ok_bind,asB,R.at]
theorem fQ {f:FE}{ρ:Mir.Env}{b:Bool}{k:Kd}{fr:Bool}(h:f ρ=.ok ⟨k,fr,.bl b⟩):bT f ρ=.ok b:=by simp only[bT,h,R.ok_bind,asB]
theorem wX {t:FT}{ρ:Mir.Env}{b:Bool}(h:t ρ=.ok b):vS t ρ=.ok (!b):=by simp only[vS,h,R.ok_bind]
theorem aBi {t u:FT}{ρ:Mir.Env}{b:Bool}{r:R Bool}(h:t ρ=.ok b)(h2:b=false->u ρ=r):orT t u ρ=if b then .ok true else r:=by
 cases b with
 | true=>simp only[orT,h,R.ok_bind,if_true]
 | false=>simp only[orT,h,R.ok_bind,h2 rfl,Co,if_false]
theorem qW {φ:Φ}{fs:FEs}{ρ:Mir.Env}{rs:List Res}{k:Kd}{d:D}(h:evs fs ρ=.ok rs)(hφ:φ (rs.map (·.d))=.ok ⟨k,true,d⟩):aG φ fs ρ=.ok ⟨if k=.shr then .shr else .tmp,true,d⟩:=by
 simp only[aG,h,R.ok_bind,hφ,if_true]
theorem eM {φ:Φ}{fs:FEs}{ρ:Mir.Env}{rs:List Res}{d:D}(h:evs fs ρ=.ok rs)(hφ:φ (rs.map (·.d))=.ok ⟨.shr,true,d⟩):aG φ fs ρ=.ok ⟨.shr,true,d⟩:=(qW h hφ).trans rfl
theorem kS {φ:Φ}{fs:FEs}{ρ:Mir.Env}{rs:List Res}{d:D}(h:evs fs ρ=.ok rs)(hφ:φ (rs.map (·.d))=.ok ⟨.tmp,true,d⟩):aG φ fs ρ=.ok ⟨.tmp,true,d⟩:=(qW h hφ).trans rfl
theorem mI {f:FE}{ρ:Mir.Env}{fr:Bool}{d:D}(h:f ρ=.ok ⟨.tmp,fr,d⟩):bF f ρ=.rt ⟨.tmp,fr,d⟩:=(uX h).trans rfl
theorem aEo {f:FE}{ρ:Mir.Env}{fr:Bool}{d:D}(h:f ρ=.ok ⟨.own,fr,d⟩):bF f ρ=.rt ⟨.tmp,fr,d⟩:=(uX h).trans rfl
theorem gB {f:FE}{ρ:Mir.Env}{fr:Bool}{d:D}(h:f ρ=.ok ⟨.shr,fr,d⟩):bF f ρ=.rt ⟨.shr,fr,d⟩:=(uX h).trans rfl
theorem aB {f:FE}{fs:FEs}{ρ:Mir.Env}{r:Res}{rs:List Res}(h:f ρ=.ok r)(h2:evs fs ρ=.ok rs):evs (f :: fs) ρ=.ok (r :: rs):=by simp only[evs,h,h2,R.ok_bind]
theorem bD {ρ:Mir.Env}:evs [] ρ=.ok []:=rfl
theorem sI {α:Type}{tg:Tg}{b:FB}{fr:Bool}{ρ:Mir.Env}{inj out:α->D}:∀ (xs:List α),(∀ x∈xs,∃ ρ1 k,tg.bind fr (inj x) ρ=.ok ρ1/\b ρ1=.ok (some ⟨k,true,out x⟩)/\k≠.own)->fN tg b fr ρ (xs.map inj)=.ok (true,xs.map out)
 | [],_=>rfl
 | x :: r,h=>by
  obtain⟨ρ1,k,h1,h2,h3⟩:=h x Af;have ih:=sI r fun y hy=>h y (Ab _ hy);simp only[Am,fN,h1,R.ok_bind,h2,Res.give,if_neg h3,ih];rfl
theorem eF {α:Type}{it:FI}{tg:Tg}{b:FB}{fr st:Bool}{ρ:Mir.Env}{k:Nat}{fs:List Nat}{inj out:α->D}{xs:List α}(hi:it ρ=.ok ⟨st,fr,xs.map inj⟩)
 (h:∀ x∈xs,∃ ρ1 k',tg.bind fr (inj x) (eG k fs ρ)=.ok ρ1/\b ρ1=.ok (some ⟨k',true,out x⟩)/\k'≠.own) (hz:xs.length<=sizeLine):bB it k fs tg b ρ=.ok ⟨.tmp,true,.lst (xs.map out)⟩:=by
 have:=sI xs h
 simp only[bB,hi,R.ok_bind,this,Ah,if_pos hz]
theorem gU {f:FE}{ρ:Mir.Env}{r:Res}(h:f ρ=.ok r):bE f ρ=.ok (some r):=by simp only[bE,h,R.ok_bind]
theorem sT (lo:Int)(n:Nat):nY lo n=(Bj n).map fun (i:Nat)=>.int (lo+(i:Int)):=rfl
theorem aJ5 (n:Nat):nY 0 n=(Bj n).map fun (i:Nat)=>.int (i:Int):=by
 rw[sT];simp
theorem sX {α β:Type}(f:α->D)(g:β->D)(xs:List α)(ys:List β):uD (xs.map f) (ys.map g)=(xs.zip ys).map fun p=>.tup [f p.1,g p.2]:=by
 unfold uD;rw[List.zipWith_map,←List.map_uncurry_zip_eq_zipWith];rfl
theorem aLb {i j:Int}(h1:i.natAbs<2^1000)(h2:j.natAbs<2^1000):CM i j=true:=by
 have lg:∀ n:Nat,n<2^1000->n.log2<1000000:=fun n h=>by
  by_cases z:n=0
  · subst z;decide
  · exact Nat.lt_trans ((Nat.log2_lt z).mpr h) (by decide)
 unfold CM;rw[decide_eq_true (lg _ h1),decide_eq_true (lg _ h2)];rfl
theorem wS (a b:Int):iD (.int a) (.int b)=.ok (decide (a=b)):=by
 by_cases h:a=b
 · subst h;simp[iD,fS,SeqAt.shaped,PyData.canLay0,PyData.depth,PyData.eqv]
 · simp[iD,fS,SeqAt.shaped,PyData.canLay0,PyData.depth,PyData.eqv,h]
theorem wY {xs:List D}{k:Nat}{d:D}(h:xs[k]?=some d):atI xs (k:Int)=some d:=by
 have hk:=(Ao.mp h).1;have hn:¬ (k:Int)<0:=by omega
 unfold atI ixN;rw[if_pos (by omega),if_pos (by omega)]
 simpa using h
theorem gG {f:FE}{ρ:Mir.Env}{k:Kd}{fr:Bool}{ds:List D}(h:f ρ=.ok ⟨k,fr,.lst ds⟩):dF f ρ=.ok (sc (.int ds.length)):=by simp only[dF,h,R.ok_bind,asS]
theorem lE {f:FE}{ρ:Mir.Env}{k:Kd}{fr:Bool}{ds:List D}(h:f ρ=.ok ⟨k,fr,.lst ds⟩):dY f ρ=.ok ⟨k != .own,fr,ds⟩:=by simp only[dY,h,R.ok_bind,asL]
theorem jV {f g:FE}{ρ:Mir.Env}{k k':Kd}{fr fr':Bool}{i j:Int}(h1:f ρ=.ok ⟨k,fr,.int i⟩)(h2:g ρ=.ok ⟨k',fr',.int j⟩):neE f g ρ=.ok (sc (.bl (!decide (i=j)))):=by simp only[neE,h1,h2,R.ok_bind,wS]
theorem vM {f g:FE}{ρ:Mir.Env}{k k':Kd}{fr fr':Bool}{i j:Int}(h1:f ρ=.ok ⟨k,fr,.int i⟩)(h2:g ρ=.ok ⟨k',fr',.int j⟩):eqE f g ρ=.ok (sc (.bl (decide (i=j)))):=by simp only[eqE,h1,h2,R.ok_bind,wS]
theorem aJm {f g:FE}{ρ:Mir.Env}{r r':Res}{b:Bool}(h1:f ρ=.ok r)(h2:g ρ=.ok r')(h:iD r.d r'.d=.ok b):eqE f g ρ=.ok (sc (.bl b)):=by simp only[eqE,h1,h2,R.ok_bind,h]
theorem aLo {f g:FE}{ρ:Mir.Env}{r r':Res}{b:Bool}(h1:f ρ=.ok r)(h2:g ρ=.ok r')(h:iD r.d r'.d=.ok b):neE f g ρ=.ok (sc (.bl (!b))):=by simp only[neE,h1,h2,R.ok_bind,h]
theorem iX {G:Int->Int->Bool}{f g:FE}{ρ:Mir.Env}{k k':Kd}{fr fr':Bool}{i j:Int}(h1:f ρ=.ok ⟨k,fr,.int i⟩)(h2:g ρ=.ok ⟨k',fr',.int j⟩):zL G f g ρ=.ok (sc (.bl (G i j))):=by simp only[zL,h1,h2,R.ok_bind,asI]
theorem bW {C:Int->Int->Bool}{G:Int->Int->Int}{f g:FE}{ρ:Mir.Env}{k k':Kd}{fr fr':Bool}{i j:Int}(h1:f ρ=.ok ⟨k,fr,.int i⟩)(h2:g ρ=.ok ⟨k',fr',.int j⟩)(hc:C i j=true):i2E C G f g ρ=.ok (sc (.int (G i j))):=by
 simp only[i2E,h1,h2,R.ok_bind,asI,hc,if_true]
theorem aCp {f:FE}{ρ:Mir.Env}{x:Res}{j:Int}(h:f ρ=.ok x)(hx:x.d=.int j)(c:-(2^62)<=j/\j<2^62):dE f ρ=.ok ⟨true,true,nY 0 j.toNat⟩:=by
 simp only[dE,h,hx,asI,R.ok_bind];rw[if_pos c]
theorem jD {f:FE}{ρ:Mir.Env}{k:Kd}{fr:Bool}{n:Nat}(h:f ρ=.ok ⟨k,fr,.int n⟩)(hn:(n:Int)<2^62):dE f ρ=.ok ⟨true,true,(Bj n).map fun (i:Nat)=>.int (i:Int)⟩ :=
 (aCp h rfl ⟨by omega,hn⟩).trans (by rw[Int.toNat_natCast,aJ5])
theorem eD {f g:FE}{ρ:Mir.Env}{k k':Kd}{fr fr':Bool}{ds:List D}{i:Nat}{d:D}(h1:f ρ=.ok ⟨k,fr,.lst ds⟩)(h2:g ρ=.ok ⟨k',fr',.int i⟩)(h:ds[i]?=some d):bA f g ρ=.ok ⟨.shr,fr||d.imm,d⟩:=by
 simp only[bA,h1,h2,R.ok_bind,asS,asI,wY h]
theorem eY {f g:FE}{ρ:Mir.Env}{k k':Kd}{fr fr':Bool}{ds:List D}{i:Nat}{z:Int}(h1:f ρ=.ok ⟨k,fr,.lst ds⟩)(h2:g ρ=.ok ⟨k',fr',.int i⟩)(h:ds[i]?=some (.int z)):bA f g ρ=.ok ⟨.shr,true,.int z⟩ :=
 (eD h1 h2 h).trans (by simp[D.imm])
end Mir
namespace Mir
open PySem L2
theorem uE {φ:Φ}{fs:FEs}{ρ:Mir.Env}{rs:List Res}{k:Kd}{d:D}{y:Bool×List D}(h:evs fs ρ=.ok rs)(hφ:φ (rs.map (·.d))=.ok ⟨k,false,d⟩)(hg:gives rs=.ok y):aG φ fs ρ=.ok ⟨if k=.shr then .shr else .tmp,y.1,d⟩:=by
 simp only[aG,h,R.ok_bind,hφ,Co,if_false,hg]
theorem aEf {a b:FE}{ρ:Mir.Env}{x y:Res}{lo:Int}{m:Nat}(ha:a ρ=.ok x)(hx:x.d=.int lo)(hb:b ρ=.ok y)(hy:y.d=.int (lo+m))(h1:0<=lo)(h2:lo+m<2^62):nX a b ρ=.ok ⟨true,true,nY lo m⟩:=by
 have r1:-(2^62)<=lo/\lo<2^62/\-(2^62)<=lo+(m:Int)/\lo+(m:Int)<2^62:=by omega
 have r2:(lo+(m:Int)-lo).toNat=m:=by omega
 simp only[nX,ha,hb,hx,hy,asI,R.ok_bind];rw[if_pos r1,r2]
theorem vU {i:Nat}{f:FE}{ρ:Mir.Env}{fr fr':Bool}{ds:List D}{k:Kd}{d:D}(ho:ρ[i]?=some (some ⟨.own,fr,.lst ds⟩))(h:f ρ=.ok ⟨k,fr',d⟩)(hk:k≠.own)(hz:ds.length<sizeLine):mW i f ρ=.nx (ρ.set i (some ⟨.own,fr&&fr',.lst (ds++[d])⟩)):=by
 simp only[mW,oK,ho,R.at,h,Res.give,if_neg hk,if_pos hz]
end Mir
namespace Mir
open PySem L2
mutual
def D.pl:D->Nat->Bool
 | .non,_=>true
 | .bl _,_=>true
 | .int _,_=>true
 | .lst ds,n=>decide (0<n)&&D.pls ds (n-1)
 | .tup ds,n=>decide (0<n)&&D.pls ds (n-1)
 | _,_=>false
def D.pls:List D->Nat->Bool
 | [],_=>true
 | d :: r,n=>D.pl d n&&D.pls r n
end
mutual
theorem aFe:∀ (d:D) (n:Nat),d.pl n=true->∃ p,fS d=some p/\p.depth<=n/\p.canLay0=true/\PyData.eqv p p=true
 | .non,n,_=>⟨.none,rfl,by simp[PyData.depth],by simp[PyData.canLay0],by simp[PyData.eqv]⟩
 | .bl b,n,_=>⟨.bool b,rfl,by simp[PyData.depth],by simp[PyData.canLay0],by simp[PyData.eqv]⟩
 | .int i,n,_=>⟨.int i,rfl,by simp[PyData.depth],by simp[PyData.canLay0],by simp[PyData.eqv]⟩
 | .str _,_,h=>by simp[D.pl]at h
 | .obj _ _,_,h=>by simp[D.pl]at h
 | .dct _ _,_,h=>by simp[D.pl]at h
 | .any,_,h=>by simp[D.pl]at h
 | .exc _ _,_,h=>by simp[D.pl]at h
 | .lst ds,n,h=>by
  simp only[D.pl,Bm,decide_eq_true_eq]at h;obtain⟨ps,h1,h2,h3,h4⟩:=vA ds (n-1) h.2;refine⟨.list ps,by simp only[fS,h1,Dy],?_,by simpa only[PyData.canLay0] using h3,by simpa only[PyData.eqv] using h4⟩
  simp only[PyData.depth];omega
 | .tup ds,n,h=>by
  simp only[D.pl,Bm,decide_eq_true_eq]at h;obtain⟨ps,h1,h2,h3,h4⟩:=vA ds (n-1) h.2;refine⟨.tuple ps,by simp only[fS,h1,Dy],?_,by simpa only[PyData.canLay0] using h3,by simpa only[PyData.eqv] using h4⟩
  simp only[PyData.depth];omega
theorem vA:∀ (ds:List D) (n:Nat),D.pls ds n=true->∃ ps,lZ ds=some ps/\PyData.depthAll ps<=n/\PyData.canLayAll0 ps=true/\PyData.eqvAll ps ps=true
 | [],n,_=>⟨[],rfl,by simp[PyData.depthAll],by simp[PyData.canLayAll0],by simp[PyData.eqvAll]⟩
 | d :: r,n,h=>by
  simp only[D.pls,Bm]at h;obtain⟨p,a1,a2,a3,a4⟩:=aFe d n h.1;obtain⟨ps,h1,h2,h3,h4⟩:=vA r n h.2;refine⟨p :: ps,by simp only[lZ,a1,h1,Dr,Dy],?_,by simp only[PyData.canLayAll0,a3,h3,Ff],by simp only[PyData.eqvAll,a4,h4,Ff]⟩
  simp only[PyData.depthAll];omega
end
theorem tU {d:D}(n:Nat)(h:d.pl n=true)(hn:n<=64):iD d d=.ok true:=by
 obtain⟨p,h1,h2,h3,h4⟩:=aFe d n h
 have s:SeqAt.shaped p=true:=by
  unfold SeqAt.shaped;rw[h3,decide_eq_true (Bn h2 hn)];rfl
 unfold iD;rw[h1];simp only[s,Ff,if_true,h4]
theorem rF {n:Nat}:∀ {ds:List D},(∀ d∈ds,d.pl n=true)->D.pls ds n=true
 | [],_=>rfl
 | d :: r,h=>by
  simp only[D.pls,h d Af,rF fun x hx=>h x (Ab _ hx),Ff]
theorem aHa (xs:List Int)(n:Nat):D.pls (li xs) n=true:=rF fun d hd=>by
 obtain⟨i,_,rfl⟩:=Bb.mp hd;rfl
theorem aA7 (xs:List Int)(n:Nat)(h:0<n):(D.lst (li xs)).pl n=true:=by
 simp only[D.pl,aHa,Bool.and_true,decide_eq_true_eq];exact h
theorem aCx (t:List (List Int))(n:Nat)(h:1<n):(D.lst (lil t)).pl n=true:=by
 simp only[D.pl,Bm,decide_eq_true_eq];refine⟨by omega,rF fun d hd=>?_⟩
 obtain⟨i,_,rfl⟩:=Bb.mp hd;exact aA7 i _ (by omega)
theorem tV {α:Type}{tg:Tg}{b:FS}{fr:Bool}{inj out:α->D}{E:List D->Mir.Env->Prop}:∀ (xs:List α) (acc:List D) (ρ:Mir.Env),(∀ x∈xs,∀ acc ρ,acc.length<sizeLine->E acc ρ->∃ ρ1 ρ2,tg.bind fr (inj x) ρ=.ok ρ1/\b ρ1=.nx ρ2/\E (acc++[out x]) ρ2) ->
 acc.length+xs.length<=sizeLine->E acc ρ->∃ ρ',eS tg b fr (xs.map inj) ρ=.nx ρ'/\E (acc++xs.map out) ρ'
 | [],acc,ρ,_,_,h=>⟨ρ,rfl,by simpa using h⟩
 | x :: r,acc,ρ,hs,hz,h=>by
  rw[Cg]at hz;obtain⟨ρ1,ρ2,h1,h2,h3⟩:=hs x Af acc ρ (by omega) h
  obtain⟨ρ',h4,h5⟩:=tV r (acc++[out x]) ρ2 (fun y hy=>hs y (Ab _ hy)) (by rw[As,Aw];omega) h3
  refine⟨ρ',?_,by simpa using h5⟩
  simp only[Am,eS,h1,R.at,h2];exact h4
theorem wP {α:Type}(f:α->D)(xs:List α):nO (xs.map f)=xs.zipIdx.map fun p=>.tup [.int p.2,f p.1]:=by
 unfold nO;rw[List.zipIdx_map,Dq];rfl
theorem pX {f:FE}{ρ:Mir.Env}{k:Kd}{fr:Bool}{i:Int}(h:f ρ=.ok ⟨k,fr,.int i⟩):soO f ρ=.ok (some i):=by simp only[soO,h,R.ok_bind,asI]
theorem jR {f:FE}{lo hi:FO}{ρ:Mir.Env}{k:Kd}{fr:Bool}{ds:List D}{a b:Option Int}(h:f ρ=.ok ⟨k,fr,.lst ds⟩)(hl:lo ρ=.ok a)(hh:hi ρ=.ok b):fP f lo hi ρ=.ok ⟨.tmp,fr,.lst (lF ds a b)⟩:=by
 simp only[fP,h,hl,hh,R.ok_bind,asL]
theorem aCs {i:Nat}{j f:FE}{ρ:Mir.Env}{fr fr':Bool}{ds:List D}{k k':Kd}{f':Bool}{d:D}{z:Int}{n:Nat}(hf:f ρ=.ok ⟨k,fr',d⟩)(hk:k≠.own)(ho:ρ[i]?=some (some ⟨.own,fr,.lst ds⟩))(hj:j ρ=.ok ⟨k',f',.int z⟩)(hx:L2.ixN ds.length z=some n) :
 mC i j f ρ=.nx (ρ.set i (some ⟨.own,fr&&fr',.lst (ds.set n d)⟩)):=by
 simp only[mC,hf,R.at,Res.give,if_neg hk,oK,ho,hj,asI,hx]
end Mir
namespace N83
open PySem L2 Mir
def top (i:Nat):Stmt:=PySem.Challenge.pw_flatmeet_k83_refused_equations.main.body.getD i (.Pass ⟨0,0,0,0⟩)
structure Blt (mg:Str->Option Value):Prop where
 len_:mg "len" = none
 enumerate_:mg "enumerate" = none
 range_:mg "range" = none
 abs_:mg "abs" = none
 zip_:mg "zip" = none
 list_:mg "list" = none
 isinstance_:mg "isinstance" = none
 ValueError_:mg "ValueError" = none
 max_:mg "max" = none
 bool_:mg "bool" = none
 g_MOST_WAYS:∃ t,mg "MOST_WAYS" = some (.int 5 t)
section
variable {Pg:Program}{w:World}{K:PySem.W.Frag}{mg:Str->Option Value}{base:Heap}{k:Nat}{T:Addr}
abbrev fC:Stmt:=xU (top 25) 0
theorem uY:FnScope ("self" :: cY 1) ("self" :: cY 1) (aM fC):=⟨rfl,rfl,rfl,by decide +kernel,rfl,by decide +kernel,by decide +kernel⟩
theorem yE (O:OC K 1){f:Addr}{fd:FuncData}(F:Fun K "__init__" "Cleared.__init__" fC f fd):FnOk Pg w K mg base (CXM Pg w) 1 f fd ("self" :: cY 1) (spI K 1):=aKx F uY O fun cdv A outer s H E=>mU (vY (pv 0) (pv 1) rfl) (mU (vY (pv 0) (pv 2) rfl) (kC (vY (pv 0) (pv 3) rfl)))
abbrev fD:Stmt:=xU (top 5) 0
theorem vZ:FnScope ["self","place"] ["self","place"] (aM fD):=⟨rfl,rfl,rfl,by decide +kernel,rfl,by decide +kernel,by decide +kernel⟩
theorem yP {C f:Addr}{fd:FuncData}(xf:XFld K T C "place")(F:Fun K "__init__" "BadRows.__init__" fD f fd):FnOk Pg w K mg base (CXM Pg w) 1 f fd ["self","place"] (yS C):=aJe F vZ xf fun cdv A outer s H E=>kC (aD9 rfl (pv 0) (pv 1) rfl)
abbrev eJ:Stmt:=top 18
theorem iV:FnScope ["one","other"] ["one","other"] (aM eJ):=⟨rfl,rfl,rfl,by decide +kernel,rfl,by decide +kernel,by decide +kernel⟩
def jI:FS :=
 (ifS (bT (neE (dF (vE 0)) (dF (vE 1))))
  (nM .NotAlike [cE (.str "lists of unlike lengths")])
  bZ)
def bX:Φ:=bY 2 2 jI
theorem gK (B:Blt mg)(XT:XAll K mg T)  (F:bR K mg "check_alike" eJ ["one","other"]):aN Pg w K mg base (CXM Pg w) (k+1) "check_alike" ["one","other"] (spM K (clK K) bX):=by
 have nd:=iV.nd;refine dL F iV fun f cdv A outer s H E hr=>?_
 have hu:=hr.units
 exact(aQ (dQ (iI hu (lW rfl B.len_ (m_v 0)) (lW rfl B.len_ (m_v 1)))
  (aQ (xJ (xc:=.NotAlike) (XT.nm .NotAlike) (XT.ex .NotAlike (by decide) (by decide)) rfl rfl aFz (aA dP aF)))
  dB))
abbrev eK:Stmt:=top 19
theorem iQ:FnScope ["many"] ["many"] (aM eK):=⟨rfl,rfl,rfl,by decide +kernel,rfl,by decide +kernel,by decide +kernel⟩
def oS:FS :=
 (ifS (orT (bT (ltE (vE 0) (cE (.int 1)))) (bT (gtE (vE 0) (cE (.int 5)))))
  (nM .BadCount [cE (.str "a space has 1 to 5 ways")])
  bZ)
def bP:Φ:=bY 1 1 oS
theorem gF (B:Blt mg)(XT:XAll K mg T)  (F:bR K mg "check_count" eK ["many"]):aN Pg w K mg base (CXM Pg w) (k+1) "check_count" ["many"] (spM K (clK K) bP):=by
 have nd:=iQ.nd;refine dL F iQ fun f cdv A outer s H E hr=>?_
 have hu:=hr.units
 exact(aQ (dQ (PW.pt (aF6 (aBy (m_v 0) aT) (aAz (aAo (m_v 0) (aHm rfl B.g_MOST_WAYS)))))
  (aQ (xJ (xc:=.BadCount) (XT.nm .BadCount) (XT.ex .BadCount (by decide) (by decide)) rfl rfl aFz (aA dP aF)))
  dB))
abbrev eX:Stmt:=top 20
theorem jH:FnScope ["many","rows","place","row"] ["many","rows"] (aM eX):=⟨rfl,rfl,rfl,by decide +kernel,rfl,by decide +kernel,by decide +kernel⟩
def rM:FS :=
 (aP (dH (aG bP [vE 0]))
 (gL (oR (vE 1)) (.tp [.nm 2,.nm 3])
  (ifS (bT (neE (dF (vE 3)) (vE 0)))
   (kK .BadRows (vE 2))
   bZ)))
def bV:Φ:=bY 2 4 rM
theorem hU (B:Blt mg)(XT:XAll K mg T)(UP:PlX Pg w K mg base T)(hk2:2<=k)(gF:aN Pg w K mg base (CXM Pg w) k "check_count" ["many"] (spM K (clK K) bP))(F:bR K mg "check_rows" eX ["many","rows"]):aN Pg w K mg base (CXM Pg w) (k+1) "check_rows" ["many","rows"] (spM K (clK K) bV):=by
 have nd:=jH.nd;refine dL F jH fun f cdv A outer s H E hr=>?_
 have hu:=hr.units
 exact(aE (jU (bL gF hr rfl eV (aA (m_v 0) aF)))
  (aQ (pI nQ rfl (wN rfl B.enumerate_ (m_v 1)) (qA rfl (cO (cA nd rfl (Or.inl rfl)) (cO (cA nd rfl (Or.inl rfl)) iW)))
   (aQ (dQ (iI hu (lW rfl B.len_ (m_v 3)) (m_v 0))
    (aQ (aB8 UP XT (hr.mono hk2) rfl rfl rfl aLe (aA (m_v 2) aF)))
    dB)))))
abbrev mP:Stmt:=top 21
theorem sF:FnScope ["many"] ["many"] (aM mP):=⟨rfl,rfl,rfl,by decide +kernel,rfl,by decide +kernel,by decide +kernel⟩
def aD0:FS :=
 (bF (bB (dE (vE 0)) 1 [0] (.nm 0) (bE (bB (dE (vE 1)) 1 [0] (.nm 0) (bE (ifE (bT (eqE (vE 0) (vE 1))) (cE (.int 1)) (cE (.int 0))))))))
def kH:Φ:=bY 1 1 aD0
theorem qH (B:Blt mg)(XT:XAll K mg T)  (F:bR K mg "units" mP ["many"]):aN Pg w K mg base (CXM Pg w) (k+1) "units" ["many"] (spM K (clK K) kH):=by
 have nd:=sF.nd;refine dL F sF fun f cdv A outer s H E hr=>?_
 have hu:=hr.units;exact(aQ (cQ (eR rfl (bG (XN:=["many"]) (N:=["place","many"]) (k:=1) (fs:=[0]) rfl rfl rfl (by decide +kernel)) (gX rfl B.range_ (m_v 0)) (fun _ _ _=>(cA (show (["place","many"]:List Str).Nodup by decide +kernel) rfl (Or.inr rfl))) (iC rfl) (fun _ _ _=>eA (eR rfl (lM (N:=["way","place"]) (k:=1) (fs:=[0]) (bG (XN:=["many"]) (N:=["place","many"]) (k:=1) (fs:=[0]) rfl rfl rfl (by decide +kernel)) (by decide +kernel)) (gX rfl B.range_ (m_v 1)) (fun _ _ _=>(cA (show (["way","place"]:List Str).Nodup by decide +kernel) rfl (Or.inl rfl))) (iC rfl) (fun _ _ _=>eA (aL9 (xQ hu (m_v 0) (m_v 1)) aT aT)))))))
abbrev dG:Stmt:=top 22
theorem gA:FnScope ["numbers","common","number","rest","before"] ["numbers"] (aM dG):=⟨rfl,rfl,rfl,by decide +kernel,rfl,by decide +kernel,by decide +kernel⟩
def lK:FS :=
 (aP (aO 1 (cE (.int 0)))
 (aP (gL (dY (vE 0)) (.nm 2)
  (aP (aO 3 (vR (vE 2)))
  (aA1 (bT (neE (vE 3) (cE (.int 0))))
   (aP (aO 4 (vE 1))
   (aP (aO 1 (vE 3))
   (aO 3 (dO (vE 4) (vE 3))))))))
 (bF (vE 1))))
def aZ:Φ:=bY 1 5 lK
theorem cN (B:Blt mg)(XT:XAll K mg T)  (F:bR K mg "common_divisor" dG ["numbers"]):aN Pg w K mg base (CXM Pg w) (k+1) "common_divisor" ["numbers"] (spM K (clK K) aZ):=by
 have nd:=gA.nd;refine dL F gA fun f cdv A outer s H E hr=>?_
 have hu:=hr.units
 exact(aE (bN (i:=1) nd rfl (Or.inl rfl) aT)
  (aE (pI nQ rfl (hG (m_v 0)) (cA nd rfl (Or.inl rfl))
   (aE (bN (i:=3) nd rfl (Or.inl rfl) (aJu rfl B.abs_ (m_v 2)))
   (aQ (aK5 nQ (iI hu (m_v 3) aT)
    (aE (bN (i:=4) nd rfl (Or.inl rfl) (m_v 1))
    (aE (bN (i:=1) nd rfl (Or.inl rfl) (m_v 3))
    (aQ (bN (i:=3) nd rfl (Or.inl rfl) (iF (m_v 4) (m_v 3))))))))))
  (aQ (cQ (m_v 1)))))
abbrev kO:Stmt:=top 23
theorem pW:FnScope ["bottom","tops","common"] ["bottom","tops"] (aM kO):=⟨rfl,rfl,rfl,by decide +kernel,rfl,by decide +kernel,by decide +kernel⟩
def zT:FS :=
 (aP (aO 2 (aG aZ [dX (aX [vE 0]) (vE 1)]))
 (bF (yV [gI (vE 0) (vE 2),bB (dY (vE 1)) 1 [2] (.nm 0) (bE (gI (vE 0) (vE 1)))])))
def fH:Φ:=bY 2 3 zT
theorem nP (B:Blt mg)(XT:XAll K mg T)(cN:aN Pg w K mg base (CXM Pg w) k "common_divisor" ["numbers"] (spM K (clK K) aZ))(F:bR K mg "lowest" kO ["bottom","tops"]):aN Pg w K mg base (CXM Pg w) (k+1) "lowest" ["bottom","tops"] (spM K (clK K) fH):=by
 have nd:=pW.nd;refine dL F pW fun f cdv A outer s H E hr=>?_
 have hu:=hr.units
 exact(aE (bN (i:=2) nd rfl (Or.inr rfl) (bL cN hr rfl eV (aA (fU (cD (aA (m_v 0) aF)) (m_v 1)) aF)))
  (aQ (cQ (aIr (aA (uB (m_v 0) (m_v 2)) (aA (eR rfl (bG (XN:=["bottom","tops","common"]) (N:=["top","common"]) (k:=1) (fs:=[2]) rfl rfl rfl (by decide +kernel)) (hG (m_v 1)) (fun _ _ _=>(cA (show (["top","common"]:List Str).Nodup by decide +kernel) rfl (Or.inl rfl))) (iC rfl) (fun _ _ _=>eA (uB (m_v 0) (m_v 1)))) aF))))))
abbrev mQ:Stmt:=top 24
theorem tG:FnScope ["rows","top","way","bottom","chosen","head","told","place","row"] ["rows","top","way","bottom"] (aM mQ):=⟨rfl,rfl,rfl,by decide +kernel,rfl,by decide +kernel,by decide +kernel⟩
def aEi:FS :=
 (aP (aO 4 (bA (vE 0) (vE 1)))
 (aP (aO 5 (bA (vE 4) (vE 2)))
 (aP (aO 6 (aX []))
 (aP (fO 0 (gL (oR (vE 0)) (.tp [.nm 7,.nm 8])
  (ifS (bT (eqE (vE 7) (vE 1)))
   (fO 4 (mW 6 (vE 4)))
   (mW 6 (bB (qO (vE 8) (vE 4)) 2 [3,5,8,2] (.tp [.nm 0,.nm 1]) (bE (aDt (oW (nA (vE 3) (vE 0)) (nA (bA (vE 4) (vE 5)) (vE 1))) (vE 2))))))))
 (bF (vE 6))))))
def kW:Φ:=bY 4 9 aEi
theorem rO (B:Blt mg)(XT:XAll K mg T)  (F:bR K mg "swept" mQ ["rows","top","way","bottom"]):aN Pg w K mg base (CXM Pg w) (k+1) "swept" ["rows","top","way","bottom"] (spM K (clK K) kW):=by
 have nd:=tG.nd;refine dL F tG fun f cdv A outer s H E hr=>?_
 have hu:=hr.units
 exact(aE (bN (i:=4) nd rfl (Or.inl rfl) (cV (m_v 0) (m_v 1)))
  (aE (bN (i:=5) nd rfl (Or.inr rfl) (cV (m_v 4) (m_v 2)))
  (aE (bN (i:=6) nd rfl (Or.inl rfl) (cD aF))
  (aE (mT (i:=0) (pI nQ rfl (wN rfl B.enumerate_ (m_v 0)) (qA rfl (cO (cA nd rfl (Or.inl rfl)) (cO (cA nd rfl (Or.inr rfl)) iW)))
   (aQ (dQ (xQ hu (m_v 7) (m_v 1))
    (aQ (mT (i:=4) (aB4 (i:=6) rfl (Or.inl rfl) (m_v 4))))
    (aQ (aB4 (i:=6) rfl (Or.inl rfl) (eR rfl (bG (XN:=["rows","top","way","bottom","chosen","head","told","place","row"]) (N:=["left","right","bottom","head","row","way"]) (k:=2) (fs:=[3,5,8,2]) rfl rfl rfl (by decide +kernel)) (wE rfl rfl B.zip_ (m_v 8) (m_v 4)) (fun _ _ _=>(qA rfl (cO (cA (show (["left","right","bottom","head","row","way"]:List Str).Nodup by decide +kernel) rfl (Or.inl rfl)) (cO (cA (show (["left","right","bottom","head","row","way"]:List Str).Nodup by decide +kernel) rfl (Or.inl rfl)) iW)))) (iC rfl) (fun _ _ _=>eA (aJ3 (wJ (wQ (m_v 3) (m_v 0)) (wQ (cV (m_v 4) (m_v 5)) (m_v 1))) (m_v 2))))))))))
  (aQ (cQ (m_v 6)))))))
abbrev jB:Stmt:=top 26
theorem oA:FnScope ["many","rows","lines","heads","bottom","way","top","found"] ["many","rows"] (aM jB):=⟨rfl,rfl,rfl,by decide +kernel,rfl,by decide +kernel,by decide +kernel⟩
def yU:FS :=
 (aP (aO 2 (bB (dY (vE 1)) 1 [] (.nm 0) (bE (lJ (vE 0)))))
 (aP (aO 3 (aX []))
 (aP (aO 4 (cE (.int 1)))
 (aP (gL (dE (vE 0)) (.nm 5)
  (aP (aO 6 (dF (vE 3)))
  (aP (aO 7 (bB (nX (vE 6) (dF (vE 2))) 1 [5,2] (.nm 0) (Mir.bIf (bT (neE (bA (bA (vE 2) (vE 0)) (vE 1)) (cE (.int 0)))) (vE 0))))
  (ifS (jS (vE 7))
   (aP (aO 2 (dX (dX (dX (fP (vE 2) (noO) (soO (vE 6))) (aX [bA (vE 2) (bA (vE 7) (cE (.int 0)))])) (fP (vE 2) (soO (vE 6)) (soO (bA (vE 7) (cE (.int 0)))))) (fP (vE 2) (soO (eW (bA (vE 7) (cE (.int 0))) (cE (.int 1)))) (noO))))
   (aP (fO 2 (aO 2 (aG kW [vE 2,vE 6,vE 5,vE 4])))
   (aP (aO 4 (bA (bA (vE 2) (vE 6)) (vE 5)))
   (mW 3 (vE 5)))))
   bZ))))
 (aP (ifS (bT (ltE (vE 4) (cE (.int 0))))
  (fO 3 (bF (oH 1 [gN (vE 4),vE 3,bB (dY (vE 2)) 1 [] (.nm 0) (bE (bB (dY (vE 0)) 1 [] (.nm 0) (bE (gN (vE 0)))))])))
  bZ)
 (fO 2 (fO 3 (bF (oH 1 [vE 4,vE 3,vE 2])))))))))
def fF:Φ:=bY 2 8 yU
theorem lA (B:Blt mg)(XT:XAll K mg T)(O1:OC K 1)(U1:xC Pg w K mg base 1 1)(hk:2<=k)(rO:aN Pg w K mg base (CXM Pg w) k "swept" ["rows","top","way","bottom"] (spM K (clK K) kW))(F:bR K mg "cleared" jB ["many","rows"]):aN Pg w K mg base (CXM Pg w) (k+1) "cleared" ["many","rows"] (spM K (clK K) fF):=by
 have nd:=oA.nd;refine dL F oA fun f cdv A outer s H E hr=>?_
 have hu:=hr.units
 exact(aE (bN (i:=2) nd rfl (Or.inr rfl) (eR rfl (bG (XN:=["many","rows","lines","heads","bottom","way","top","found"]) (N:=["row"]) (k:=1) (fs:=[]) rfl rfl rfl (by decide +kernel)) (hG (m_v 1)) (fun _ _ _=>(cA (show (["row"]:List Str).Nodup by decide +kernel) rfl (Or.inl rfl))) (iC rfl) (fun _ _ _=>eA (xZ rfl B.list_ (m_v 0)))))
  (aE (bN (i:=3) nd rfl (Or.inl rfl) (cD aF))
  (aE (bN (i:=4) nd rfl (Or.inl rfl) aT)
  (aE (pI nQ rfl (gX rfl B.range_ (m_v 0)) (cA nd rfl (Or.inr rfl))
   (aE (bN (i:=6) nd rfl (Or.inl rfl) (lW rfl B.len_ (m_v 3)))
   (aE (mV (i:=7) rfl nd rfl rfl (bG (XN:=["many","rows","lines","heads","bottom","way","top","found"]) (N:=["place","way","lines"]) (k:=1) (fs:=[5,2]) rfl rfl rfl (by decide +kernel)) (aEu rfl B.range_ (m_v 6) (lW rfl B.len_ (m_v 2))) (fun _ _ _=>(cA (show (["place","way","lines"]:List Str).Nodup by decide +kernel) rfl (Or.inl rfl))) (iC rfl) (fun _ _ _=>aAu (iI hu (cV (cV (m_v 2) (m_v 0)) (m_v 1)) aT) (m_v 0)))
   (aQ (dQ (wC (m_v 7))
    (aE (bN (i:=2) nd rfl (Or.inr rfl) (fU (fU (fU (nG (m_v 2) pJ (lY (m_v 6))) (cD (aA (cV (m_v 2) (cV (m_v 7) aT)) aF))) (nG (m_v 2) (lY (m_v 6)) (lY (cV (m_v 7) aT)))) (nG (m_v 2) (lY (nU (cV (m_v 7) aT) aT)) pJ)))
    (aE (mT (i:=2) (bN (i:=2) nd rfl (Or.inr rfl) (bL rO hr rfl eV (aA (m_v 2) (aA (m_v 6) (aA (m_v 5) (aA (m_v 4) aF)))))))
    (aE (bN (i:=4) nd rfl (Or.inl rfl) (cV (cV (m_v 2) (m_v 6)) (m_v 5)))
    (aQ (aB4 (i:=3) rfl (Or.inl rfl) (m_v 5))))))
    dB)))))
  (aE (dQ (aBy (m_v 4) aT)
   (aQ (mT (i:=3) (cQ (aFs (c:=1) U1 (hr.mono hk) rfl (aA (sR (m_v 4)) (aA (m_v 3) (aA (eR rfl (bG (XN:=["many","rows","lines","heads","bottom","way","top","found"]) (N:=["line"]) (k:=1) (fs:=[]) rfl rfl rfl (by decide +kernel)) (hG (m_v 2)) (fun _ _ _=>(cA (show (["line"]:List Str).Nodup by decide +kernel) rfl (Or.inl rfl))) (iC rfl) (fun _ _ _=>eA (eR rfl (lM (N:=["number"]) (k:=1) (fs:=[]) (bG (XN:=["many","rows","lines","heads","bottom","way","top","found"]) (N:=["line"]) (k:=1) (fs:=[]) rfl rfl rfl (by decide +kernel)) (by decide +kernel)) (hG (m_v 0)) (fun _ _ _=>(cA (show (["number"]:List Str).Nodup by decide +kernel) rfl (Or.inl rfl))) (iC rfl) (fun _ _ _=>eA (sR (m_v 0)))))) aF)))))))
   dB)
  (aQ (mT (i:=2) (mT (i:=3) (cQ (aFs (c:=1) U1 (hr.mono hk) rfl (aA (m_v 4) (aA (m_v 3) (aA (m_v 2) aF)))))))))))))
abbrev cL:Stmt:=top 28
theorem eO:FnScope ["many","rows","ends"] ["many","rows","ends"] (aM cL):=⟨rfl,rfl,rfl,by decide +kernel,rfl,by decide +kernel,by decide +kernel⟩
def dJ:FS :=
 (aP (dH (aG bV [vE 0,vE 1]))
 (aP (dH (aG bX [vE 1,vE 2]))
 (bF (aG fF [vE 0,bB (pP (vE 1) (vE 2) (aG kH [dF (vE 1)])) 3 [] (.tp [.nm 0,.nm 1,.nm 2]) (bE (dX (dX (vE 0) (aX [vE 1])) (vE 2)))]))))
def aC:Φ:=bY 3 3 dJ
theorem bS (B:Blt mg)(XT:XAll K mg T)(hU:aN Pg w K mg base (CXM Pg w) k "check_rows" ["many","rows"] (spM K (clK K) bV))(gK:aN Pg w K mg base (CXM Pg w) k "check_alike" ["one","other"] (spM K (clK K) bX))(lA:aN Pg w K mg base (CXM Pg w) k "cleared" ["many","rows"] (spM K (clK K) fF))(qH:aN Pg w K mg base (CXM Pg w) k "units" ["many"] (spM K (clK K) kH))(F:bR K mg "cleared_equations" cL ["many","rows","ends"]):aN Pg w K mg base (CXM Pg w) (k+1) "cleared_equations" ["many","rows","ends"] (spM K (clK K) aC):=by
 have nd:=eO.nd;refine dL F eO fun f cdv A outer s H E hr=>?_
 have hu:=hr.units
 exact(aE (jU (bL hU hr rfl eV (aA (m_v 0) (aA (m_v 1) aF))))
  (aE (jU (bL gK hr rfl eV (aA (m_v 1) (aA (m_v 2) aF))))
  (aQ (cQ (bL lA hr rfl eV (aA (m_v 0) (aA (eR rfl (bG (XN:=["many","rows","ends"]) (N:=["row","end","mark"]) (k:=3) (fs:=[]) rfl rfl rfl (by decide +kernel)) (aD1 rfl rfl B.zip_ (m_v 1) (m_v 2) (bL qH hr rfl eV (aA (lW rfl B.len_ (m_v 1)) aF))) (fun _ _ _=>(qA rfl (cO (cA (show (["row","end","mark"]:List Str).Nodup by decide +kernel) rfl (Or.inl rfl)) (cO (cA (show (["row","end","mark"]:List Str).Nodup by decide +kernel) rfl (Or.inl rfl)) (cO (cA (show (["row","end","mark"]:List Str).Nodup by decide +kernel) rfl (Or.inl rfl)) iW))))) (iC rfl) (fun _ _ _=>eA (fU (fU (m_v 0) (cD (aA (m_v 1) aF))) (m_v 2)))) aF)))))))
abbrev dZ:Stmt:=top 29
theorem hZ:FnScope ["many","found"] ["many","found"] (aM dZ):=⟨rfl,rfl,rfl,by decide +kernel,rfl,by decide +kernel,by decide +kernel⟩
def nK:FS :=
 (bF (bB (dY (fP (gM 1 2 (vE 1)) (soO (dF (gM 1 1 (vE 1)))) (noO))) 1 [0] (.nm 0) (Mir.bIf (bT (neE (bA (vE 0) (vE 1)) (cE (.int 0)))) (vE 0))))
def aY:Φ:=bY 2 2 nK
theorem dC (B:Blt mg)(XT:XAll K mg T)(O1:OC K 1)   (F:bR K mg "barred_lines" dZ ["many","found"]):aN Pg w K mg base (CXM Pg w) (k+1) "barred_lines" ["many","found"] (spM K (clK K) aY):=by
 have nd:=hZ.nd;refine dL F hZ fun f cdv A outer s H E hr=>?_
 have hu:=hr.units;exact(aQ (cQ (eR rfl (bG (XN:=["many","found"]) (N:=["line","many"]) (k:=1) (fs:=[0]) rfl rfl rfl (by decide +kernel)) (hG (nG (uH (c:=1) (i:=2) O1 (m_v 1)) (lY (lW rfl B.len_ (uH (c:=1) (i:=1) O1 (m_v 1)))) pJ)) (fun _ _ _=>(cA (show (["line","many"]:List Str).Nodup by decide +kernel) rfl (Or.inl rfl))) (iC rfl) (fun _ _ _=>aAu (iI hu (cV (m_v 0) (m_v 1)) aT) (m_v 0)))))
abbrev kJ:Stmt:=top 30
theorem pR:FnScope ["many","rows","ends","found","tops","head","line"] ["many","rows","ends"] (aM kJ):=⟨rfl,rfl,rfl,by decide +kernel,rfl,by decide +kernel,by decide +kernel⟩
def zR:FS :=
 (aP (aO 3 (aG aC [vE 0,vE 1,vE 2]))
 (aP (ifS (jS (aG aY [vE 0,vE 3]))
  (bF (cE .non))
  bZ)
 (aP (aO 4 (yT (aX [cE (.int 0)]) (vE 0)))
 (aP (gL (qO (gM 1 1 (vE 3)) (gM 1 2 (vE 3))) (.tp [.nm 5,.nm 6])
  (mC 4 (vE 5) (bA (vE 6) (vE 0))))
 (bF (aG fH [gM 1 0 (vE 3),vE 4]))))))
def eP:Φ:=bY 3 7 zR
theorem iJ (B:Blt mg)(XT:XAll K mg T)(O1:OC K 1)  (bS:aN Pg w K mg base (CXM Pg w) k "cleared_equations" ["many","rows","ends"] (spM K (clK K) aC))(dC:aN Pg w K mg base (CXM Pg w) k "barred_lines" ["many","found"] (spM K (clK K) aY))(nP:aN Pg w K mg base (CXM Pg w) k "lowest" ["bottom","tops"] (spM K (clK K) fH))(F:bR K mg "answer" kJ ["many","rows","ends"]):aN Pg w K mg base (CXM Pg w) (k+1) "answer" ["many","rows","ends"] (spM K (clK K) eP):=by
 have nd:=pR.nd;refine dL F pR fun f cdv A outer s H E hr=>?_
 have hu:=hr.units
 exact(aE (bN (i:=3) nd rfl (Or.inl rfl) (bL bS hr rfl eV (aA (m_v 0) (aA (m_v 1) (aA (m_v 2) aF)))))
  (aE (dQ (wC (bL dC hr rfl eV (aA (m_v 0) (aA (m_v 3) aF))))
   (aQ (cQ wH))
   dB)
  (aE (bN (i:=4) nd rfl (Or.inl rfl) (aIv (cD (aA aT aF)) (m_v 0)))
  (aE (pI nQ rfl (wE rfl rfl B.zip_ (uH (c:=1) (i:=1) O1 (m_v 3)) (uH (c:=1) (i:=2) O1 (m_v 3))) (qA rfl (cO (cA nd rfl (Or.inl rfl)) (cO (cA nd rfl (Or.inl rfl)) iW)))
   (aQ (aFq (i:=4) rfl (Or.inl rfl) (m_v 5) (cV (m_v 6) (m_v 0)))))
  (aQ (cQ (bL nP hr rfl eV (aA (uH (c:=1) (i:=0) O1 (m_v 3)) (aA (m_v 4) aF)))))))))
abbrev xG:Stmt:=top 31
theorem aAx:FnScope ["many","rows","ends","found","barred","often","common"] ["many","rows","ends"] (aM xG):=⟨rfl,rfl,rfl,by decide +kernel,rfl,by decide +kernel,by decide +kernel⟩
def aLf:FS :=
 (aP (aO 3 (aG aC [vE 0,vE 1,vE 2]))
 (aP (aO 4 (aG aY [vE 0,vE 3]))
 (aP (ifS (vS (jS (vE 4)))
  (bF (cE .non))
  bZ)
 (aP (aO 5 (fP (bA (vE 4) (cE (.int 0))) (soO (eW (vE 0) (cE (.int 1)))) (noO)))
 (aP (aO 6 (aG aZ [vE 5]))
 (bF (bB (dY (vE 5)) 1 [6] (.nm 0) (bE (gI (vE 0) (vE 1))))))))))
def lU:Φ:=bY 3 7 aLf
theorem sJ (B:Blt mg)(XT:XAll K mg T)(bS:aN Pg w K mg base (CXM Pg w) k "cleared_equations" ["many","rows","ends"] (spM K (clK K) aC))(dC:aN Pg w K mg base (CXM Pg w) k "barred_lines" ["many","found"] (spM K (clK K) aY))(cN:aN Pg w K mg base (CXM Pg w) k "common_divisor" ["numbers"] (spM K (clK K) aZ))(F:bR K mg "bar" xG ["many","rows","ends"]):aN Pg w K mg base (CXM Pg w) (k+1) "bar" ["many","rows","ends"] (spM K (clK K) lU):=by
 have nd:=aAx.nd;refine dL F aAx fun f cdv A outer s H E hr=>?_
 have hu:=hr.units
 exact(aE (bN (i:=3) nd rfl (Or.inl rfl) (bL bS hr rfl eV (aA (m_v 0) (aA (m_v 1) (aA (m_v 2) aF)))))
  (aE (bN (i:=4) nd rfl (Or.inl rfl) (bL dC hr rfl eV (aA (m_v 0) (aA (m_v 3) aF))))
  (aE (dQ (aHy (wC (m_v 4)))
   (aQ (cQ wH))
   dB)
  (aE (bN (i:=5) nd rfl (Or.inl rfl) (nG (cV (m_v 4) aT) (lY (nU (m_v 0) aT)) pJ))
  (aE (bN (i:=6) nd rfl (Or.inr rfl) (bL cN hr rfl eV (aA (m_v 5) aF)))
  (aQ (cQ (eR rfl (bG (XN:=["many","rows","ends","found","barred","often","common"]) (N:=["number","common"]) (k:=1) (fs:=[6]) rfl rfl rfl (by decide +kernel)) (hG (m_v 5)) (fun _ _ _=>(cA (show (["number","common"]:List Str).Nodup by decide +kernel) rfl (Or.inl rfl))) (iC rfl) (fun _ _ _=>eA (uB (m_v 0) (m_v 1)))))))))))
abbrev eL:Stmt:=top 33
theorem iU:FnScope ["_law_caught","_law_some","_law_names","_law_found"] ["_law_caught"] (aM eL):=⟨rfl,rfl,rfl,by decide +kernel,rfl,by decide +kernel,by decide +kernel⟩
def oV:FS :=
 (aP (ifS (bT (aGe (vE 0)))
  (bF (aX []))
  bZ)
 (aP (aO 1 (aX [jF (some .NotAlike) (vE 0),jF (some .BadCount) (vE 0),jF (some .BadRow) (vE 0)]))
 (aP (aO 1 (dX (vE 1) (aX [jF (some .OtherSpace) (vE 0),jF (some .BadSize) (vE 0),jF (some .BadPlaces) (vE 0)])))
 (aP (aO 1 (dX (vE 1) (aX [jF (some .ZeroSum) (vE 0),jF (some .BadTable) (vE 0),jF (some .NoLine) (vE 0)])))
 (aP (aO 1 (dX (vE 1) (aX [jF (some .BadName) (vE 0),jF (some .NoRow) (vE 0),jF (some .NoName) (vE 0)])))
 (aP (aO 1 (dX (vE 1) (aX [jF (some .BadRows) (vE 0),jF (some .NoBox) (vE 0)])))
 (aP (aO 2 (aX [cE (.str "alike"),cE (.str "count"),cE (.str "row"),cE (.str "space"),cE (.str "size"),cE (.str "places"),cE (.str "zero"),cE (.str "table"),cE (.str "line"),cE (.str "name"),cE (.str "norow")]))
 (aP (aO 2 (dX (vE 2) (aX [cE (.str "noname"),cE (.str "rows"),cE (.str "box")])))
 (aP (aO 3 (bB (qO (vE 2) (vE 1)) 2 [] (.tp [.nm 0,.nm 1]) (Mir.bIf (bT (vE 1)) (vE 0))))
 (aP (ifS (bT (jF none (vE 0)))
  (bF (vE 3))
  bZ)
 (bF (aX [cE (.str "none")]))))))))))))
def bI:Φ:=bY 1 4 oV
theorem gJ (B:Blt mg)(XT:XAll K mg T)  (F:bR K mg "_law_called" eL ["_law_caught"]):aN Pg w K mg base (CXM Pg w) (k+1) "_law_called" ["_law_caught"] (spM K (clK K) bI):=by
 have nd:=iU.nd;refine dL F iU fun f cdv A outer s H E hr=>?_
 have hu:=hr.units;refine aE ?_ ?_
 · exact(dQ (aHf (m_v 0))
    (aQ (cQ (cD aF)))
    dB)
 refine aE ?_ ?_
 · exact(bN (i:=1) nd rfl (Or.inl rfl) (cD (aA (fL (c:=some .NotAlike) XT.tab rfl B.isinstance_ (m_v 0) (cR rfl (XT.nm .NotAlike) rfl)) (aA (fL (c:=some .BadCount) XT.tab rfl B.isinstance_ (m_v 0) (cR rfl (XT.nm .BadCount) rfl)) (aA (fL (c:=some .BadRow) XT.tab rfl B.isinstance_ (m_v 0) (cR rfl (XT.nm .BadRow) rfl)) aF)))))
 refine aE ?_ ?_
 · exact(bN (i:=1) nd rfl (Or.inl rfl) (fU (m_v 1) (cD (aA (fL (c:=some .OtherSpace) XT.tab rfl B.isinstance_ (m_v 0) (cR rfl (XT.nm .OtherSpace) rfl)) (aA (fL (c:=some .BadSize) XT.tab rfl B.isinstance_ (m_v 0) (cR rfl (XT.nm .BadSize) rfl)) (aA (fL (c:=some .BadPlaces) XT.tab rfl B.isinstance_ (m_v 0) (cR rfl (XT.nm .BadPlaces) rfl)) aF))))))
 refine aE ?_ ?_
 · exact(bN (i:=1) nd rfl (Or.inl rfl) (fU (m_v 1) (cD (aA (fL (c:=some .ZeroSum) XT.tab rfl B.isinstance_ (m_v 0) (cR rfl (XT.nm .ZeroSum) rfl)) (aA (fL (c:=some .BadTable) XT.tab rfl B.isinstance_ (m_v 0) (cR rfl (XT.nm .BadTable) rfl)) (aA (fL (c:=some .NoLine) XT.tab rfl B.isinstance_ (m_v 0) (cR rfl (XT.nm .NoLine) rfl)) aF))))))
 refine aE ?_ ?_
 · exact(bN (i:=1) nd rfl (Or.inl rfl) (fU (m_v 1) (cD (aA (fL (c:=some .BadName) XT.tab rfl B.isinstance_ (m_v 0) (cR rfl (XT.nm .BadName) rfl)) (aA (fL (c:=some .NoRow) XT.tab rfl B.isinstance_ (m_v 0) (cR rfl (XT.nm .NoRow) rfl)) (aA (fL (c:=some .NoName) XT.tab rfl B.isinstance_ (m_v 0) (cR rfl (XT.nm .NoName) rfl)) aF))))))
 refine aE ?_ ?_
 · exact(bN (i:=1) nd rfl (Or.inl rfl) (fU (m_v 1) (cD (aA (fL (c:=some .BadRows) XT.tab rfl B.isinstance_ (m_v 0) (cR rfl (XT.nm .BadRows) rfl)) (aA (fL (c:=some .NoBox) XT.tab rfl B.isinstance_ (m_v 0) (cR rfl (XT.nm .NoBox) rfl)) aF)))))
 refine aE ?_ ?_
 · refine bN (i:=2) ?a ?b ?c ?d ?e ?f
   case a=>exact nd
   case b=>exact rfl
   case c=>exact(Or.inl rfl)
   case d=>exact(cD (aA dP (aA dP (aA dP (aA dP (aA dP (aA dP (aA dP (aA dP (aA dP (aA dP (aA dP aF))))))))))))
   case e=>rfl
   case f=>first | exact .inl rfl | exact .inr rfl | assumption
 refine aE ?_ ?_
 · exact(bN (i:=2) nd rfl (Or.inl rfl) (fU (m_v 2) (cD (aA dP (aA dP (aA dP aF))))))
 refine aE ?_ ?_
 · exact(mV (i:=3) rfl nd rfl rfl (bG (XN:=["_law_caught","_law_some","_law_names","_law_found"]) (N:=["_law_name","_law_truth"]) (k:=2) (fs:=[]) rfl rfl rfl (by decide +kernel)) (wE rfl rfl B.zip_ (m_v 2) (m_v 1)) (fun _ _ _=>(qA rfl (cO (cA (show (["_law_name","_law_truth"]:List Str).Nodup by decide +kernel) rfl (Or.inl rfl)) (cO (cA (show (["_law_name","_law_truth"]:List Str).Nodup by decide +kernel) rfl (Or.inl rfl)) iW)))) (iC rfl) (fun _ _ _=>aAu (uU (m_v 1)) (m_v 0)))
 refine aE ?_ ?_
 · exact(dQ (uU (fL (c:=none) XT.tab rfl B.isinstance_ (m_v 0) (xS (v:=.ty "ValueError") rfl B.ValueError_ (by decide +kernel) rfl)))
    (aQ (cQ (m_v 3)))
    dB)
 refine aQ ?_
 exact(cQ (cD (aA dP aF)))
abbrev fV:Stmt:=top 34
theorem jY:FnScope ["_law_script","_law_k"] ["_law_script","_law_k"] (aM fV):=⟨rfl,rfl,rfl,by decide +kernel,rfl,by decide +kernel,by decide +kernel⟩
def uK:FS :=
 (aP (ifS (bT (ltE (vE 1) (dF (vE 0))))
  (bF (dO (bA (vE 0) (vE 1)) (cE (.int 2147483647))))
  bZ)
 (bF (cE (.int 0))))
def aV:Φ:=bY 2 2 uK
theorem cP (B:Blt mg)(XT:XAll K mg T)  (F:bR K mg "_law_cell" fV ["_law_script","_law_k"]):aN Pg w K mg base (CXM Pg w) (k+1) "_law_cell" ["_law_script","_law_k"] (spM K (clK K) aV):=by
 have nd:=jY.nd;refine dL F jY fun f cdv A outer s H E hr=>?_
 have hu:=hr.units
 exact(aE (dQ (aBy (m_v 1) (lW rfl B.len_ (m_v 0)))
  (aQ (cQ (iF (cV (m_v 0) (m_v 1)) aT)))
  dB)
  (aQ (cQ aT)))
abbrev eZ:Stmt:=top 35
theorem jK:FnScope ["_law_which","_law_many","_law_rows","_law_ends","_law_caught","e"] ["_law_which","_law_many","_law_rows","_law_ends"] (aM eZ):=⟨rfl,rfl,rfl,by decide +kernel,rfl,by decide +kernel,by decide +kernel⟩
def kT:FS :=
 (aP (aO 4 (cE .non))
 (aP (yB 4 5
  (ifS (bT (eqE (vE 0) (cE (.int 0))))
   (dH (aG eP [vE 1,vE 2,vE 3]))
   (dH (aG lU [vE 1,vE 2,vE 3]))))
 (bF (aG bI [vE 4]))))
def aK:Φ:=bY 4 6 kT
theorem cS (B:Blt mg)(XT:XAll K mg T)(iJ:aN Pg w K mg base (CXM Pg w) k "answer" ["many","rows","ends"] (spM K (clK K) eP))(sJ:aN Pg w K mg base (CXM Pg w) k "bar" ["many","rows","ends"] (spM K (clK K) lU))(gJ:aN Pg w K mg base (CXM Pg w) k "_law_called" ["_law_caught"] (spM K (clK K) bI))(F:bR K mg "_law_flags" eZ ["_law_which","_law_many","_law_rows","_law_ends"]):aN Pg w K mg base (CXM Pg w) (k+1) "_law_flags" ["_law_which","_law_many","_law_rows","_law_ends"] (spM K (clK K) aK):=by
 have nd:=jK.nd;refine dL F jK fun f cdv A outer s H E hr=>?_
 have hu:=hr.units
 exact(aE (bN (i:=4) nd rfl (Or.inl rfl) wH)
  (aE (aH7 (i:=4) (k:=5) rfl rfl rfl XT.top rfl XT.flat nd rfl rfl (by decide) rfl rfl rfl fun pn xe P thT paT =>
   (aQ (dQ (xQ hu (m_v 0) aT)
    (aQ (jU (bL iJ hr rfl thT (aA (m_v 1) (aA (m_v 2) (aA (m_v 3) aF))))))
    (aQ (jU (bL sJ hr rfl thT (aA (m_v 1) (aA (m_v 2) (aA (m_v 3) aF)))))))))
  (aQ (cQ (bL gJ hr rfl eV (aA (m_v 4) aF))))))
abbrev eU:Stmt:=top 36
theorem jJ:FnScope ["_law_which","_law_many","_law_rows","_law_ends","_law_found","e"] ["_law_which","_law_many","_law_rows","_law_ends"] (aM eU):=⟨rfl,rfl,rfl,by decide +kernel,rfl,by decide +kernel,by decide +kernel⟩
def kL:FS :=
 (aP (aO 4 (cE .non))
 (aP (aAn .BadRows 4 5
  (ifS (bT (eqE (vE 0) (cE (.int 0))))
   (dH (aG eP [vE 1,vE 2,vE 3]))
   (dH (aG lU [vE 1,vE 2,vE 3]))))
 (bF (vE 4))))
def cT:Φ:=bY 4 6 kL
theorem hJ (B:Blt mg)(XT:XAll K mg T)(UP:PlX Pg w K mg base T)(iJ:aN Pg w K mg base (CXM Pg w) k "answer" ["many","rows","ends"] (spM K (clK K) eP))(sJ:aN Pg w K mg base (CXM Pg w) k "bar" ["many","rows","ends"] (spM K (clK K) lU))(F:bR K mg "_law_place" eU ["_law_which","_law_many","_law_rows","_law_ends"]):aN Pg w K mg base (CXM Pg w) (k+1) "_law_place" ["_law_which","_law_many","_law_rows","_law_ends"] (spM K (clK K) cT):=by
 have nd:=jJ.nd;refine dL F jJ fun f cdv A outer s H E hr=>?_
 have hu:=hr.units
 exact(aE (bN (i:=4) nd rfl (Or.inl rfl) wH)
  (aE (aGs (c:=.BadRows) (T:=T) (i:=4) (k:=5) rfl rfl rfl UP.hit UP.xf (XT.tab.cl .BadRows) rfl (XT.nm .BadRows) nd rfl rfl (by decide) rfl rfl rfl fun pn xe P thT paT =>
   (aQ (dQ (xQ hu (m_v 0) aT)
    (aQ (jU (bL iJ hr rfl thT (aA (m_v 1) (aA (m_v 2) (aA (m_v 3) aF))))))
    (aQ (jU (bL sJ hr rfl thT (aA (m_v 1) (aA (m_v 2) (aA (m_v 3) aF)))))))))
  (aQ (cQ (m_v 4)))))
abbrev oB:Stmt:=top 37
theorem aA3:FnScope ["_law_script","_law_ways","_law_many","_law_rows","_law_ends","_law_cell_here","_law_fewer","_law_bad","_law_place_here","_law_count","_law_handed","_law_which","_law_found"] ["_law_script"] (aM oB):=⟨rfl,rfl,rfl,by decide +kernel,rfl,by decide +kernel,by decide +kernel⟩
def aFy:FS :=
 (aP (aO 1 (eW (cE (.int 1)) (dO (aG aV [vE 0,cE (.int 0)]) (cE (.int 5)))))
 (aP (aO 2 (dO (aG aV [vE 0,cE (.int 1)]) (cE (.int 7))))
 (aP (aO 3 (bB (dE (vE 2)) 1 [1,0] (.nm 0) (bE (bB (dE (vE 1)) 1 [2,0] (.nm 0) (bE (oW (dO (aG aV [vE 1,eW (eW (cE (.int 4)) (vE 2)) (vE 0)]) (cE (.int 7))) (cE (.int 3))))))))
 (aP (aO 4 (bB (dE (vE 2)) 1 [0] (.nm 0) (bE (oW (dO (aG aV [vE 1,eW (cE (.int 20)) (vE 0)]) (cE (.int 9))) (cE (.int 4))))))
 (aP (aO 5 (aG aV [vE 0,cE (.int 2)]))
 (aP (aO 6 (bA (aX [dX (vE 4) (aX [cE (.int 1)]),fP (vE 4) (noO) (soO (gN (cE (.int 1)))),dX (vE 4) (aX [cE (.int 0),cE (.int 0)])]) (dO (vE 5) (cE (.int 3)))))
 (aP (aO 7 (bB (dY (vE 3)) 1 [] (.nm 0) (bE (lJ (vE 0)))))
 (aP (aO 8 (dO (gI (vE 5) (cE (.int 3))) (aBf (vE 2) (cE (.int 1)))))
 (aP (ifS (bT (gtE (vE 2) (cE (.int 0))))
  (mC 7 (vE 8) (bA (aX [dX (bA (vE 7) (vE 8)) (aX [dO (vE 5) (cE (.int 5))]),fP (bA (vE 7) (vE 8)) (noO) (soO (gN (cE (.int 1))))]) (dO (gI (vE 5) (cE (.int 30))) (cE (.int 2)))))
  bZ)
 (aP (aO 9 (bA (aX [cE (.int 0),cE (.int 6),oW (gN (cE (.int 1))) (nA (vE 5) (yH (cE (.int 10)) (cE (.int 48)))),eW (cE (.int 6)) (nA (vE 5) (yH (cE (.int 10)) (cE (.int 48))))]) (dO (aG aV [vE 0,cE (.int 3)]) (cE (.int 4)))))
 (aP (aO 10 (aX [bB (dY (vE 7)) 1 [] (.nm 0) (bE (lJ (vE 0))),lJ (vE 6)]))
 (aP (gL (dE (cE (.int 2))) (.nm 11)
  (aP (ifS (bT (neE (aG aK [vE 11,vE 9,bA (vE 10) (cE (.int 0)),bA (vE 10) (cE (.int 1))]) (aX [cE (.str "count")])))
   (bF (cE (.bl false)))
   bZ)
  (aP (ifS (bT (gtE (vE 2) (cE (.int 0))))
   (aP (ifS (bT (neE (aG aK [vE 11,vE 1,bA (vE 10) (cE (.int 0)),bA (vE 10) (cE (.int 1))]) (aX [cE (.str "rows")])))
    (bF (cE (.bl false)))
    bZ)
   (aP (aO 12 (aG cT [vE 11,vE 1,bA (vE 10) (cE (.int 0)),vE 4]))
   (aP (ifS (orT (bT (zZ .bool (vE 12))) (bT (neE (vE 12) (vE 8))))
    (bF (cE (.bl false)))
    bZ)
   (ifS (bT (neE (aG aK [vE 11,vE 1,vE 3,vE 6]) (aX [cE (.str "alike")])))
    (bF (cE (.bl false)))
    bZ))))
   (ifS (bT (neE (aG aK [vE 11,vE 1,aX [],aX [cE (.int 1)]]) (aX [cE (.str "alike")])))
    (bF (cE (.bl false)))
    bZ))
  (ifS (bT (neE (aG aK [vE 11,vE 1,vE 3,vE 4]) (aX [])))
   (bF (cE (.bl false)))
   bZ))))
 (fO 7 (bF (eqE (vE 10) (aX [vE 7,vE 6]))))))))))))))))
def pH:Φ:=bY 1 13 aFy
theorem aJt (B:Blt mg)(XT:XAll K mg T)(cP:aN Pg w K mg base (CXM Pg w) k "_law_cell" ["_law_script","_law_k"] (spM K (clK K) aV))(cS:aN Pg w K mg base (CXM Pg w) k "_law_flags" ["_law_which","_law_many","_law_rows","_law_ends"] (spM K (clK K) aK))(hJ:aN Pg w K mg base (CXM Pg w) k "_law_place" ["_law_which","_law_many","_law_rows","_law_ends"] (spM K (clK K) cT)){fa:Addr}{fd:FuncData}(F:Fun K "law" "law" oB fa fd):FnOk Pg w K mg base (CXM Pg w) (k+1) fa fd ["_law_script"] (spM K (clK K) pH):=by
 have nd:=aA3.nd;refine aE9 F aA3 fun f cdv A outer s H E hr=>?_
 have hu:=hr.units
 exact(aE (bN (i:=1) nd rfl (Or.inr rfl) (nU aT (iF (bL cP hr rfl eV (aA (m_v 0) (aA aT aF))) aT)))
  (aE (bN (i:=2) nd rfl (Or.inl rfl) (iF (bL cP hr rfl eV (aA (m_v 0) (aA aT aF))) aT))
  (aE (mV (i:=3) rfl nd rfl rfl (bG (XN:=["_law_script","_law_ways","_law_many","_law_rows","_law_ends","_law_cell_here","_law_fewer","_law_bad","_law_place_here","_law_count","_law_handed","_law_which","_law_found"]) (N:=["_law_k","_law_ways","_law_script"]) (k:=1) (fs:=[1,0]) rfl rfl rfl (by decide +kernel)) (gX rfl B.range_ (m_v 2)) (fun _ _ _=>(cA (show (["_law_k","_law_ways","_law_script"]:List Str).Nodup by decide +kernel) rfl (Or.inr rfl))) (iC rfl) (fun _ _ _=>eA (eR rfl (lM (N:=["_law_j","_law_script","_law_k"]) (k:=1) (fs:=[2,0]) (bG (XN:=["_law_script","_law_ways","_law_many","_law_rows","_law_ends","_law_cell_here","_law_fewer","_law_bad","_law_place_here","_law_count","_law_handed","_law_which","_law_found"]) (N:=["_law_k","_law_ways","_law_script"]) (k:=1) (fs:=[1,0]) rfl rfl rfl (by decide +kernel)) (by decide +kernel)) (gX rfl B.range_ (m_v 1)) (fun _ _ _=>(cA (show (["_law_j","_law_script","_law_k"]:List Str).Nodup by decide +kernel) rfl (Or.inl rfl))) (iC rfl) (fun _ _ _=>eA (wJ (iF (bL cP hr rfl aKd (aA (m_v 1) (aA (nU (nU aT (m_v 2)) (m_v 0)) aF))) aT) aT)))))
  (aE (mV (i:=4) rfl nd rfl rfl (bG (XN:=["_law_script","_law_ways","_law_many","_law_rows","_law_ends","_law_cell_here","_law_fewer","_law_bad","_law_place_here","_law_count","_law_handed","_law_which","_law_found"]) (N:=["_law_k","_law_script"]) (k:=1) (fs:=[0]) rfl rfl rfl (by decide +kernel)) (gX rfl B.range_ (m_v 2)) (fun _ _ _=>(cA (show (["_law_k","_law_script"]:List Str).Nodup by decide +kernel) rfl (Or.inl rfl))) (iC rfl) (fun _ _ _=>eA (wJ (iF (bL cP hr rfl aKd (aA (m_v 1) (aA (nU aT (m_v 0)) aF))) aT) aT)))
  (aE (bN (i:=5) nd rfl (Or.inl rfl) (bL cP hr rfl eV (aA (m_v 0) (aA aT aF))))
  (aE (bN (i:=6) nd rfl (Or.inl rfl) (cV (cD (aA (fU (m_v 4) (cD (aA aT aF))) (aA (nG (m_v 4) pJ (lY (sR aT))) (aA (fU (m_v 4) (cD (aA aT (aA aT aF)))) aF)))) (iF (m_v 5) aT)))
  (aE (mV (i:=7) rfl nd rfl rfl (bG (XN:=["_law_script","_law_ways","_law_many","_law_rows","_law_ends","_law_cell_here","_law_fewer","_law_bad","_law_place_here","_law_count","_law_handed","_law_which","_law_found"]) (N:=["_law_row"]) (k:=1) (fs:=[]) rfl rfl rfl (by decide +kernel)) (hG (m_v 3)) (fun _ _ _=>(cA (show (["_law_row"]:List Str).Nodup by decide +kernel) rfl (Or.inl rfl))) (iC rfl) (fun _ _ _=>eA (xZ rfl B.list_ (m_v 0))))
  (aE (bN (i:=8) nd rfl (Or.inl rfl) (iF (uB (m_v 5) aT) (aKc rfl rfl B.max_ (m_v 2) aT)))
  (aE (dQ (aAo (m_v 2) aT)
   (aQ (aFq (i:=7) rfl (Or.inl rfl) (m_v 8) (cV (cD (aA (fU (cV (m_v 7) (m_v 8)) (cD (aA (iF (m_v 5) aT) aF))) (aA (nG (cV (m_v 7) (m_v 8)) pJ (lY (sR aT))) aF))) (iF (uB (m_v 5) aT) aT))))
   dB)
  (aE (bN (i:=9) nd rfl (Or.inl rfl) (cV (cD (aA aT (aA aT (aA (wJ (sR aT) (wQ (m_v 5) (aFk aT aT))) (aA (nU aT (wQ (m_v 5) (aFk aT aT))) aF))))) (iF (bL cP hr rfl eV (aA (m_v 0) (aA aT aF))) aT)))
  (aE (bN (i:=10) nd rfl (Or.inl rfl) (cD (aA (eR rfl (bG (XN:=["_law_script","_law_ways","_law_many","_law_rows","_law_ends","_law_cell_here","_law_fewer","_law_bad","_law_place_here","_law_count","_law_handed","_law_which","_law_found"]) (N:=["_law_row"]) (k:=1) (fs:=[]) rfl rfl rfl (by decide +kernel)) (hG (m_v 7)) (fun _ _ _=>(cA (show (["_law_row"]:List Str).Nodup by decide +kernel) rfl (Or.inl rfl))) (iC rfl) (fun _ _ _=>eA (xZ rfl B.list_ (m_v 0)))) (aA (xZ rfl B.list_ (m_v 6)) aF))))
  (aE (pI nQ rfl (gX rfl B.range_ aT) (cA nd rfl (Or.inl rfl))
   (aE (dQ (iI hu (bL cS hr rfl eV (aA (m_v 11) (aA (m_v 9) (aA (cV (m_v 10) aT) (aA (cV (m_v 10) aT) aF))))) (cD (aA dP aF)))
    (aQ (cQ yO))
    dB)
   (aE (dQ (aAo (m_v 2) aT)
    (aE (dQ (iI hu (bL cS hr rfl eV (aA (m_v 11) (aA (m_v 1) (aA (cV (m_v 10) aT) (aA (cV (m_v 10) aT) aF))))) (cD (aA dP aF)))
     (aQ (cQ yO))
     dB)
    (aE (bN (i:=12) nd rfl (Or.inl rfl) (bL hJ hr rfl eV (aA (m_v 11) (aA (m_v 1) (aA (cV (m_v 10) aT) (aA (m_v 4) aF))))))
    (aE (dQ (PW.pt (aF6 (uU (aJ2 (t:=.bool) rfl B.isinstance_ (m_v 12) (xS (v:=.ty "bool") rfl B.bool_ (by decide +kernel) rfl))) (aAz (iI hu (m_v 12) (m_v 8)))))
     (aQ (cQ yO))
     dB)
    (aQ (dQ (iI hu (bL cS hr rfl eV (aA (m_v 11) (aA (m_v 1) (aA (m_v 3) (aA (m_v 6) aF))))) (cD (aA dP aF)))
     (aQ (cQ yO))
     dB)))))
    (aQ (dQ (iI hu (bL cS hr rfl eV (aA (m_v 11) (aA (m_v 1) (aA (cD aF) (aA (cD (aA aT aF)) aF))))) (cD (aA dP aF)))
     (aQ (cQ yO))
     dB)))
   (aQ (dQ (iI hu (bL cS hr rfl eV (aA (m_v 11) (aA (m_v 1) (aA (m_v 3) (aA (m_v 4) aF))))) (cD aF))
    (aQ (cQ yO))
    dB)))))
  (aQ (mT (i:=7) (cQ (aL5 hu (m_v 10) (cD (aA (m_v 7) (aA (m_v 6) aF)))))))))))))))))))
end
theorem all_mk {l:PySem.W.OpenLaw}{w:World}{K:PySem.W.Frag}{h:Heap}{mg:Str->Option Value}{fa T:Addr}(X:K.In h)(G:h.Ns mainGlobals mg)(hfa:mg "law" = some (.ref fa))(XT:XAll K mg T)
 {f0:Addr} {oc0 kV0 dc0 pm0 cd0 ct0:Value} {od0 an0:Option Addr} {sl0:Array (Option Value)} (a0:At K "check_alike" eJ f0 oc0 kV0 dc0 pm0 cd0 ct0 od0 an0 sl0)
 {f1:Addr} {oc1 kV1 dc1 pm1 cd1 ct1:Value} {od1 an1:Option Addr} {sl1:Array (Option Value)} (a1:At K "check_count" eK f1 oc1 kV1 dc1 pm1 cd1 ct1 od1 an1 sl1)
 {f2:Addr} {oc2 kV2 dc2 pm2 cd2 ct2:Value} {od2 an2:Option Addr} {sl2:Array (Option Value)} (a2:At K "check_rows" eX f2 oc2 kV2 dc2 pm2 cd2 ct2 od2 an2 sl2)
 {f3:Addr} {oc3 kV3 dc3 pm3 cd3 ct3:Value} {od3 an3:Option Addr} {sl3:Array (Option Value)} (a3:At K "units" mP f3 oc3 kV3 dc3 pm3 cd3 ct3 od3 an3 sl3)
 {f4:Addr} {oc4 kV4 dc4 pm4 cd4 ct4:Value} {od4 an4:Option Addr} {sl4:Array (Option Value)} (a4:At K "common_divisor" dG f4 oc4 kV4 dc4 pm4 cd4 ct4 od4 an4 sl4)
 {f5:Addr} {oc5 kV5 dc5 pm5 cd5 ct5:Value} {od5 an5:Option Addr} {sl5:Array (Option Value)} (a5:At K "lowest" kO f5 oc5 kV5 dc5 pm5 cd5 ct5 od5 an5 sl5)
 {f6:Addr} {oc6 kV6 dc6 pm6 cd6 ct6:Value} {od6 an6:Option Addr} {sl6:Array (Option Value)} (a6:At K "swept" mQ f6 oc6 kV6 dc6 pm6 cd6 ct6 od6 an6 sl6)
 {f7:Addr} {oc7 kV7 dc7 pm7 cd7 ct7:Value} {od7 an7:Option Addr} {sl7:Array (Option Value)} (a7:At K "cleared" jB f7 oc7 kV7 dc7 pm7 cd7 ct7 od7 an7 sl7)
 {f8:Addr} {oc8 kV8 dc8 pm8 cd8 ct8:Value} {od8 an8:Option Addr} {sl8:Array (Option Value)} (a8:At K "cleared_equations" cL f8 oc8 kV8 dc8 pm8 cd8 ct8 od8 an8 sl8)
 {f9:Addr} {oc9 kV9 dc9 pm9 cd9 ct9:Value} {od9 an9:Option Addr} {sl9:Array (Option Value)} (a9:At K "barred_lines" dZ f9 oc9 kV9 dc9 pm9 cd9 ct9 od9 an9 sl9)
 {f10:Addr} {oc10 kV10 dc10 pm10 cd10 ct10:Value} {od10 an10:Option Addr} {sl10:Array (Option Value)} (a10:At K "answer" kJ f10 oc10 kV10 dc10 pm10 cd10 ct10 od10 an10 sl10)
 {f11:Addr} {oc11 kV11 dc11 pm11 cd11 ct11:Value} {od11 an11:Option Addr} {sl11:Array (Option Value)} (a11:At K "bar" xG f11 oc11 kV11 dc11 pm11 cd11 ct11 od11 an11 sl11)
 {f12:Addr} {oc12 kV12 dc12 pm12 cd12 ct12:Value} {od12 an12:Option Addr} {sl12:Array (Option Value)} (a12:At K "_law_called" eL f12 oc12 kV12 dc12 pm12 cd12 ct12 od12 an12 sl12)
 {f13:Addr} {oc13 kV13 dc13 pm13 cd13 ct13:Value} {od13 an13:Option Addr} {sl13:Array (Option Value)} (a13:At K "_law_cell" fV f13 oc13 kV13 dc13 pm13 cd13 ct13 od13 an13 sl13)
 {f14:Addr} {oc14 kV14 dc14 pm14 cd14 ct14:Value} {od14 an14:Option Addr} {sl14:Array (Option Value)} (a14:At K "_law_flags" eZ f14 oc14 kV14 dc14 pm14 cd14 ct14 od14 an14 sl14)
 {f15:Addr} {oc15 kV15 dc15 pm15 cd15 ct15:Value} {od15 an15:Option Addr} {sl15:Array (Option Value)} (a15:At K "_law_place" eU f15 oc15 kV15 dc15 pm15 cd15 ct15 od15 an15 sl15)
 {f16:Addr} {oc16 kV16 dc16 pm16 cd16 ct16:Value} {od16 an16:Option Addr} {sl16:Array (Option Value)} (a16:At K "law" oB f16 oc16 kV16 dc16 pm16 cd16 ct16 od16 an16 sl16)
 {C1 i1:Addr} {ocX1 kVX1 dcX1 pmX1 cdX1 ctX1:Value} {odX1 anX1:Option Addr} {slX1:Array (Option Value)} (r1:ORaw K 1 C1 i1) (na10:Aq K (.ref C1) "bottom" = some none) (na11:Aq K (.ref C1) "heads" = some none) (na12:Aq K (.ref C1) "lines" = some none)
 (lX1:K.lookup i1=some ⟨ocX1,odX1,.func (Cb "__init__" "Cleared.__init__" (eN fC) (cX fC) (aM fC) .none kVX1 dcX1 pmX1 anX1 cdX1 ctX1),slX1⟩) (cX1:Da K cdX1 "Cleared.__init__" = true) (kX1:Ci K (.ref i1)=true)
 {CB iB:Addr} {ocB kVB dcB pmB cdB ctB:Value} {odB anB odC:Option Addr} {slB slC:Array (Option Value)} {cC:ClassData} (rB:PRaw K T CB iB odC cC slC)
 (lB:K.lookup iB=some ⟨ocB,odB,.func (Cb "__init__" "BadRows.__init__" (eN fD) (cX fD) (aM fD) .none kVB dcB pmB anB cdB ctB),slB⟩) (fB:ocB=.type "function") (cB:Da K cdB "BadRows.__init__" = true) (kB:Ci K (.ref iB)=true)
 (z_len:Ay K mainGlobals "len" = some none)
 (z_enumerate:Ay K mainGlobals "enumerate" = some none)
 (z_range:Ay K mainGlobals "range" = some none)
 (z_abs:Ay K mainGlobals "abs" = some none)
 (z_zip:Ay K mainGlobals "zip" = some none)
 (z_list:Ay K mainGlobals "list" = some none)
 (z_isinstance:Ay K mainGlobals "isinstance" = some none)
 (z_ValueError:Ay K mainGlobals "ValueError" = some none)
 (z_max:Ay K mainGlobals "max" = some none)
 (z_bool:Ay K mainGlobals "bool" = some none)
 {t_MOST_WAYS:Tok} (g_MOST_WAYS:Ay K mainGlobals "MOST_WAYS" = some (some (.int 5 t_MOST_WAYS)))
:∃ fd:FuncData,(∀ (s:Shared) (v:Value),BindsTo s fd ⟨[v],[]⟩ [("_law_script",v)])/\∀ base:Heap,K.In base->base.Ns mainGlobals mg->FnOk l.prog w K mg base (CXM l.prog w) 7 fa fd ["_law_script"] (spM K (clK K) pH):=by
 have B:Blt mg:=⟨Bq X G z_len,Bq X G z_enumerate,Bq X G z_range,Bq X G z_abs,Bq X G z_zip,Bq X G z_list,Bq X G z_isinstance,Bq X G z_ValueError,Bq X G z_max,Bq X G z_bool,⟨_,Dw X G g_MOST_WAYS⟩⟩;have oX:bR K mg "check_alike" eJ ["one","other"]:=bU X G a0.ns a0.lk a0.cd a0.kp fun _ _ _ _ _ _ us hl=>match us,hl with | [_,_],_=>rfl
 have oU:bR K mg "check_count" eK ["many"]:=bU X G a1.ns a1.lk a1.cd a1.kp fun _ _ _ _ _ _ us hl=>match us,hl with | [_],_=>rfl
 have rA:bR K mg "check_rows" eX ["many","rows"]:=bU X G a2.ns a2.lk a2.cd a2.kp fun _ _ _ _ _ _ us hl=>match us,hl with | [_,_],_=>rfl
 have kX:bR K mg "units" mP ["many"]:=bU X G a3.ns a3.lk a3.cd a3.kp fun _ _ _ _ _ _ us hl=>match us,hl with | [_],_=>rfl
 have lD:bR K mg "common_divisor" dG ["numbers"]:=bU X G a4.ns a4.lk a4.cd a4.kp fun _ _ _ _ _ _ us hl=>match us,hl with | [_],_=>rfl
 have aCl:bR K mg "lowest" kO ["bottom","tops"]:=bU X G a5.ns a5.lk a5.cd a5.kp fun _ _ _ _ _ _ us hl=>match us,hl with | [_,_],_=>rfl
 have mO:bR K mg "swept" mQ ["rows","top","way","bottom"]:=bU X G a6.ns a6.lk a6.cd a6.kp fun _ _ _ _ _ _ us hl=>match us,hl with | [_,_,_,_],_=>rfl
 have gR:bR K mg "cleared" jB ["many","rows"]:=bU X G a7.ns a7.lk a7.cd a7.kp fun _ _ _ _ _ _ us hl=>match us,hl with | [_,_],_=>rfl
 have jG:bR K mg "cleared_equations" cL ["many","rows","ends"]:=bU X G a8.ns a8.lk a8.cd a8.kp fun _ _ _ _ _ _ us hl=>match us,hl with | [_,_,_],_=>rfl
 have nC:bR K mg "barred_lines" dZ ["many","found"]:=bU X G a9.ns a9.lk a9.cd a9.kp fun _ _ _ _ _ _ us hl=>match us,hl with | [_,_],_=>rfl
 have aAl:bR K mg "answer" kJ ["many","rows","ends"]:=bU X G a10.ns a10.lk a10.cd a10.kp fun _ _ _ _ _ _ us hl=>match us,hl with | [_,_,_],_=>rfl
 have lX:bR K mg "bar" xG ["many","rows","ends"]:=bU X G a11.ns a11.lk a11.cd a11.kp fun _ _ _ _ _ _ us hl=>match us,hl with | [_,_,_],_=>rfl
 have oJ:bR K mg "_law_called" eL ["_law_caught"]:=bU X G a12.ns a12.lk a12.cd a12.kp fun _ _ _ _ _ _ us hl=>match us,hl with | [_],_=>rfl
 have uG:bR K mg "_law_cell" fV ["_law_script","_law_k"]:=bU X G a13.ns a13.lk a13.cd a13.kp fun _ _ _ _ _ _ us hl=>match us,hl with | [_,_],_=>rfl
 have rE:bR K mg "_law_flags" eZ ["_law_which","_law_many","_law_rows","_law_ends"]:=bU X G a14.ns a14.lk a14.cd a14.kp fun _ _ _ _ _ _ us hl=>match us,hl with | [_,_,_,_],_=>rfl
 have rH:bR K mg "_law_place" eU ["_law_which","_law_many","_law_rows","_law_ends"]:=bU X G a15.ns a15.lk a15.cd a15.kp fun _ _ _ _ _ _ us hl=>match us,hl with | [_,_,_,_],_=>rfl
 have e:=hfa.symm.trans (Dw X G a16.ns);cases e;refine⟨Cb "law" "law" (eN oB) (cX oB) (aM oB) .none kV16 dc16 pm16 an16 cd16 ct16,fun s v=>.of_eq rfl,fun base _ _=>?_⟩
 have O1:OC K 1:=r1.oc1 na10 na11 na12;have FX1:=rK (st:=fC) lX1 cX1 kX1;have U1:xC l.prog w K mg base 1 1:=r1.mkr X G (yE O1 FX1) (FX1.binds (ps:="self" :: cY 1) fun _ _ _ _ _ _ us hl=>match us,hl with | [_,_,_,_],_=>rfl)
 have FB:=rK (st:=fD) lB cB kB;have UP:PlX l.prog w K mg base T:=rB.plx lB fB (yP rB.xf FB) (FB.binds (ps:=["self","place"]) fun _ _ _ _ _ _ us hl=>match us,hl with | [_,_],_=>rfl)
 have oM:L2.aN l.prog w K mg base (CXM l.prog w) 1 "check_alike" ["one","other"] (spM K (clK K) bX):=gK (k:=0) B XT  oX;have oY:L2.aN l.prog w K mg base (CXM l.prog w) 1 "check_count" ["many"] (spM K (clK K) bP):=gF (k:=0) B XT  oU;have qV:L2.aN l.prog w K mg base (CXM l.prog w) 3 "check_rows" ["many","rows"] (spM K (clK K) bV):=hU (k:=2) B XT UP (by decide) (oY.mono (by decide)) rA
 have aCv:L2.aN l.prog w K mg base (CXM l.prog w) 1 "units" ["many"] (spM K (clK K) kH):=qH (k:=0) B XT  kX;have gO:L2.aN l.prog w K mg base (CXM l.prog w) 1 "common_divisor" ["numbers"] (spM K (clK K) aZ):=cN (k:=0) B XT  lD;have zU:L2.aN l.prog w K mg base (CXM l.prog w) 2 "lowest" ["bottom","tops"] (spM K (clK K) fH):=nP (k:=1) B XT (gO.mono (by decide)) aCl
 have aD3:L2.aN l.prog w K mg base (CXM l.prog w) 1 "swept" ["rows","top","way","bottom"] (spM K (clK K) kW):=rO (k:=0) B XT  mO;have zD:L2.aN l.prog w K mg base (CXM l.prog w) 3 "cleared" ["many","rows"] (spM K (clK K) fF):=lA (k:=2) B XT O1 U1 (by decide) (aD3.mono (by decide)) gR
 have eT:L2.aN l.prog w K mg base (CXM l.prog w) 4 "cleared_equations" ["many","rows","ends"] (spM K (clK K) aC):=bS (k:=3) B XT (qV.mono (by decide)) (oM.mono (by decide)) (zD.mono (by decide)) (aCv.mono (by decide)) jG
 have iK:L2.aN l.prog w K mg base (CXM l.prog w) 1 "barred_lines" ["many","found"] (spM K (clK K) aY):=dC (k:=0) B XT O1   nC;have tW:L2.aN l.prog w K mg base (CXM l.prog w) 5 "answer" ["many","rows","ends"] (spM K (clK K) eP):=iJ (k:=4) B XT O1  (eT.mono (by decide)) (iK.mono (by decide)) (zU.mono (by decide)) aAl
 have aFg:L2.aN l.prog w K mg base (CXM l.prog w) 5 "bar" ["many","rows","ends"] (spM K (clK K) lU):=sJ (k:=4) B XT (eT.mono (by decide)) (iK.mono (by decide)) (gO.mono (by decide)) lX
 have pA:L2.aN l.prog w K mg base (CXM l.prog w) 1 "_law_called" ["_law_caught"] (spM K (clK K) bI):=gJ (k:=0) B XT  oJ;have sM:L2.aN l.prog w K mg base (CXM l.prog w) 1 "_law_cell" ["_law_script","_law_k"] (spM K (clK K) aV):=cP (k:=0) B XT  uG;have qZ:L2.aN l.prog w K mg base (CXM l.prog w) 6 "_law_flags" ["_law_which","_law_many","_law_rows","_law_ends"] (spM K (clK K) aK):=cS (k:=5) B XT (tW.mono (by decide)) (aFg.mono (by decide)) (pA.mono (by decide)) rE
 have qS:L2.aN l.prog w K mg base (CXM l.prog w) 6 "_law_place" ["_law_which","_law_many","_law_rows","_law_ends"] (spM K (clK K) cT):=hJ (k:=5) B XT UP (tW.mono (by decide)) (aFg.mono (by decide)) rH
 exact aJt (k:=6) B XT (sM.mono (by decide)) (qZ.mono (by decide)) (qS.mono (by decide)) (rK (st:=oB) a16.lk a16.cd a16.kp)
theorem walk {l:PySem.W.OpenLaw}{q:Program}{loose:List Str}{XP:(Str->Option Value)->Heap->Prop}{YP:World->Heap->Prop}{d:DefRec}{K:Params->PySem.W.Frag}(hn:l.most=some 63)(hdf:d.params.defaults=[])(hw:∀ ns:List Int,ns.length<=63->pH [.lst (ns.map .int)]=.ok (sc (.bl true)))
 (hY:∀ (w:World) (h:Heap),YP w h->(K w.params).In h) (hL:∀ P:Params,noL (K P)=true)
 (F:∀ (w:World) (mg:Str->Option Value) (fa:Addr) (h:Heap),(K w.params).In h->h.Ns mainGlobals mg->mg d.name=some (.ref fa) ->
  ∃ fd:FuncData,(∀ (s:Shared) (u:Value),BindsTo s fd ⟨[u],[]⟩ [("_law_script",u)])/\∀ base:Heap,(K w.params).In base->base.Ns mainGlobals mg->FnOk l.prog w (K w.params) mg base (CXM l.prog w) 7 fa fd ["_law_script"] (spM (K w.params) (clK (K w.params)) pH)) :
 PySem.W.WalkO q loose XP YP l.row.toRowW d [] (fun f vs=>PySem.call f vs) :=
 L2.aEr (n:=63) (k:=7) (x:="_law_script") (CX:=fun w=>CXM l.prog w) (sp:=fun w=>spM (K w.params) (clK (K w.params)) pH) hn (by decide) hdf ⟨rfl,by decide,by decide⟩ hY F (fun w _ _ ns hl _ hS=>aHw (hL w.params) (hw ns hl) hS) fun _ _ _ _ _ ⟨_,_,_,_,_,_,_,z⟩=>z
end N83
namespace Mir
open PySem L2
theorem cI {α:Type}{xs:List α}{k:Nat}{d:α}(h:k<xs.length):xs.getD k d∈xs:=by
 rw[Ag,Ax h];exact Fj h
theorem iP {r:List Int}{w:Nat}(h:w<r.length):(li r)[w]?=some (.int (r.getD w 0)):=by
 simp[li,h,Ag]
theorem aHh {xs ys:List Int}{f g:FE}{ρ:Mir.Env}{k k':Kd}{fr fr':Bool}(h1:f ρ=.ok ⟨k,fr,.lst (li xs)⟩)(h2:g ρ=.ok ⟨k',fr',.lst (li ys)⟩):qO f g ρ=.ok ⟨k != .own&&k' != .own,fr&&fr',(xs.zip ys).map fun p=>.tup [.int p.1,.int p.2]⟩:=by
 simp only[qO,h1,h2,R.ok_bind,asL,sX]
abbrev aE0 (s:FS):FS:=ifS (bT (neE (dF (vE 0)) (dF (vE 1)))) s bZ
theorem aDa {s:FS}{xs ys:List D}(h:xs.length=ys.length):bY 2 2 (aE0 s) [.lst xs,.lst ys]=.ok (sc .non):=by
 refine vV (ρ:=[some ⟨.shr,false,.lst xs⟩,some ⟨.shr,false,.lst ys⟩]) rfl ?_
 refine(aBl (jV (gG (ds:=xs) rfl) (gG (ds:=ys) rfl))).trans ?_
 simp only[h,decide_true,Bool.not_true,Co,if_false];rfl
theorem jM {i j:Int}(h:0<j):CP i j=true:=decide_eq_true h
theorem aFi {i j:Int}(h:0<j)(h2:j.natAbs<2^250):CD i j=true:=by
 have:j.natAbs.log2<9000:=by
  by_cases z:j.natAbs=0
  · rw[z];decide
  · exact Nat.lt_trans ((Nat.log2_lt z).mpr h2) (by decide)
 unfold CD;rw[decide_eq_true h,decide_eq_true this];rfl
theorem aE1 {f g:FE}{ρ:Mir.Env}{kd kd':Kd}{fr fr':Bool}{ds:List D}{k:Int}(h1:f ρ=.ok ⟨kd,fr,.lst ds⟩)(h2:g ρ=.ok ⟨kd',fr',.int k⟩)(c:kd≠.shr/\-(2^63)<=k/\k<2^63/\ds.length*k.toNat<=sizeLine):yT f g ρ=.ok ⟨.tmp,fr,.lst (Ap k.toNat ds).flatten⟩:=by
 simp only[yT,h1,h2,R.ok_bind,asL,asI];rw[if_pos c]
theorem lI {i:Nat}{s:FS}{ρ:Mir.Env}{e:Res}(h:ρ[i]?=some (some e)):fO i s ρ=s (ρ.set i (some ⟨.shr,e.fr,e.d⟩)):=by simp only[fO,frz,h]
end Mir
namespace Sm
open Srt
abbrev Tm:=List Int×Int
def look (A:List Tm)(k:List Int):Int:=match A with
 | []=>0
 | p :: r=>if p.1=k then p.2 else look r k
def put (A:List Tm)(k:List Int)(v:Int):List Tm:=if k∈A.map (·.1) then A.map fun p=>if p.1=k then (p.1,v) else p else A++[(k,v)]
theorem zJ {A:List Tm}{k:List Int}(h:k∉A.map (·.1)):look A k=0:=by
 induction A with
 | nil=>rfl
 | cons q r ih =>
  have h':k≠q.1/\k∉r.map (·.1):=by simpa using h
  simp only[look,if_neg (Ne.symm h'.1)];exact ih h'.2
def aJj (A:List Tm):List Tm:=srt px (A.filter fun p=>p.2 != 0)
def sgn (m:Nat):Int:=1-2*((m:Int)%2)
def aE4 (p:List Int):Nat->Nat
 | 0=>0
 | j+1=>aE4 p j+((p.take j).filter fun b=>decide (p.getD j 0<b)).length
def inv (p:List Int):Nat:=aE4 p p.length
def val (t:Tm):Int:=if t.1.Nodup then sgn (inv t.1)*t.2 else 0
def key (t:Tm):List Int:=srt ix t.1
def step (A:List Tm)(t:Tm):List Tm:=put A (key t) (look A (key t)+val t)
def acc (A:List Tm)(ts:List Tm):List Tm:=ts.foldl step A
def aKq (ts:List Tm):List Tm:=aJj (acc [] ts)
end Sm
namespace Sm
open PySem L2 Mir Srt
theorem qD {α:Type}{tg:Tg}{b:FB}{fr:Bool}{ρ:Mir.Env}{inj out:α->D}{c:α->Bool}:∀ (xs:List α),(∀ x∈xs,∃ ρ1 k,tg.bind fr (inj x) ρ=.ok ρ1/\b ρ1=.ok (if c x then some ⟨k,true,out x⟩ else none)/\k≠.own)->fN tg b fr ρ (xs.map inj)=.ok (true,(xs.filter c).map out)
 | [],_=>rfl
 | x :: r,h=>by
  obtain⟨ρ1,k,h1,h2,h3⟩:=h x Af;have ih:=qD r fun y hy=>h y (Ab _ hy);cases z:c x with
  | true =>
   rw[z]at h2;simp only[Am,fN,h1,R.ok_bind,h2,if_true,Res.give,if_neg h3,ih,Db,z];rfl
  | false =>
   rw[z]at h2;simp only[Am,fN,h1,R.ok_bind,h2,Co,if_false,ih,Db,z]
theorem aA6 {α:Type}{it:FI}{tg:Tg}{b:FB}{fr st:Bool}{ρ:Mir.Env}{k:Nat}{fs:List Nat}{inj out:α->D}{c:α->Bool}{xs:List α}(hi:it ρ=.ok ⟨st,fr,xs.map inj⟩)
 (h:∀ x∈xs,∃ ρ1 k',tg.bind fr (inj x) (eG k fs ρ)=.ok ρ1/\b ρ1=.ok (if c x then some ⟨k',true,out x⟩ else none)/\k'≠.own) (hz:xs.length<=sizeLine):bB it k fs tg b ρ=.ok ⟨.tmp,true,.lst ((xs.filter c).map out)⟩:=by
 have:=qD xs h
 simp only[bB,hi,R.ok_bind,this,Ah,if_pos hz]
theorem aA9 {t:FT}{f:FE}{ρ:Mir.Env}{c:Bool}{r:Res}(h:t ρ=.ok c)(hf:c=true->f ρ=.ok r):Mir.bIf t f ρ=.ok (if c then some r else none):=by
 cases c with
 | true=>simp only[Mir.bIf,h,R.ok_bind,if_true,hf rfl]
 | false=>simp only[Mir.bIf,h,R.ok_bind,Co,if_false]
end Sm
namespace Sm
open PySem L2 Mir Srt
def nm (b:Prop)[Decidable b](n:Int):Int:=if b then n else 0
variable (a0 a1 x7:Option Res)(f2:Bool)(p:List Int)(n:Int)
end Sm
namespace Sm
open PySem L2 Mir Srt
theorem aGg {n:Nat}(h:n<=2^900):n<2^1000:=Ex h (Nat.pow_lt_pow_right (by decide) (by decide))
def aKh (a b:List Tm):List Tm:=a.flatMap fun s=>b.map fun t=>(s.1++t.1,s.2*t.2)
end Sm
namespace Sm
open PySem L2 Mir Srt
theorem wD {p:List Int}(h:p.Pairwise fun a b=>ix b a=false):inv p=0:=by
 have go:∀ j,j<=p.length->aE4 p j=0:=by
  intro j;induction j with
  | zero=>intro _;rfl
  | succ j ih =>
   intro hj;have hlt:j<p.length:=by omega
   show aE4 p j+_=0
   rw[ih (by omega),Et,List.length_eq_zero_iff,List.filter_eq_nil_iff]
   intro b hb;obtain⟨i,hi,e⟩:=Dm.mp hb;have hi':i<j:=by rw[Bt]at hi;omega
   have q:=(List.pairwise_iff_getElem.mp h) i j (by omega) hlt hi'
   have e2:b=p[i]:=by rw[←e];simp
   have e3:p.getD j 0=p[j]:=by simp[hlt]
   rw[e2,e3];unfold ix at q;simpa using q
 exact go p.length (An _)
structure Told (S:List Tm):Prop where
 up:∀ t∈S,t.1.Pairwise fun a b=>ix b a=false
 nd:∀ t∈S,t.1.Nodup
 ks:(S.map (·.1)).Nodup
 nz:∀ t∈S,t.2≠0
 so:S.Pairwise fun a b=>px b a=false
theorem Told.val {S:List Tm}(h:Told S){t:Tm}(ht:t∈S):val t=t.2:=by
 unfold Sm.val;rw[if_pos (h.nd t ht),wD (h.up t ht)];show (1-2*((0:Int)%2))*t.2=t.2
 omega
theorem Told.key {S:List Tm}(h:Told S){t:Tm}(ht:t∈S):key t=t.1:=(aBh aGq (Ed _) (h.up t ht)).symm
theorem sU {S:List Tm}(h:Told S):∀ (T B:List Tm),(∀ t∈T,t∈S)->(((B++T).map (·.1)).Nodup)->acc B T=B++T
 | [],B,_,_=>by simp[acc]
 | t :: T,B,hs,nd=>by
  have ht:=hs t Af
  have nm:t.1∉B.map (·.1):=by
   rw[Cm,List.nodup_append]at nd;intro m;exact nd.2.2 t.1 m t.1 (by simp) rfl
  have e:step B t=B++[t]:=by
   unfold step;rw[h.key ht,zJ nm,h.val ht,Int.zero_add];unfold put;rw[if_neg nm]
  show acc (step B t) T=_
  rw[e,sU h T (B++[t]) (fun u hu=>hs u (Ab _ hu)) (by simpa using nd)]
  simp
theorem Told.same {S:List Tm}(h:Told S):aKq S=S:=by
 unfold aKq;rw[sU h S [] (fun _ z=>z) (by simpa using h.ks),En]
 unfold aJj;have e:S.filter (fun p=>p.2 != 0)=S:=List.filter_eq_self.mpr fun t ht=>by simpa using h.nz t ht
 rw[e];exact(aBh aHj (Ed _) h.so).symm
end Sm
namespace Sm
open Srt
def ovr (b:Int)(p:List Int):Nat:=(p.filter fun a=>decide (b<a)).length
def aFw (p:List Int):List Int->Nat
 | []=>0
 | b :: q=>ovr b p+aFw p q
def xs (p q:List Int):Int:=if ∀ x∈p,x∉q then sgn (aFw p q) else 0
end Sm
namespace Sm
open Srt
def und (b:Int)(p:List Int):Nat:=(p.filter fun a=>decide (a<b)).length
def xB (i:Nat):List Int->List Tm
 | []=>[]
 | v :: r=>([(i:Int)],v) :: xB (i+1) r
def aLl (r:List Int):List Tm:=xB 0 r
def raw (rows:List (List Int)):List Tm:=rows.foldl (fun a r=>aKh a (aLl r)) [([],1)]
end Sm
namespace Sm
open PySem L2 Mir Srt
theorem aG4 {W:List Int}{ρ:Mir.Env}{i:Nat}{k:Kd}{fr:Bool}(h:vE i ρ=.ok ⟨k,fr,.lst (li W)⟩):dF (vE i) ρ=.ok ⟨.shr,true,.int (W.length:Nat)⟩:=by
 refine(gG h).trans ?_
 rw[Ah];rfl
end Sm
namespace Sm
open PySem L2 Mir Srt
def tK (xs:List Int)(lo hi:Option Int):List Int:=(xs.drop (HT.sIx xs.length 0 lo)).take (HT.sIx xs.length xs.length hi-HT.sIx xs.length 0 lo)
theorem zX (xs:List Int)(lo hi:Option Int):lF (li xs) lo hi=li (tK xs lo hi):=by
 unfold lF tK li;rw[Ah,List.map_take,Ei]
def aU (ns:List Int)(k:Nat):Int:=if k<ns.length then ns.getD k 0%2147483647 else 0
theorem nI (ns:List Int)(k:Nat):0<=aU ns k/\aU ns k<2147483647:=by
 unfold aU;split
 · exact⟨Fp _ (by decide),Ey _ (by decide)⟩
 · decide
abbrev aHk:FS:=(aP (ifS (bT (ltE (vE 1) (dF (vE 0))))
 (bF (dO (bA (vE 0) (vE 1)) (cE (.int 2147483647))))
 bZ)
 (bF (cE (.int 0))))
theorem aAv (ns:List Int)(k:Nat):bY 2 2 aHk [.lst (li ns),.int k]=.ok (sc (.int (aU ns k))):=by
 refine(dM (r:=sc (.int (aU ns k))) rfl ?_).trans rfl
 have t:ltE (vE 1) (dF (vE 0)) (stE 2 [.lst (li ns),.int k])=.ok (sc (.bl (decide ((k:Int)<(li ns).length)))):=iX (i:=(k:Int)) (j:=((li ns).length:Int)) rfl (gG (ds:=li ns) rfl);by_cases h:k<ns.length
 · refine(rP (r:=sc (.int (aU ns k))) ?_)
   refine(aBl t).trans ?_
   rw[decide_eq_true (by simpa using h)]
   refine(if_pos rfl).trans ?_
   have e:=bW (C:=CP) (G:=fun i j=>i%j) (f:=bA (vE 0) (vE 1)) (g:=cE (.int 2147483647)) (ρ:=[some ⟨.shr,false,.lst (li ns)⟩,some ⟨.shr,false,.int k⟩]) (j:=2147483647) (eY (ds:=li ns) (i:=k) (z:=ns.getD k 0) rfl rfl (iP h)) rfl (decide_eq_true (by decide))
   refine(gB e).trans ?_
   unfold aU;rw[if_pos h];rfl
 · refine(aH (ρ1:=stE 2 [.lst (li ns),.int k]) ?_).trans ?_
   · refine(aBl t).trans ?_
     rw[decide_eq_false (by simpa using h)]
     rfl
   · unfold aU
     rw[if_neg h];rfl
abbrev S0 (ns:List Int):Option Res:=some ⟨.shr,false,.lst (li ns)⟩
theorem aDy {φ:Φ}(hφ:∀ ns k,φ [.lst (li ns),.int (k:Nat)]=.ok (sc (.int (aU ns k))))(ns:List Int)(k:Nat)(r:List (Option Res)):aG φ [vE 0,cE (.int k)] (S0 ns :: r)=.ok ⟨.shr,true,.int (aU ns k)⟩:=eM (rs:=[⟨.shr,false,.lst (li ns)⟩,⟨.shr,true,.int k⟩]) (aB rfl (aB rfl bD)) (hφ ns k)
end Sm
namespace Sm
open PySem L2 Mir Srt
theorem wF {tg:Tg}{b:FS}{fr:Bool}{d:D}{r:List D}{ρ ρ1 ρ2:Mir.Env}(h1:tg.bind fr d ρ=.ok ρ1)(h2:b ρ1=.nx ρ2):eS tg b fr (d :: r) ρ=eS tg b fr r ρ2:=by
 simp only[eS,h1,R.at,h2]
end Sm
namespace Sm
open PySem L2 Mir Srt
structure Rows (m:Nat)(rows:List (List Int)):Prop where
 m1:1<=m
 m5:m<=5
 ln:rows.length<=12
 sz:∀ r∈rows,r.length=m
 nb:∀ r∈rows,∀ x∈r,x.natAbs<=2^34
end Sm
namespace Sm
open PySem L2 Mir Srt
theorem gP {φ:Φ}{fs:FEs}{ρ:Mir.Env}{rs:List Res}{x:Xc}(h:evs fs ρ=.ok rs)(hφ:φ (rs.map (·.d))=.exc x):aG φ fs ρ=.exc x:=by
 simp only[aG,h,R.ok_bind,hφ,R.exc_bind]
theorem kN {f:FE}{ρ:Mir.Env}{x:Xc}(h:f ρ=.exc x):dH f ρ=.exc x ρ:=by simp only[dH,h,R.at]
theorem xL {f:FE}{ρ:Mir.Env}{i:Nat}{x:Xc}(h:f ρ=.exc x):aO i f ρ=.exc x ρ:=by simp only[aO,h,R.at]
abbrev aCu (s:String):FS:=(ifS (orT (bT (ltE (vE 0) (cE (.int 1)))) (bT (gtE (vE 0) (cE (.int 5)))))
 (nM .BadCount [cE (.str s)])
 bZ)
theorem aIl {f g:FE}{ρ:Mir.Env}{k k':Kd}{fr fr':Bool}{b c:Bool}(h1:f ρ=.ok ⟨k,fr,.bl b⟩)(h2:g ρ=.ok ⟨k',fr',.bl c⟩):orT (bT f) (bT g) ρ=.ok (b||c):=by
 refine(aBi (fQ h1) fun _=>fQ h2).trans ?_
 cases b<;>rfl
theorem aFn (m:Int):orT (bT (ltE (vE 0) (cE (.int 1)))) (bT (gtE (vE 0) (cE (.int 5)))) [some ⟨.shr,false,.int m⟩]=.ok (decide (m<1)||decide (5<m)) :=
 aIl (iX (G:=fun i j=>decide (i<j)) (k:=.shr) (fr:=true) (i:=m) (k':=.shr) (fr':=true) (j:=1) rfl rfl) (iX (G:=fun i j=>decide (j<i)) (k:=.shr) (fr:=true) (i:=m) (k':=.shr) (fr':=true) (j:=5) rfl rfl)
theorem zM {s:String}{m:Int}(h:(decide (m<1)||decide (5<m))=true):bY 1 1 (aCu s) [.int m]=.exc ⟨.BadCount,[]⟩:=by
 refine fZ (ρ:=[some ⟨.shr,false,.int m⟩]) rfl ((fR (aFn m)).trans ?_)
 rw[h];rfl
end Sm
namespace Sm
open PySem L2 Mir Srt
theorem aBc (t:List (List Int)):nO (lil t)=(t.zipIdx).map fun p=>.tup [.int p.2,.lst (li p.1)]:=wP (fun xs=>.lst (li xs)) t
end Sm
namespace Od
open PySem L2 Mir Srt Sm
theorem jP {rows:List (List Int)}{i:Nat}(h:i<rows.length):(lil rows)[i]?=some (.lst (li (rows.getD i []))):=by
 simp[lil,h,Ag]
end Od
namespace Sm
open PySem L2 Mir Srt
theorem jP (u v:List (List Int))(r:List Int):(lil (u++r :: v))[u.length]?=some (.lst (li r)):=by simp
structure Drw (m:Nat)(x y:List (List Int)):Prop where
 m1:1<=m
 m5:m<=5
 lx:x.length<=4
 ly:y.length<=3
 y1:0<y.length
 sz:∀ r∈x++y,r.length=m
 nb:∀ r∈x++y,∀ v∈r,v.natAbs<=2^30
theorem Drw.rows {m:Nat}{x y:List (List Int)}(d:Drw m x y){rs:List (List Int)}(h:∀ r∈rs,r∈x++y)(hl:rs.length<=12):Rows m rs :=
 ⟨d.m1,d.m5,hl,fun r hr=>d.sz r (h r hr),fun r hr v hv=>Bn (d.nb r (h r hr) v hv) (Dl (by decide) (by decide))⟩
end Sm
namespace Sm
open PySem L2 Mir Srt
theorem aEb {f g h i:FE}{ρ:Mir.Env}{a b c d:Int}(h1:f ρ=.ok ⟨.shr,true,.int a⟩)(h2:g ρ=.ok ⟨.shr,true,.int b⟩)(h3:h ρ=.ok ⟨.shr,true,.int c⟩)(h4:i ρ=.ok ⟨.shr,true,.int d⟩):aX [f,g,h,i] ρ=.ok ⟨.tmp,true,.lst (li [a,b,c,d])⟩:=by
 have hz:([D.int a,.int b,.int c,.int d]:List D).length<=sizeLine:=by show 4<=sizeLine;decide
 have e:evs [f,g,h,i] ρ=.ok [⟨.shr,true,.int a⟩,⟨.shr,true,.int b⟩,⟨.shr,true,.int c⟩,⟨.shr,true,.int d⟩]:=aB h1 (aB h2 (aB h3 (aB h4 bD)));have g':gives [⟨.shr,true,.int a⟩,⟨.shr,true,.int b⟩,⟨.shr,true,.int c⟩,⟨.shr,true,.int d⟩]=.ok (true,[.int a,.int b,.int c,.int d]):=rfl;simp only[aX,e,R.ok_bind,g'];exact if_pos hz
end Sm
namespace Od
open PySem L2 Mir Srt Sm
abbrev ab:FS:=(aP (aO 6 (eW (aJh (aLn (vE 5) (soO (gN (cE (.int 1)))) (noO))) (aMe (gtE (dF (vE 5)) (cE (.int 0))))))
 (aO 4 (dX (vE 4) (bB (nX (vE 6) (vE 0)) 1 [5] (.nm 0) (bE (aJq (vE 1) (yV [vE 0])))))))
end Od
namespace Od
open PySem L2 Mir Srt Sm
abbrev hd (t:List (List Int))(s:Int)(x2:Option Res):Mir.Env:=[some ⟨.shr,false,.lst (lil t)⟩,some ⟨.shr,false,.int s⟩,x2,none,none,none,none]
end Od
namespace Sm
open Srt
def cut {α:Type}(k:Nat)(l:List α):List α:=l.take k++l.drop (k+1)
end Sm
namespace Sm
open Srt
def hc (x:Nat)(k:List Int):Int:=if (x:Int)∈k then sgn (und (x:Int) k) else 0
def hw (x:Nat)(k:List Int):List Int:=k.filter fun y=>!(y==(x:Int))
end Sm
namespace Od
open PySem L2 Mir Srt Sm
structure Sq (m B:Nat)(t:List (List Int)):Prop where
 m5:m<=5
 ln:t.length=m
 sz:∀ r∈t,r.length=m
 nb:∀ r∈t,∀ x∈r,x.natAbs<=2^B
 hB:(B+6)*m<=893
 hb:B<=887
section
variable {m B:Nat}{t:List (List Int)}
theorem Sq.e9 (T:Sq m B t){r:List Int}(hr:r∈t){x:Int}(hx:x∈r):x.natAbs<2^1000:=by
 have h:=T.hb;exact aGg (Bn (T.nb r hr x hx) (Dl (by decide) (by omega)))
end
end Od
namespace Od
open PySem L2 Mir Srt Sm
abbrev cb:FS:=ifS (bT (neE (dF (vE 3)) (vE 0))) (kK .BadRows (vE 2)) bZ
abbrev iZ (φc:Φ):FS:=(aP (dH (aG φc [vE 0])) (gL (oR (vE 1)) (.tp [.nm 2,.nm 3]) cb))
abbrev kE (m:Int)(rows:List (List Int))(x2 x3:Option Res):Mir.Env:=[some ⟨.shr,false,.int m⟩,some ⟨.shr,false,.lst (lil rows)⟩,x2,x3]
abbrev I (z:Int):Option Res:=some ⟨.shr,false,.int z⟩
abbrev W (r:List Int):Option Res:=some ⟨.shr,false,.lst (li r)⟩
theorem aKk (m:Int)(rows:List (List Int))(k:Nat)(r:List Int):bT (neE (dF (vE 3)) (vE 0)) (kE m rows (I k) (W r))=.ok (!decide ((r.length:Int)=m)) :=
 fQ (jV (aG4 (k:=.shr) (fr:=false) rfl) (k':=.shr) (fr':=true) (j:=m) rfl)
theorem aA8 (m:Int)(rows:List (List Int))(k:Nat)(r:List Int)(x2 x3:Option Res):Tg.bind false (.tp [.nm 2,.nm 3]) (.tup [.int (k:Nat),.lst (li r)]) (kE m rows x2 x3)=.ok (kE m rows (I k) (W r)):=rfl
theorem aFj (m:Int)(rows:List (List Int))(k:Nat){r:List Int}(h:(r.length:Int)=m):cb (kE m rows (I k) (W r))=.nx (kE m rows (I k) (W r)):=by
 have t:=aKk m rows k r;rw[decide_eq_true h]at t;exact(fR t).trans rfl
theorem aLi (m:Int)(rows:List (List Int))(k:Nat){r:List Int}(h:(r.length:Int)≠m):cb (kE m rows (I k) (W r))=.exc ⟨.BadRows,[.int (k:Nat)]⟩ (kE m rows (I k) (W r)):=by
 have t:=aKk m rows k r;rw[decide_eq_false h]at t;exact(fR t).trans rfl
theorem aB2 {tg:Tg}{b:FS}{fr:Bool}{d:D}{r:List D}{ρ ρ1 ρ2:Mir.Env}{x:Xc}(h1:tg.bind fr d ρ=.ok ρ1)(h2:b ρ1=.exc x ρ2):eS tg b fr (d :: r) ρ=.exc x ρ2:=by simp only[eS,h1,R.at,h2]
inductive Fst (m:Int):List (List Int)->Nat->Prop
 | here {r:List Int} {rs:List (List Int)}:(r.length:Int)≠m->Fst m (r :: rs) 0
 | next {r:List Int} {rs:List (List Int)} {j:Nat}:(r.length:Int)=m->Fst m rs j->Fst m (r :: rs) (j+1)
abbrev aGc (p:List Int×Nat):D:=.tup [.int (p.2:Nat),.lst (li p.1)]
theorem aIg (m:Int)(rows:List (List Int)):∀ {rs:List (List Int)} {j:Nat},Fst m rs j->∀ (k:Nat) (x2 x3:Option Res),∃ ρ',eS (.tp [.nm 2,.nm 3]) cb false ((rs.zipIdx k).map aGc) (kE m rows x2 x3)=.exc ⟨.BadRows,[.int ((k+j:Nat):Int)]⟩ ρ':=by
 intro rs j h;induction h with
 | here h=>intro k x2 x3;exact⟨_,aB2 (aA8 m rows k _ x2 x3) (aLi m rows k h)⟩
 | next h _ ih =>
  intro k x2 x3;obtain⟨ρ',e⟩:=ih (k+1) (I k) (W _);rw[Nat.add_right_comm,Nat.add_assoc]at e;exact⟨ρ',(wF (aA8 m rows k _ x2 x3) (aFj m rows k h)).trans e⟩
theorem aFo (m:Int)(rows:List (List Int)):∀ (rs:List (List Int)),(∀ r∈rs,(r.length:Int)=m)->∀ (k:Nat) (x2 x3:Option Res),∃ y2 y3,eS (.tp [.nm 2,.nm 3]) cb false ((rs.zipIdx k).map aGc) (kE m rows x2 x3)=.nx (kE m rows y2 y3)
 | [],_,_,x2,x3=>⟨x2,x3,rfl⟩
 | r :: rs,h,k,x2,x3=>by
  obtain⟨y2,y3,e⟩:=aFo m rows rs (fun q hq=>h q (Ab _ hq)) (k+1) (I k) (W r);exact⟨y2,y3,(wF (aA8 m rows k r x2 x3) (aFj m rows k (h r Af))).trans e⟩
section
variable {φc:Φ}{m:Int}{rows:List (List Int)}
theorem aF4 (x2 x3:Option Res):gL (oR (vE 1)) (.tp [.nm 2,.nm 3]) cb (kE m rows x2 x3)=eS (.tp [.nm 2,.nm 3]) cb false ((rows.zipIdx 0).map aGc) (kE m rows x2 x3):=by
 refine(lN (fr:=false) (ds:=nO (lil rows)) rfl).trans ?_
 rw[aBc]
theorem aMb {x:Xc}(h:φc [.int m]=.exc x):bY 2 4 (iZ φc) [.int m,.lst (lil rows)]=.exc x :=
 fZ (np:=2) (n:=4) (s:=iZ φc) (ds:=[.int m,.lst (lil rows)]) rfl (kP (kN (Sm.gP (rs:=[⟨.shr,true,.int m⟩]) (aB rfl bD) h)))
theorem aJr (h:φc [.int m]=.ok (sc .non))(x2 x3:Option Res):dH (aG φc [vE 0]) (kE m rows x2 x3)=.nx (kE m rows x2 x3):=kR (eM (rs:=[⟨.shr,true,.int m⟩]) (aB rfl bD) h)
theorem aKf (h:φc [.int m]=.ok (sc .non)){j:Nat}(hj:Fst m rows j):bY 2 4 (iZ φc) [.int m,.lst (lil rows)]=.exc ⟨.BadRows,[.int (j:Nat)]⟩:=by
 obtain⟨ρ',e⟩:=aIg m rows hj 0 none none;rw[Et]at e;exact fZ (np:=2) (n:=4) (s:=iZ φc) (ds:=[.int m,.lst (lil rows)]) rfl ((aH (aJr h none none)).trans ((aF4 none none).trans e))
theorem aKu (h:φc [.int m]=.ok (sc .non))(hr:∀ r∈rows,(r.length:Int)=m):bY 2 4 (iZ φc) [.int m,.lst (lil rows)]=.ok (sc .non):=by
 obtain⟨y2,y3,e⟩:=aFo m rows rows hr 0 none none;exact vV (np:=2) (n:=4) (s:=iZ φc) (ds:=[.int m,.lst (lil rows)]) rfl ((aH (aJr h none none)).trans ((aF4 none none).trans e))
end
end Od
namespace Hm
open PySem L2 Mir
def BR (N:Nat)(r:List Int):Prop:=∀ x∈r,x.natAbs<2^N
def BN (N:Nat)(t:List (List Int)):Prop:=∀ r∈t,BR N r
theorem vI {a b:Nat}(h:a<=b):2^a<=2^b:=Dl (by decide) h
theorem log2_lt {n N:Nat}(hN:0<N)(h:n<2^N):n.log2<N:=by
 by_cases z:n=0
 · subst z;simpa using hN
 · exact(Nat.log2_lt z).mpr h
theorem aKm {i j:Int}{N:Nat}(h1:i.natAbs<2^N)(h2:j.natAbs<2^N)(h0:0<N)(hN:N<=1000000):CM i j=true:=by
 unfold CM;rw[Bp,decide_eq_true_iff,decide_eq_true_iff];exact⟨Ac (log2_lt h0 h1) hN,Ac (log2_lt h0 h2) hN⟩
theorem aMh {i j:Int}{N:Nat}(h:j≠0)(h2:j.natAbs<2^N)(h0:0<N)(hN:N<=9000):CF i j=true:=by
 unfold CF;rw[Bp,decide_eq_true_iff,decide_eq_true_iff];exact⟨h,Ac (log2_lt h0 h2) hN⟩
theorem aGj {i j:Int}{N:Nat}(h:0<j)(h2:j.natAbs<2^N)(h0:0<N)(hN:N<=9000):CD i j=true:=by
 unfold CD;rw[Bp,decide_eq_true_iff,decide_eq_true_iff];exact⟨h,Ac (log2_lt h0 h2) hN⟩
theorem aFc {a b:Int}{N M:Nat}(h1:a.natAbs<2^N)(h2:b.natAbs<2^M):(a*b).natAbs<2^(N+M):=by
 rw[Int.natAbs_mul,Nat.pow_add];exact Nat.mul_lt_mul'' h1 h2
theorem aLg {a b:Int}{N:Nat}(h1:a.natAbs<2^N)(h2:b.natAbs<2^N):(a-b).natAbs<2^(N+1):=by
 rw[Nat.pow_succ];omega
theorem xK (a b:Int)(h:0<b):(a/b).natAbs<=a.natAbs:=by
 have e:=Int.mul_ediv_add_emod a b;have h1:=Ey a h;have h2:=Fp a (show b≠0 by omega)
 generalize a/b=q at *
 generalize a%b=r at *
 rcases Int.lt_trichotomy q 0 with z | z | z
 · have e2:0<=(b-1)*(-(q+1)):=Int.mul_nonneg (by omega) (by omega)
   have e3:(b-1)*(-(q+1))=- (b*q)-b+q+1:=by rw[Int.mul_neg,Int.sub_mul,Int.mul_add,Int.mul_one,Int.one_mul];omega
   omega
 · omega
 · have:1*q<=b*q:=Int.mul_le_mul_of_nonneg_right (by omega) (by omega)
   omega
theorem aEc (a b:Int)(h:b≠0):(a.fdiv b).natAbs<=a.natAbs:=by
 rcases Int.lt_or_gt_of_ne h with hb | hb
 · have:=xK (-a) (-b) (by omega)
   rw[←Dp (-a) (show 0≤-b by omega),Int.neg_fdiv_neg]at this
   omega
 · rw[Dp a (show 0<=b by omega)]
   exact xK a b hb
end Hm
namespace Hm
open PySem L2 Mir
abbrev aFp:FE:=bB (qO (vE 8) (vE 4)) 2 [3,5,8,2] (.tp [.nm 0,.nm 1]) (bE (aDt (oW (nA (vE 3) (vE 0)) (nA (bA (vE 4) (vE 5)) (vE 1))) (vE 2)))
abbrev aBg:FS:=ifS (bT (eqE (vE 7) (vE 1))) (fO 4 (mW 6 (vE 4))) (mW 6 aFp)
abbrev mO:FS:=aP (aO 4 (bA (vE 0) (vE 1))) (aP (aO 5 (bA (vE 4) (vE 2))) (aP (aO 6 (aX [])) (aP (fO 0 (gL (oR (vE 0)) (.tp [.nm 7,.nm 8]) aBg)) (bF (vE 6)))))
def swr (c r:List Int)(w:Nat)(b:Int):List Int:=(r.zip c).map fun q=>(c.getD w 0*q.1-r.getD w 0*q.2).fdiv b
def swp (t:List (List Int))(i w:Nat)(b:Int):List (List Int):=t.zipIdx.map fun p=>if p.2=i then t.getD i [] else swr (t.getD i []) p.1 w b
abbrev sE (t:List (List Int))(i w:Nat)(b:Int)(x4 x5 x6 x7 x8:Option Res):Mir.Env:=[some ⟨.shr,false,.lst (lil t)⟩,some ⟨.shr,false,.int i⟩,some ⟨.shr,false,.int w⟩,some ⟨.shr,false,.int b⟩,x4,x5,x6,x7,x8]
abbrev rR (r:List Int):Option Res:=some ⟨.shr,false,.lst (li r)⟩
abbrev nR (z:Int):Option Res:=some ⟨.shr,true,.int z⟩
theorem jP {t:List (List Int)}{i:Nat}(h:i<t.length):(lil t)[i]?=some (.lst (li (t.getD i []))):=by
 unfold lil;rw[Be,Ag,Ax h];rfl
theorem aLp {t:List (List Int)}{i w N:Nat}{b:Int}{c r:List Int}{x6 x7:Option Res}(hb:b≠0)(hbN:b.natAbs<2^N)(hN:0<N)(h9:2*N+1<=9000)(hc:BR N c)(hr:BR N r)(wc:w<c.length)(wr:w<r.length)(hz:r.length<=sizeLine) :
 aFp (sE t i w b (rR c) (nR (c.getD w 0)) x6 x7 (rR r))=.ok ⟨.tmp,true,.lst (li (swr c r w b))⟩:=by
 have e:=eF (ρ:=sE t i w b (rR c) (nR (c.getD w 0)) x6 x7 (rR r)) (k:=2) (fs:=[3,5,8,2]) (tg:=.tp [.nm 0,.nm 1]) (b:=bE (aDt (oW (nA (vE 3) (vE 0)) (nA (bA (vE 4) (vE 5)) (vE 1))) (vE 2)))
  (out:=fun q:Int×Int=>.int ((c.getD w 0*q.1-r.getD w 0*q.2).fdiv b)) (aHh (f:=vE 8) (g:=vE 4) (xs:=r) (ys:=c) (k:=.shr) (k':=.shr) (fr:=false) (fr':=false) rfl rfl) (fun q hq=>?_) ?_
 · refine e.trans ?_
   unfold swr li;rw[Dq];rfl
 · obtain⟨q1,q2⟩:=Df hq
   have cw:(c.getD w 0).natAbs<2^N:=hc _ (Mir.cI wc);have rw':(r.getD w 0).natAbs<2^N:=hr _ (Mir.cI wr);refine⟨[some ⟨.shr,false,.int q.1⟩,some ⟨.shr,false,.int q.2⟩,some ⟨.shr,false,.int b⟩,nR (c.getD w 0),rR r,some ⟨.shr,false,.int w⟩],.shr,rfl,gU ?_,by decide⟩
   refine bW (bW (bW (k:=.shr) (fr:=true) (i:=c.getD w 0) rfl (k':=.shr) (fr':=true) (j:=q.1) rfl (aKm cw (hr _ q1) hN (by omega))) (bW (eY (k:=.shr) (fr:=false) (ds:=li r) (i:=w) rfl (k':=.shr) (fr':=true) rfl (iP wr)) (k':=.shr) (fr':=true) (j:=q.2) rfl (aKm rw' (hc _ q2) hN (by omega))) rfl) (k':=.shr) (fr':=true) (j:=b) rfl (aMh hb hbN hN (by omega))
 · rw[List.length_zip];omega
theorem aJs {N w:Nat}{b:Int}{c r:List Int}(hb:b≠0)(hc:BR N c)(hr:BR N r)(wc:w<c.length)(wr:w<r.length):BR (2*N+1) (swr c r w b):=fun x hx=>by
 obtain⟨q,hq,rfl⟩:=Bb.mp hx;obtain⟨q1,q2⟩:=Df hq;refine Ex (aEc _ _ hb) ?_
 rw[show 2*N+1=(N+N)+1 by omega]
 exact aLg (aFc (hc _ (Mir.cI wc)) (hr _ q1)) (aFc (hr _ (Mir.cI wr)) (hc _ q2))
theorem aD8 {w:Nat}{b:Int}{c r:List Int}:(swr c r w b).length=min r.length c.length:=by
 unfold swr;rw[Ah,List.length_zip]
theorem xE {t:List (List Int)}{i w:Nat}{b:Int}:(swp t i w b).length=t.length:=by
 unfold swp;rw[Ah,List.length_zipIdx]
theorem aEy {t:List (List Int)}{i w N:Nat}{b:Int}(hi:i<t.length)(hw:∀ r∈t,w<r.length)(hl:∀ r∈t,r.length<=1000)(ht:t.length<=1000)(hb:b≠0)(hbN:b.natAbs<2^N)(hN:0<N)(h9:2*N+1<=9000)(hB:BN N t) :
 ∃ fr,bY 4 9 mO [.lst (lil t),.int i,.int w,.int b]=.ok ⟨.tmp,fr,.lst (lil (swp t i w b))⟩:=by
 have cm:t.getD i []∈t:=Mir.cI hi;generalize hc:t.getD i []=c at cm
 have e1:aO 4 (bA (vE 0) (vE 1)) (sE t i w b none none none none none)=.nx (sE t i w b (rR c) none none none none):=by
  have:=set_shr (i:=4) (eD (f:=vE 0) (g:=vE 1) (ρ:=sE t i w b none none none none none) (k:=.shr) (fr:=false) (ds:=lil t) (i:=i) rfl (k':=.shr) (fr':=true) rfl (jP hi))
  rw[hc]at this;exact this
 have e2:aO 5 (bA (vE 4) (vE 2)) (sE t i w b (rR c) none none none none)=.nx (sE t i w b (rR c) (nR (c.getD w 0)) none none none) :=
  set_shr (eY (k:=.shr) (fr:=false) (ds:=li c) (i:=w) rfl (k':=.shr) (fr':=true) rfl (iP (hw c cm)))
 have e3:aO 6 (aX []) (sE t i w b (rR c) (nR (c.getD w 0)) none none none)=.nx (sE t i w b (rR c) (nR (c.getD w 0)) (some ⟨.own,true,.lst []⟩) none none):=rfl
 have ei:oR (vE 0) (sE t i w b (rR c) (nR (c.getD w 0)) (some ⟨.own,true,.lst []⟩) none none)=.ok ⟨true,false,t.zipIdx.map fun p=>.tup [.int p.2,.lst (li p.1)]⟩:=by
  have:nO (lil t)=t.zipIdx.map fun p=>.tup [.int p.2,.lst (li p.1)]:=wP (fun r=>.lst (li r)) t
  rw[←this];rfl
 obtain⟨ρ',e4,fr,x7,x8,e5⟩:=tV (tg:=.tp [.nm 7,.nm 8]) (b:=aBg) (fr:=false) (inj:=fun p:List Int×Nat=>.tup [.int p.2,.lst (li p.1)]) (out:=fun p=>.lst (li (if p.2=i then c else swr c p.1 w b)))
  (E:=fun acc ρ=>∃ fr x7 x8,ρ=sE t i w b (rR c) (nR (c.getD w 0)) (some ⟨.own,fr,.lst acc⟩) x7 x8) t.zipIdx [] (sE t i w b (rR c) (nR (c.getD w 0)) (some ⟨.own,true,.lst []⟩) none none) (fun p hp acc ρ ha ⟨fr,x7,x8,hρ⟩=>by
   subst hρ
   have pm:p.1∈t:=by
    have:=List.mem_zipIdx hp
    rw[this.2.2];exact Fj _
   refine⟨sE t i w b (rR c) (nR (c.getD w 0)) (some ⟨.own,fr,.lst acc⟩) (some ⟨.shr,false,.int p.2⟩) (rR p.1),?_⟩
   have tst:bT (eqE (vE 7) (vE 1)) (sE t i w b (rR c) (nR (c.getD w 0)) (some ⟨.own,fr,.lst acc⟩) (some ⟨.shr,false,.int p.2⟩) (rR p.1))=.ok (decide ((p.2:Int)=(i:Int))):=fQ (vM (k:=.shr) (fr:=true) (i:=(p.2:Int)) rfl (k':=.shr) (fr':=true) (j:=(i:Int)) rfl);by_cases z:p.2=i
   · refine⟨sE t i w b (rR c) (nR (c.getD w 0)) (some ⟨.own,fr&&false,.lst (acc++[.lst (li c)])⟩) (some ⟨.shr,false,.int p.2⟩) (rR p.1),rfl,(fR tst).trans ?_,fr&&false,some ⟨.shr,false,.int p.2⟩,rR p.1,?_⟩
     · rw[decide_eq_true (by omega),if_pos rfl]
       exact vU (k:=.shr) (fr':=false) (d:=.lst (li c)) rfl rfl (by decide) ha
     · rw[if_pos z]
   · refine⟨sE t i w b (rR c) (nR (c.getD w 0)) (some ⟨.own,fr&&true,.lst (acc++[.lst (li (swr c p.1 w b))])⟩) (some ⟨.shr,false,.int p.2⟩) (rR p.1),rfl,(fR tst).trans ?_,fr&&true,some ⟨.shr,false,.int p.2⟩,rR p.1,?_⟩
     · rw[decide_eq_false (by omega),if_neg (by decide)]
       exact vU (k:=.tmp) (fr':=true) rfl (aLp hb hbN hN h9 (hB c cm) (hB _ pm) (hw c cm) (hw _ pm) (by have:=hl _ pm;rw[sizeLine_eq];omega)) (by decide) ha
     · rw[if_neg z]) (by rw[List.length_zipIdx,List.length_nil,sizeLine_eq];omega) ⟨true,none,none,rfl⟩
 refine⟨fr,?_⟩
 subst e5
 have e6:fO 0 (gL (oR (vE 0)) (.tp [.nm 7,.nm 8]) aBg) (sE t i w b (rR c) (nR (c.getD w 0)) (some ⟨.own,true,.lst []⟩) none none)=.nx (sE t i w b (rR c) (nR (c.getD w 0)) (some ⟨.own,fr,.lst (lil (swp t i w b))⟩) x7 x8):=by
  refine(lI (e:=⟨.shr,false,.lst (lil t)⟩) rfl).trans ((lN ei).trans ?_)
  rw[e4,En]
  have:List.map (fun p:List Int×Nat=>D.lst (li (if p.2=i then c else swr c p.1 w b))) t.zipIdx=lil (swp t i w b):=by
   unfold swp lil;rw[Dq,hc];rfl
  rw[this]
 refine(dM (np:=4) (n:=9) (s:=mO) (ds:=[.lst (lil t),.int i,.int w,.int b]) (r:=⟨.tmp,fr,.lst (lil (swp t i w b))⟩) rfl ((aH e1).trans ((aH e2).trans ((aH e3).trans ((aH e6).trans ?_))))).trans ?_
 · exact aEo (by cases fr<;>rfl)
 · cases fr<;>rfl
end Hm
namespace Hm
open PySem L2 Mir
theorem aK1 (xs:List D)(j:Nat):lF xs none (some (j:Int))=xs.take j:=by
 unfold lF;rw[HT.nV,HT.mK,List.drop_zero,Nat.sub_zero,List.take_eq_take_iff];omega
theorem aCe (xs:List D)(j:Nat):lF xs (some (j:Int)) none=xs.drop j:=by
 unfold lF;rw[HT.nV,HT.mK];by_cases h:j<=xs.length
 · rw[Em h];exact List.take_of_length_le (by rw[Cf];omega)
 · rw[Nat.min_eq_right (by omega),Nat.sub_self,De (An _),De (by omega)];rfl
theorem aJ9 (xs:List D){i p:Nat}(h:i<=p)(hp:p<=xs.length):lF xs (some (i:Int)) (some (p:Int))=(xs.take p).drop i:=by
 unfold lF;rw[HT.mK,HT.mK,Em hp,Em (show i<=xs.length by omega),List.drop_take]
theorem kG {f g:FE}{ρ:Mir.Env}{k k':Kd}{fr fr':Bool}{ds es:List D}(h1:f ρ=.ok ⟨k,fr,.lst ds⟩)(h2:g ρ=.ok ⟨k',fr',.lst es⟩)(c:ds.length+es.length<=sizeLine):dX f g ρ=.ok ⟨.tmp,fr&&fr',.lst (ds++es)⟩:=by
 simp only[dX,h1,h2,R.ok_bind,asL,if_pos c]
theorem aCw {f:FE}{ρ:Mir.Env}{fr:Bool}{d:D}(h:f ρ=.ok ⟨.shr,fr,d⟩):aX [f] ρ=.ok ⟨.tmp,fr&&true,.lst [d]⟩:=by
 have ev:=aB h (bD (ρ:=ρ));simp only[aX,ev,R.ok_bind];rfl
def nb (N:Nat):Nat->Nat
 | 0=>N
 | j+1=>2*nb N j+1
theorem sN (N:Nat):∀ j,nb N j+1=2^j*(N+1)
 | 0=>by simp[nb]
 | j+1=>by
  have:=sN N j
  rw[Nat.pow_succ,Nat.mul_right_comm,←this];show 2*nb N j+1+1=_
  omega
theorem pL (N:Nat){i j:Nat}(h:i<=j):nb N i<=nb N j:=by
 have a:=sN N i;have b:=sN N j;have:2^i*(N+1)<=2^j*(N+1):=Nat.mul_le_mul_right _ (vI h)
 omega
structure Cs where
 t:List (List Int)
 hs:List Nat
 b:Int
def fnd (t:List (List Int))(i w:Nat):List Nat:=(Ch i (t.length-i)).filter fun p=>!decide ((t.getD p []).getD w 0=0)
def mvd (t:List (List Int))(i p:Nat):List (List Int):=t.take i++[t.getD p []]++(t.take p).drop i++t.drop (p+1)
def fA (s:Cs)(w:Nat):Cs:=match fnd s.t s.hs.length w with
 | []=>s
 | p :: _=>⟨swp (mvd s.t s.hs.length p) s.hs.length w s.b,s.hs++[w],(s.t.getD p []).getD w 0⟩
theorem qY {t:List (List Int)}{i p:Nat}(h:i<=p)(hp:p<t.length):(mvd t i p).length=t.length:=by
 unfold mvd;simp only[As,Bt,Cf,Aw];omega
theorem hW {t:List (List Int)}{i p:Nat}(hp:p<t.length){r:List Int}(h:r∈mvd t i p):r∈t:=by
 unfold mvd at h;simp only[Bg,Bz]at h;rcases h with ((h | h) | h) | h
 · exact List.mem_of_mem_take h
 · rw[h];exact Mir.cI hp
 · exact List.mem_of_mem_take (Cv h)
 · exact Cv h
theorem vD {t:List (List Int)}{i p:Nat}(h:i<=p)(hp:p<t.length):(mvd t i p).getD i []=t.getD p []:=by
 unfold mvd;rw[Ag,Ee,Ee,Ar (by rw[Bt];omega),Bt,Em (by omega),Nat.sub_self]
 rfl
theorem aIj {t:List (List Int)}{i w:Nat}{b:Int}(h:i<t.length):(swp t i w b).getD i []=t.getD i []:=by
 unfold swp;rw[Ag,Be,List.getElem?_zipIdx,Ax h];simp
theorem wZ {t:List (List Int)}{i w:Nat}{b:Int}(hi:i<t.length){r:List Int}(h:r∈swp t i w b):r∈t\/∃ q∈t,r=swr (t.getD i []) q w b:=by
 unfold swp at h;obtain⟨p,hp,rfl⟩:=Bb.mp h
 have pm:p.1∈t:=by
  have:=List.mem_zipIdx hp
  rw[this.2.2];exact Fj _
 by_cases z:p.2=i
 · rw[if_pos z];exact .inl (Mir.cI hi)
 · rw[if_neg z];exact .inr ⟨p.1,pm,rfl⟩
structure Ok (m L N k:Nat)(s:Cs):Prop where
 len:s.t.length=m
 row:∀ r∈s.t,r.length=L
 hk:s.hs.length<=k
 hm:s.hs.length<=m
 lt:∀ h∈s.hs,h<k
 b0:s.b≠0
 bn:s.b.natAbs<2^nb N s.hs.length
 tn:BN (nb N s.hs.length) s.t
theorem rY {t:List (List Int)}{i w p:Nat}{r:List Nat}(h:fnd t i w=p :: r):i<=p/\p<t.length/\(t.getD p []).getD w 0≠0:=by
 have:p∈fnd t i w:=by rw[h];exact Af
 obtain⟨h1,h2⟩:=Dg.mp this;obtain⟨h3,h4⟩:=Fc.mp h1;refine⟨h3,by omega,?_⟩
 simpa using h2
theorem Ok.step {m L N k:Nat}{s:Cs}(o:Ok m L N k s)(hk:k<L):Ok m L N (k+1) (fA s k):=by
 unfold fA;cases e:fnd s.t s.hs.length k with
 | nil =>
  show Ok m L N (k+1) s
  exact⟨o.len,o.row,by have:=o.hk;omega,o.hm,fun h q=>by have:=o.lt h q;omega,o.b0,o.bn,o.tn⟩
 | cons p r =>
  obtain⟨h1,h2,h3⟩:=rY e;have hl:=o.len;have pm:s.t.getD p []∈s.t:=Mir.cI h2;have il:s.hs.length<(mvd s.t s.hs.length p).length:=by rw[qY h1 h2];omega
  have len:(s.hs++[k]).length=s.hs.length+1:=by rw[As,Aw]
  have big:nb N s.hs.length<=nb N (s.hs.length+1):=pL N (Ft _);show Ok m L N (k+1) ⟨swp (mvd s.t s.hs.length p) s.hs.length k s.b,s.hs++[k],(s.t.getD p []).getD k 0⟩
  refine⟨by show (swp _ _ _ _).length=m;rw[xE,qY h1 h2];exact hl,fun q hq=>?_,by rw[len];have:=o.hk;omega,by rw[len];omega,fun h q=>?_,h3,?_,?_⟩
  · rcases wZ il hq with q1 | ⟨q1,q2,rfl⟩
    · exact o.row _ (hW h2 q1)
    · rw[aD8,vD h1 h2,o.row _ (hW h2 q2),o.row _ pm,Nat.min_self]
  · rcases Bg.mp q with q | q
    · have:=o.lt h q;omega
    · have:=Bz.mp q;omega
  · show ((s.t.getD p []).getD k 0).natAbs<2^nb N (s.hs++[k]).length
    rw[len];exact Ac (o.tn _ pm _ (Mir.cI (by rw[o.row _ pm];exact hk))) (vI big)
  · show BN (nb N (s.hs++[k]).length) (swp (mvd s.t s.hs.length p) s.hs.length k s.b)
    rw[len];intro q hq;rcases wZ il hq with q1 | ⟨q1,q2,rfl⟩
    · exact fun x hx=>Ac (o.tn _ (hW h2 q1) x hx) (vI big)
    · rw[vD h1 h2]
      exact aJs o.b0 (o.tn _ pm) (o.tn _ (hW h2 q2)) (by rw[o.row _ pm];exact hk) (by rw[o.row _ (hW h2 q2)];exact hk)
end Hm
namespace Hm
open PySem L2 Mir Sm
def hsD (hs:List Nat):List D:=hs.map fun (h:Nat)=>D.int (h:Int)
theorem rG (hs:List Nat):(hsD hs).length=hs.length:=Ah _
theorem iY (t:List (List Int)):(lil t).length=t.length:=Ah _
abbrev tR (fr:Bool)(t:List (List Int)):Option Res:=some ⟨.own,fr,.lst (lil t)⟩
abbrev hR (hs:List Nat):Option Res:=some ⟨.own,true,.lst (hsD hs)⟩
abbrev kE (n:Nat)(t0:List (List Int))(x2 x3 x4 x5 x6 x7:Option Res):Mir.Env:=[some ⟨.shr,false,.int n⟩,some ⟨.shr,false,.lst (lil t0)⟩,x2,x3,x4,x5,x6,x7]
abbrev aCb:FE:=bB (nX (vE 6) (dF (vE 2))) 1 [5,2] (.nm 0) (Mir.bIf (bT (neE (bA (bA (vE 2) (vE 0)) (vE 1)) (cE (.int 0)))) (vE 0))
abbrev zN:FE:=dX (dX (dX (fP (vE 2) (noO) (soO (vE 6))) (aX [bA (vE 2) (bA (vE 7) (cE (.int 0)))])) (fP (vE 2) (soO (vE 6)) (soO (bA (vE 7) (cE (.int 0)))))) (fP (vE 2) (soO (eW (bA (vE 7) (cE (.int 0))) (cE (.int 1)))) (noO))
abbrev pQ (φ:Φ):FS:=aP (aO 6 (dF (vE 3))) (aP (aO 7 aCb) (ifS (jS (vE 7)) (aP (aO 2 zN) (aP (fO 2 (aO 2 (aG φ [vE 2,vE 6,vE 5,vE 4]))) (aP (aO 4 (bA (bA (vE 2) (vE 6)) (vE 5))) (mW 3 (vE 5))))) bZ))
theorem aIe (i c:Nat):nY (i:Int) c=(Ch i c).map fun (p:Nat)=>D.int (p:Int):=by
 rw[sT,List.range'_eq_map_range,Dq];refine List.map_congr_left fun x _=>?_
 simp
theorem vT {ρ:Mir.Env}{i:Nat}{fr:Bool}{t:List (List Int)}(h:ρ[i]?=some (tR fr t)):vE i ρ=.ok ⟨.own,fr,.lst (lil t)⟩:=by
 unfold vE;rw[h];cases fr<;>rfl
theorem aJy {n:Nat}{t0 t:List (List Int)}{fr:Bool}{x3 x4 x7:Option Res}{i k L:Nat}(hr:∀ r∈t,r.length=L)(hk:k<L)(hi:i<=t.length)(ht:t.length<=1000) :
 aCb (kE n t0 (tR fr t) x3 x4 (nR k) (nR i) x7)=.ok ⟨.tmp,true,.lst (hsD (fnd t i k))⟩:=by
 have it:nX (vE 6) (dF (vE 2)) (kE n t0 (tR fr t) x3 x4 (nR k) (nR i) x7)=.ok ⟨true,true,(Ch i (t.length-i)).map fun (p:Nat)=>D.int (p:Int)⟩:=by
  refine(aEf (x:=⟨.shr,true,.int i⟩) (y:=⟨.shr,true,.int (t.length:Nat)⟩) (lo:=(i:Int)) (m:=t.length-i) rfl rfl ?_ (by show D.int _=D.int _;congr 1;omega) (by omega) (by omega)).trans ?_
  · refine(gG (vT rfl)).trans ?_
    rw[iY];rfl
  · rw[aIe]
 refine(aA6 (k:=1) (fs:=[5,2]) (tg:=.nm 0) (out:=fun (p:Nat)=>D.int (p:Int)) (c:=fun p=>!decide ((t.getD p []).getD k 0=0)) it (fun p hp=>?_) (by rw[List.length_range',sizeLine_eq];omega)).trans rfl
 have hp':=Fc.mp hp;have pl:p<t.length:=by omega
 have pm:t.getD p []∈t:=Mir.cI pl;refine⟨[nR p,nR k,tR fr t],.shr,rfl,?_,by decide⟩
 refine aA9 (fQ (jV (eY (eD (vT rfl) (k':=.shr) (fr':=true) (i:=p) rfl (jP pl)) (k':=.shr) (fr':=true) (i:=k) rfl (iP (by rw[hr _ pm];exact hk))) (k':=.shr) (fr':=true) (j:=0) rfl)) fun _=>rfl
theorem aI2 {n:Nat}{t0 t:List (List Int)}{fr:Bool}{x3 x4 x5:Option Res}{i p:Nat}{r:List Nat}(h1:i<=p)(h2:p<t.length)(ht:t.length<=1000) :
 ∃ fr',zN (kE n t0 (tR fr t) x3 x4 x5 (nR i) (hR (p :: r)))=.ok ⟨.tmp,fr',.lst (lil (mvd t i p))⟩:=by
 have f7:bA (vE 7) (cE (.int 0)) (kE n t0 (tR fr t) x3 x4 x5 (nR i) (hR (p :: r)))=.ok ⟨.shr,true,.int p⟩:=eY (k:=.own) (fr:=true) (ds:=hsD (p :: r)) (i:=0) rfl (k':=.shr) (fr':=true) rfl rfl;have v2:vE 2 (kE n t0 (tR fr t) x3 x4 x5 (nR i) (hR (p :: r)))=.ok ⟨.own,fr,.lst (lil t)⟩:=vT rfl;have a1:=jR (lo:=noO) (hi:=soO (vE 6)) v2 (a:=none) rfl (pX (k:=.shr) (fr:=true) (i:=(i:Int)) rfl);have a2:=aCw (eD v2 f7 (jP h2));have a3:=jR (lo:=soO (vE 6)) (hi:=soO (bA (vE 7) (cE (.int 0)))) v2 (pX (k:=.shr) (fr:=true) (i:=(i:Int)) rfl) (pX f7);have a4:=jR (lo:=soO (eW (bA (vE 7) (cE (.int 0))) (cE (.int 1)))) (hi:=noO) v2 (pX (bW (C:=C0) (G:=fun i j=>i+j) f7 (k':=.shr) (fr':=true) (j:=1) rfl rfl)) (b:=none) rfl
 rw[aK1]at a1;rw[aJ9 _ h1 (by rw[iY];omega)]at a3
 rw[show ((p:Int)+1)=((p+1:Nat):Int) by omega,aCe]at a4
 have c1:=kG a1 a2 (by rw[Bt,iY,Aw,sizeLine_eq];omega)
 have c2:=kG c1 a3 (by simp only[As,Bt,Cf,iY,Aw,sizeLine_eq];omega)
 have c3:=kG c2 a4 (by simp only[As,Bt,Cf,iY,Aw,sizeLine_eq];omega)
 have:(lil t).take i++[.lst (li (t.getD p []))]++((lil t).take p).drop i++(lil t).drop (p+1)=lil (mvd t i p):=by
  unfold mvd lil;simp only[Cm,List.map_take,Ei,Am,List.map_nil]
 rw[this]at c3;exact⟨_,c3⟩
def mG (φ:Φ):Prop:=∀ {t:List (List Int)} {i w N:Nat} {b:Int},i<t.length->(∀ r∈t,w<r.length)->(∀ r∈t,r.length<=1000)->t.length<=1000->b≠0->b.natAbs<2^N->0<N->2*N+1<=9000->BN N t->∃ fr,φ [.lst (lil t),.int i,.int w,.int b]=.ok ⟨.tmp,fr,.lst (lil (swp t i w b))⟩
theorem aAk {φ:Φ}(hφ:mG φ){n m L N k:Nat}{t0:List (List Int)}{s:Cs}(o:Ok m L N k s)(hk:k<L)(hL:L<=1000)(hm:m<=1000)(hN:0<N)(h9:2*nb N s.hs.length+1<=9000)(fr:Bool)(x6 x7:Option Res) :
 ∃ fr' y6 y7,pQ φ (kE n t0 (tR fr s.t) (hR s.hs) (nR s.b) (nR k) x6 x7)=.nx (kE n t0 (tR fr' (fA s k).t) (hR (fA s k).hs) (nR (fA s k).b) (nR k) y6 y7):=by
 have ol:=o.len
 have e1:aO 6 (dF (vE 3)) (kE n t0 (tR fr s.t) (hR s.hs) (nR s.b) (nR k) x6 x7)=.nx (kE n t0 (tR fr s.t) (hR s.hs) (nR s.b) (nR k) (nR s.hs.length) x7):=by
  have:=set_shr (i:=6) (gG (f:=vE 3) (ρ:=kE n t0 (tR fr s.t) (hR s.hs) (nR s.b) (nR k) x6 x7) (k:=.own) (fr:=true) (ds:=hsD s.hs) rfl)
  rw[rG]at this;exact this
 have e2:aO 7 aCb (kE n t0 (tR fr s.t) (hR s.hs) (nR s.b) (nR k) (nR s.hs.length) x7)=.nx (kE n t0 (tR fr s.t) (hR s.hs) (nR s.b) (nR k) (nR s.hs.length) (hR (fnd s.t s.hs.length k))) :=
  dU (aJy o.row hk (by have:=o.hm;omega) (by omega))
 have e3:∀ l:List Nat,jS (vE 7) (kE n t0 (tR fr s.t) (hR s.hs) (nR s.b) (nR k) (nR s.hs.length) (hR l))=.ok (!(hsD l).isEmpty):=fun l=>rfl;cases e:fnd s.t s.hs.length k with
 | nil =>
  rw[e]at e2;refine⟨fr,nR s.hs.length,hR [],(aH e1).trans ((aH e2).trans ((fR (e3 [])).trans ?_))⟩
  have:fA s k=s:=by unfold fA;rw[e]
  rw[this];rfl
 | cons p r =>
  rw[e]at e2;obtain⟨h1,h2,h3⟩:=rY e;have cl:fA s k=⟨swp (mvd s.t s.hs.length p) s.hs.length k s.b,s.hs++[k],(s.t.getD p []).getD k 0⟩:=by unfold fA;rw[e]
  obtain⟨f1,q1⟩:=aI2 (n:=n) (t0:=t0) (t:=s.t) (fr:=fr) (x3:=hR s.hs) (x4:=nR s.b) (x5:=nR k) (i:=s.hs.length) (p:=p) (r:=r) h1 h2 (by omega)
  have ml:(mvd s.t s.hs.length p).length=s.t.length:=qY h1 h2;have rowm:∀ q∈mvd s.t s.hs.length p,q.length=L:=fun q hq=>o.row q (hW h2 hq);obtain⟨f2,q2⟩:=hφ (t:=mvd s.t s.hs.length p) (i:=s.hs.length) (w:=k) (N:=nb N s.hs.length) (b:=s.b) (by omega) (fun q hq=>by rw[rowm q hq];exact hk) (fun q hq=>by rw[rowm q hq];exact hL) (by omega) o.b0 o.bn (by have:=pL N (Cq s.hs.length);have e0:nb N 0=N:=rfl;omega) h9 (fun q hq=>o.tn q (hW h2 hq))
  have g1:aO 2 zN (kE n t0 (tR fr s.t) (hR s.hs) (nR s.b) (nR k) (nR s.hs.length) (hR (p :: r)))=.nx (kE n t0 (tR f1 (mvd s.t s.hs.length p)) (hR s.hs) (nR s.b) (nR k) (nR s.hs.length) (hR (p :: r))):=dU q1;have ev:evs [vE 2,vE 6,vE 5,vE 4] (kE n t0 (some ⟨.shr,f1,.lst (lil (mvd s.t s.hs.length p))⟩) (hR s.hs) (nR s.b) (nR k) (nR s.hs.length) (hR (p :: r)))=.ok [⟨.shr,f1||D.imm (.lst (lil (mvd s.t s.hs.length p))),.lst (lil (mvd s.t s.hs.length p))⟩,⟨.shr,true,.int s.hs.length⟩,⟨.shr,true,.int k⟩,⟨.shr,true,.int s.b⟩]:=rfl
  obtain⟨f3,q3⟩:∃ f3,aG φ [vE 2,vE 6,vE 5,vE 4] (kE n t0 (some ⟨.shr,f1,.lst (lil (mvd s.t s.hs.length p))⟩) (hR s.hs) (nR s.b) (nR k) (nR s.hs.length) (hR (p :: r)))=.ok ⟨.tmp,f3,.lst (lil (swp (mvd s.t s.hs.length p) s.hs.length k s.b))⟩:=by
   cases f2 with
   | true=>exact⟨true,kS ev q2⟩
   | false=>exact⟨_,(uE ev q2 rfl).trans rfl⟩
  have g2:fO 2 (aO 2 (aG φ [vE 2,vE 6,vE 5,vE 4])) (kE n t0 (tR f1 (mvd s.t s.hs.length p)) (hR s.hs) (nR s.b) (nR k) (nR s.hs.length) (hR (p :: r)))=.nx (kE n t0 (tR f3 (swp (mvd s.t s.hs.length p) s.hs.length k s.b)) (hR s.hs) (nR s.b) (nR k) (nR s.hs.length) (hR (p :: r))) :=
   (lI (e:=⟨.own,f1,.lst (lil (mvd s.t s.hs.length p))⟩) rfl).trans (dU q3)
  have il:s.hs.length<(mvd s.t s.hs.length p).length:=by omega
  have pm:s.t.getD p []∈s.t:=Mir.cI h2
  have at1:(lil (swp (mvd s.t s.hs.length p) s.hs.length k s.b))[s.hs.length]?=some (.lst (li (s.t.getD p []))):=by
   rw[jP (by rw[xE];exact il),aIj il,vD h1 h2]
  have g3:aO 4 (bA (bA (vE 2) (vE 6)) (vE 5)) (kE n t0 (tR f3 (swp (mvd s.t s.hs.length p) s.hs.length k s.b)) (hR s.hs) (nR s.b) (nR k) (nR s.hs.length) (hR (p :: r)))=.nx (kE n t0 (tR f3 (swp (mvd s.t s.hs.length p) s.hs.length k s.b)) (hR s.hs) (nR ((s.t.getD p []).getD k 0)) (nR k) (nR s.hs.length) (hR (p :: r))) :=
   set_shr (eY (eD (vT rfl) (k':=.shr) (fr':=true) (i:=s.hs.length) rfl at1) (k':=.shr) (fr':=true) (i:=k) rfl (iP (by rw[o.row _ pm];exact hk)))
  have g4:mW 3 (vE 5) (kE n t0 (tR f3 (swp (mvd s.t s.hs.length p) s.hs.length k s.b)) (hR s.hs) (nR ((s.t.getD p []).getD k 0)) (nR k) (nR s.hs.length) (hR (p :: r)))=.nx (kE n t0 (tR f3 (swp (mvd s.t s.hs.length p) s.hs.length k s.b)) (hR (s.hs++[k])) (nR ((s.t.getD p []).getD k 0)) (nR k) (nR s.hs.length) (hR (p :: r))):=by
   have:=vU (i:=3) (f:=vE 5) (ρ:=kE n t0 (tR f3 (swp (mvd s.t s.hs.length p) s.hs.length k s.b)) (hR s.hs) (nR ((s.t.getD p []).getD k 0)) (nR k) (nR s.hs.length) (hR (p :: r))) (fr:=true) (ds:=hsD s.hs) (k:=.shr) (fr':=true) (d:=.int k) rfl rfl (by decide) (by rw[rG,sizeLine_eq];have:=o.hm;omega)
   rw[show hsD s.hs++[D.int (k:Int)]=hsD (s.hs++[k]) by unfold hsD;rw[Cm];rfl]at this
   exact this
  refine⟨f3,nR s.hs.length,hR (p :: r),(aH e1).trans ((aH e2).trans ((fR (e3 (p :: r))).trans ?_))⟩
  rw[cl];exact(aH g1).trans ((aH g2).trans ((aH g3).trans g4))
end Hm
namespace Hm
open PySem L2 Mir Sm
theorem sY {α:Type}{tg:Tg}{b:FB}{fr:Bool}{ρ:Mir.Env}{inj out:α->D}:∀ (xs:List α),(∀ x∈xs,∃ ρ1 k f,tg.bind fr (inj x) ρ=.ok ρ1/\b ρ1=.ok (some ⟨k,f,out x⟩)/\k≠.own)->∃ f',fN tg b fr ρ (xs.map inj)=.ok (f',xs.map out)
 | [],_=>⟨true,rfl⟩
 | x :: r,h=>by
  obtain⟨ρ1,k,f,h1,h2,h3⟩:=h x Af;obtain⟨f',ih⟩:=sY r fun y hy=>h y (Ab _ hy);refine⟨f&&f',?_⟩
  simp only[Am,fN,h1,R.ok_bind,h2,Res.give,if_neg h3,ih]
theorem rQ {α:Type}{it:FI}{tg:Tg}{b:FB}{fr st:Bool}{ρ:Mir.Env}{k:Nat}{fs:List Nat}{inj out:α->D}{xs:List α}(hi:it ρ=.ok ⟨st,fr,xs.map inj⟩)
 (h:∀ x∈xs,∃ ρ1 k' f,tg.bind fr (inj x) (eG k fs ρ)=.ok ρ1/\b ρ1=.ok (some ⟨k',f,out x⟩)/\k'≠.own) (hz:xs.length<=sizeLine):∃ f',bB it k fs tg b ρ=.ok ⟨.tmp,f',.lst (xs.map out)⟩:=by
 obtain⟨f',e⟩:=sY xs h;refine⟨f',?_⟩
 simp only[bB,hi,R.ok_bind,e,Ah,if_pos hz]
theorem aDh {f g h:FE}{ρ:Mir.Env}{k1 k2 k3:Kd}{f1 f2 f3:Bool}{a b c:D}(h1:f ρ=.ok ⟨k1,f1,a⟩)(h2:g ρ=.ok ⟨k2,f2,b⟩)(h3:h ρ=.ok ⟨k3,f3,c⟩)(n1:k1≠.own)(n2:k2≠.own)(n3:k3≠.own):oH 1 [f,g,h] ρ=.ok ⟨.shr,f1&&(f2&&(f3&&true)),.obj 1 [a,b,c]⟩:=by
 have ev:=aB h1 (aB h2 (aB h3 (bD (ρ:=ρ))));simp only[oH,ev,R.ok_bind,gives,Res.give,if_neg n1,if_neg n2,if_neg n3];rfl
def clr (t:List (List Int))(n:Nat):Cs:=(Bj n).foldl fA ⟨t,[],1⟩
def uV (t:List (List Int)):List (List Int):=t.map fun r=>r.map fun x=>-x
def cF (t:List (List Int))(n:Nat):Cs:=if (clr t n).b<0 then ⟨uV (clr t n).t,(clr t n).hs,-(clr t n).b⟩ else clr t n
abbrev bQ (s:Cs):D:=.obj 1 [.int s.b,.lst (hsD s.hs),.lst (lil s.t)]
theorem iM {tg:Tg}{b:FS}{fr:Bool}{d:D}{r:List D}{ρ ρ1 ρ2:Mir.Env}(h:tg.bind fr d ρ=.ok ρ1)(h2:b ρ1=.nx ρ2):eS tg b fr (d :: r) ρ=eS tg b fr r ρ2:=by
 simp only[eS,h,R.at,h2]
theorem aB6 {φ:Φ}(hφ:mG φ){n m L N:Nat}{t0:List (List Int)}(hL:L<=1000)(hm:m<=1000)(hN:0<N)(hn:n<=L)(h9:2*nb N (n-1)+1<=9000)(j:Nat):∀ (k:Nat) (s:Cs) (fr:Bool) (x5 x6 x7:Option Res),Ok m L N k s->k+j=n ->
 Ok m L N n ((Ch k j).foldl fA s)/\∃ fr' y5 y6 y7,eS (.nm 5) (pQ φ) true ((Ch k j).map fun (i:Nat)=>D.int (i:Int)) (kE n t0 (tR fr s.t) (hR s.hs) (nR s.b) x5 x6 x7)=.nx (kE n t0 (tR fr' ((Ch k j).foldl fA s).t) (hR ((Ch k j).foldl fA s).hs) (nR ((Ch k j).foldl fA s).b) y5 y6 y7):=by
 induction j with
 | zero =>
  intro k s fr x5 x6 x7 o h;have kn:k=n:=by omega
  subst kn;exact⟨o,fr,x5,x6,x7,rfl⟩
 | succ j ih =>
  intro k s fr x5 x6 x7 o h;have kn:k<n:=by omega
  have bound:2*nb N s.hs.length+1<=9000:=by
   have:=pL N (show s.hs.length<=n-1 by have:=o.hk;omega)
   omega
  obtain⟨f1,y6,y7,e⟩:=aAk hφ (n:=n) (t0:=t0) o (by omega) hL hm hN bound fr x6 x7
  obtain⟨o2,f2,z5,z6,z7,e2⟩:=ih (k+1) (fA s k) f1 (nR k) y6 y7 (o.step (by omega)) (by omega)
  rw[Fi,Eo,Am];refine⟨o2,f2,z5,z6,z7,?_⟩
  have bd:Tg.bind true (.nm 5) (.int (k:Int)) (kE n t0 (tR fr s.t) (hR s.hs) (nR s.b) x5 x6 x7)=.ok (kE n t0 (tR fr s.t) (hR s.hs) (nR s.b) (nR k) x6 x7):=rfl;have st:eS (.nm 5) (pQ φ) true (.int (k:Int) :: (Ch (k+1) j).map fun (i:Nat)=>D.int (i:Int)) (kE n t0 (tR fr s.t) (hR s.hs) (nR s.b) x5 x6 x7)=eS (.nm 5) (pQ φ) true ((Ch (k+1) j).map fun (i:Nat)=>D.int (i:Int)) (kE n t0 (tR f1 (fA s k).t) (hR (fA s k).hs) (nR (fA s k).b) (nR k) y6 y7):=iM bd e;exact st.trans e2
abbrev xX:FE:=bB (dY (vE 2)) 1 [] (.nm 0) (bE (bB (dY (vE 0)) 1 [] (.nm 0) (bE (gN (vE 0)))))
abbrev gR (φ:Φ):FS:=aP (aO 2 (bB (dY (vE 1)) 1 [] (.nm 0) (bE (lJ (vE 0))))) (aP (aO 3 (aX [])) (aP (aO 4 (cE (.int 1))) (aP (gL (dE (vE 0)) (.nm 5) (pQ φ)) (aP (ifS (bT (ltE (vE 4) (cE (.int 0)))) (fO 3 (bF (oH 1 [gN (vE 4),vE 3,xX]))) bZ) (fO 2 (fO 3 (bF (oH 1 [vE 4,vE 3,vE 2]))))))))
theorem aIq {ρ:Mir.Env}{fr:Bool}{t:List (List Int)}(h:ρ[2]?=some (tR fr t))(hl:∀ r∈t,r.length<=1000)(ht:t.length<=1000):xX ρ=.ok ⟨.tmp,true,.lst (lil (uV t))⟩:=by
 refine(eF (fr:=fr) (st:=false) (inj:=fun r:List Int=>.lst (li r)) (out:=fun r=>.lst (li (r.map fun x=>-x))) (xs:=t) ((lE (vT h)).trans rfl) (fun r hr=>?_) (by rw[sizeLine_eq];omega)).trans ?_
 · refine⟨[some ⟨.shr,fr,.lst (li r)⟩],.tmp,rfl,gU ?_,by decide⟩
   refine(eF (fr:=fr||D.imm (.lst (li r))) (st:=true) (inj:=D.int) (out:=fun x=>.int (-x)) (xs:=r) rfl (fun x _=>?_) (by have:=hl r hr;rw[sizeLine_eq];omega)).trans ?_
   · exact⟨[some ⟨.shr,fr||D.imm (.lst (li r)),.int x⟩],.shr,rfl,gU rfl,by decide⟩
   · unfold li;rw[Dq];rfl
 · unfold lil uV;rw[Dq];rfl
theorem zH {φ:Φ}(hφ:mG φ){n L N:Nat}{t:List (List Int)}(hr:∀ r∈t,r.length=L)(hn:n<=L)(hL:L<=1000)(ht:t.length<=1000)(hN:0<N)(h9:2*nb N (n-1)+1<=9000)(hB:BN N t) :
 Ok t.length L N n (clr t n)/\∃ fr,bY 2 8 (gR φ) [.int n,.lst (lil t)]=.ok ⟨.shr,fr,bQ (cF t n)⟩:=by
 have o0:Ok t.length L N 0 ⟨t,[],1⟩:=⟨rfl,hr,An _,Cq _,fun h q=>absurd q (by simp),(show (1:Int)≠0 by decide),by
  show (1:Nat)<2^N
  exact Ac (by decide) (vI (show 1<=N from hN)),hB⟩
 obtain⟨f0,c0⟩:=rQ (it:=dY (vE 1)) (tg:=.nm 0) (b:=bE (lJ (vE 0))) (ρ:=kE n t none none none none none none) (k:=1) (fs:=[]) (st:=true) (fr:=false) (inj:=fun r:List Int=>.lst (li r)) (out:=fun r=>.lst (li r)) (xs:=t) rfl (fun r _=>⟨[some ⟨.shr,false,.lst (li r)⟩],.tmp,_,rfl,gU rfl,by decide⟩) (by rw[sizeLine_eq];omega)
 have e1:aO 2 (bB (dY (vE 1)) 1 [] (.nm 0) (bE (lJ (vE 0)))) (kE n t none none none none none none)=.nx (kE n t (tR f0 t) none none none none none):=dU c0;have e2:aO 3 (aX []) (kE n t (tR f0 t) none none none none none)=.nx (kE n t (tR f0 t) (hR []) none none none none):=rfl;have e3:aO 4 (cE (.int 1)) (kE n t (tR f0 t) (hR []) none none none none)=.nx (kE n t (tR f0 t) (hR []) (nR 1) none none none):=rfl;obtain⟨o,f1,y5,y6,y7,el⟩:=aB6 hφ (n:=n) (t0:=t) hL ht hN hn h9 n 0 ⟨t,[],1⟩ f0 none none none o0 (by omega)
 rw[←List.range_eq_range']at o el;have o:Ok t.length L N n (clr t n):=o
 have e4:gL (dE (vE 0)) (.nm 5) (pQ φ) (kE n t (tR f0 t) (hR []) (nR 1) none none none)=.nx (kE n t (tR f1 (clr t n).t) (hR (clr t n).hs) (nR (clr t n).b) y5 y6 y7) :=
  (lN (jD (k:=.shr) (fr:=true) (n:=n) rfl (by omega))).trans el
 refine⟨o,?_⟩
 have row:=o.row;have len:=o.len;have e5:bT (ltE (vE 4) (cE (.int 0))) (kE n t (tR f1 (clr t n).t) (hR (clr t n).hs) (nR (clr t n).b) y5 y6 y7)=.ok (decide ((clr t n).b<0)):=fQ (iX (G:=fun i j=>decide (i<j)) (k:=.shr) (fr:=true) (i:=(clr t n).b) rfl (k':=.shr) (fr':=true) (j:=0) rfl);have fin:∀ {fr:Bool} {d:D},d.imm=false->(R.ok ⟨.shr,fr||d.imm,d⟩:R Res)=.ok ⟨.shr,fr,d⟩:=fun {fr d} h=>by rw[h,Ej]
 by_cases z:(clr t n).b<0
 · have v3:vE 3 (kE n t (tR f1 (clr t n).t) (some ⟨.shr,true,.lst (hsD (clr t n).hs)⟩) (nR (clr t n).b) y5 y6 y7)=.ok ⟨.shr,true,.lst (hsD (clr t n).hs)⟩:=rfl
   have v4:gN (vE 4) (kE n t (tR f1 (clr t n).t) (some ⟨.shr,true,.lst (hsD (clr t n).hs)⟩) (nR (clr t n).b) y5 y6 y7)=.ok ⟨.shr,true,.int (-(clr t n).b)⟩:=rfl;have nw:=aDh v4 v3 (aIq (ρ:=kE n t (tR f1 (clr t n).t) (some ⟨.shr,true,.lst (hsD (clr t n).hs)⟩) (nR (clr t n).b) y5 y6 y7) (fr:=f1) (t:=(clr t n).t) rfl (fun r hr=>by rw[o.row r hr];exact hL) (by rw[o.len];exact ht)) (by decide) (by decide) (by decide)
   have e6:ifS (bT (ltE (vE 4) (cE (.int 0)))) (fO 3 (bF (oH 1 [gN (vE 4),vE 3,xX]))) bZ (kE n t (tR f1 (clr t n).t) (hR (clr t n).hs) (nR (clr t n).b) y5 y6 y7)=.rt ⟨.shr,true,bQ (cF t n)⟩:=by
    refine(fR e5).trans ?_
    rw[decide_eq_true z,if_pos rfl];refine(lI (e:=⟨.own,true,.lst (hsD (clr t n).hs)⟩) rfl).trans ((gB nw).trans ?_)
    unfold cF;rw[if_pos z];rfl
   exact⟨true,(dM (np:=2) (n:=8) (s:=gR φ) (ds:=[.int n,.lst (lil t)]) rfl ((aH e1).trans ((aH e2).trans ((aH e3).trans ((aH e4).trans (rP e6)))))).trans (fin rfl)⟩
 · have e6:ifS (bT (ltE (vE 4) (cE (.int 0)))) (fO 3 (bF (oH 1 [gN (vE 4),vE 3,xX]))) bZ (kE n t (tR f1 (clr t n).t) (hR (clr t n).hs) (nR (clr t n).b) y5 y6 y7)=.nx (kE n t (tR f1 (clr t n).t) (hR (clr t n).hs) (nR (clr t n).b) y5 y6 y7):=by
    refine(fR e5).trans ?_
    rw[decide_eq_false z];rfl
   have v2:vE 2 (kE n t (some ⟨.shr,f1,.lst (lil (clr t n).t)⟩) (some ⟨.shr,true,.lst (hsD (clr t n).hs)⟩) (nR (clr t n).b) y5 y6 y7)=.ok ⟨.shr,f1||D.imm (.lst (lil (clr t n).t)),.lst (lil (clr t n).t)⟩:=rfl;have v3:vE 3 (kE n t (some ⟨.shr,f1,.lst (lil (clr t n).t)⟩) (some ⟨.shr,true,.lst (hsD (clr t n).hs)⟩) (nR (clr t n).b) y5 y6 y7)=.ok ⟨.shr,true,.lst (hsD (clr t n).hs)⟩:=rfl;have v4:vE 4 (kE n t (some ⟨.shr,f1,.lst (lil (clr t n).t)⟩) (some ⟨.shr,true,.lst (hsD (clr t n).hs)⟩) (nR (clr t n).b) y5 y6 y7)=.ok ⟨.shr,true,.int (clr t n).b⟩:=rfl;have nw:=gB (aDh v4 v3 v2 (by decide) (by decide) (by decide))
   have e7:fO 2 (fO 3 (bF (oH 1 [vE 4,vE 3,vE 2]))) (kE n t (tR f1 (clr t n).t) (hR (clr t n).hs) (nR (clr t n).b) y5 y6 y7)=.rt ⟨.shr,true&&(true&&((f1||D.imm (.lst (lil (clr t n).t)))&&true)),bQ (cF t n)⟩:=by
    refine(lI (e:=⟨.own,f1,.lst (lil (clr t n).t)⟩) rfl).trans ((lI (e:=⟨.own,true,.lst (hsD (clr t n).hs)⟩) rfl).trans (nw.trans ?_))
    unfold cF;rw[if_neg z]
   exact⟨_,(dM (np:=2) (n:=8) (s:=gR φ) (ds:=[.int n,.lst (lil t)]) rfl ((aH e1).trans ((aH e2).trans ((aH e3).trans ((aH e4).trans ((aH e6).trans e7)))))).trans (fin rfl)⟩
end Hm
namespace Hm
open PySem L2 Mir
abbrev lT:FS:=(aP (aO 4 (vE 1)) (aP (aO 1 (vE 3)) (aO 3 (dO (vE 4) (vE 3)))))
abbrev lQ:FT:=bT (neE (vE 3) (cE (.int 0)))
abbrev aF7:FS :=
 (aP (aO 1 (cE (.int 0)))
 (aP (gL (dY (vE 0)) (.nm 2)
  (aP (aO 3 (vR (vE 2)))
  (aA1 lQ lT)))
 (bF (vE 1))))
abbrev gE (d:D)(c:Nat)(x2 x3 x4:Option Res):Mir.Env:=[some ⟨.shr,false,d⟩,nR c,x2,x3,x4]
section
variable {d:D}{x2:Option Res}
theorem aFh (c r:Nat)(x4:Option Res):lQ (gE d c x2 (nR r) x4)=.ok (!decide ((r:Int)=0)):=fQ (jV (k:=.shr) (fr:=true) (i:=(r:Int)) (k':=.shr) (fr':=true) (j:=0) rfl rfl)
theorem wO (n c:Nat)(x4:Option Res):mB lQ lT (n+1) (gE d c x2 (nR (0:Nat)) x4)=.nx (gE d c x2 (nR (0:Nat)) x4):=by
 have t:=aFh (d:=d) (x2:=x2) c 0 x4;simp only[mB,t,R.at];rfl
theorem aBw (n c:Nat){r:Nat}(h:r≠0)(x4:Option Res):mB lQ lT (n+1) (gE d c x2 (nR r) x4)=mB lQ lT n (gE d r x2 (nR ((c%r:Nat):Int)) (nR c)):=by
 have t:=aFh (d:=d) (x2:=x2) c r x4;rw[decide_eq_false (by omega)]at t
 have e1:aO 4 (vE 1) (gE d c x2 (nR r) x4)=.nx (gE d c x2 (nR r) (nR c)):=rfl;have e2:aO 1 (vE 3) (gE d c x2 (nR r) (nR c))=.nx (gE d r x2 (nR r) (nR c)):=rfl;have e3:aO 3 (dO (vE 4) (vE 3)) (gE d r x2 (nR r) (nR c))=.nx (gE d r x2 (nR ((c%r:Nat):Int)) (nR c)):=set_shr (bW (k:=.shr) (fr:=true) (i:=(c:Int)) (k':=.shr) (fr':=true) (j:=(r:Int)) rfl rfl (jM (by omega)))
 have b:lT (gE d c x2 (nR r) x4)=.nx (gE d r x2 (nR ((c%r:Nat):Int)) (nR c)):=(aH e1).trans ((aH e2).trans e3);simp only[mB,t,R.at,b];rfl
theorem xV:∀ (n f c r:Nat) (x4:Option Res),r<2^n->2*n+1<=f->∃ y4,mB lQ lT f (gE d c x2 (nR r) x4)=.nx (gE d (Eh c r) x2 (nR (0:Nat)) y4)
 | n,0,_,_,_,_,hf=>absurd hf (by omega)
 | n,f+1,c,0,x4,_,_=>⟨x4,by rw[Nat.gcd_zero_right];exact wO f c x4⟩
 | 0,f+1,c,r+1,x4,h,_=>absurd h (by simp)
 | n+1,f+1,c,r+1,x4,h,hf=>by
  rw[aBw f c (Nat.succ_ne_zero r) x4];have g1:Eh c (r+1)=Eh (r+1) (c%(r+1)):=by rw[Fm c,Nat.gcd_rec (r+1) c,Fm]
  have l1:=Nat.mod_lt c (Nat.succ_pos r);obtain⟨f',rfl⟩:∃ f',f=f'+1:=⟨f-1,by omega⟩
  by_cases z:c%(r+1)=0
  · rw[z]
    refine⟨nR c,?_⟩
    rw[g1,z,Nat.gcd_zero_right];exact wO f' (r+1) (nR c)
  · rw[aBw f' (r+1) z (nR c)]
    have g2:Eh (r+1) (c%(r+1))=Eh (c%(r+1)) ((r+1)%(c%(r+1))):=by rw[Fm (r+1),Nat.gcd_rec (c%(r+1)) (r+1),Fm]
    have half:2*((r+1)%(c%(r+1)))<r+1:=by
     have a:=Nat.mod_lt (r+1) (Nat.pos_of_ne_zero z);have b:=Nat.div_add_mod (r+1) (c%(r+1));have q:1<=(r+1)/(c%(r+1)):=Nat.div_pos (Fk l1) (Nat.pos_of_ne_zero z);have m:=Nat.mul_le_mul_left (c%(r+1)) q;omega
    obtain⟨y4,e⟩:=xV n f' (c%(r+1)) ((r+1)%(c%(r+1))) (nR (r+1:Nat)) (by rw[Nat.pow_succ]at h;omega) (by omega)
    exact⟨y4,by rw[g1,g2];exact e⟩
end
def cZ (xs:List Int):Nat:=xs.foldl (fun g x=>Eh g x.natAbs) 0
theorem uF {d:D}{N:Nat}(hN:N<=9000)(fr:Bool):∀ (xs:List Int) (g:Nat) (x2 x3 x4:Option Res),BR N xs->∃ y2 y3 y4,eS (.nm 2) (aP (aO 3 (vR (vE 2))) (aA1 lQ lT)) fr (li xs) (gE d g x2 x3 x4)=.nx (gE d (xs.foldl (fun g x=>Eh g x.natAbs) g) y2 y3 y4)
 | [],g,x2,x3,x4,_=>⟨x2,x3,x4,rfl⟩
 | x :: xs,g,x2,x3,x4,h=>by
  have bd:Tg.bind fr (.nm 2) (.int x) (gE d g x2 x3 x4)=.ok (gE d g (some ⟨.shr,fr,.int x⟩) x3 x4):=rfl;have ab:(if x<0 then -x else x)=((x.natAbs:Nat):Int):=by split<;>omega
  have e1:aO 3 (vR (vE 2)) (gE d g (some ⟨.shr,fr,.int x⟩) x3 x4)=.nx (gE d g (some ⟨.shr,fr,.int x⟩) (nR x.natAbs) x4):=by
   have:vR (vE 2) (gE d g (some ⟨.shr,fr,.int x⟩) x3 x4)=.ok (sc (.int (if x<0 then -x else x))):=rfl
   rw[ab]at this;exact set_shr this
  obtain⟨y4,e2⟩:=xV (d:=d) (x2:=some ⟨.shr,fr,.int x⟩) N (2^64) g x.natAbs x4 (h x Af) (Bn (show 2*N+1<=18001 by omega) (by decide))
  obtain⟨z2,z3,z4,e3⟩:=uF (d:=d) hN fr xs (Eh g x.natAbs) (some ⟨.shr,fr,.int x⟩) (nR (0:Nat)) y4 fun y hy=>h y (Ab _ hy);exact⟨z2,z3,z4,(iM bd ((aH e1).trans e2)).trans e3⟩
theorem aKr {N:Nat}(hN:N<=9000){xs:List Int}(h:BR N xs):bY 1 5 aF7 [.lst (li xs)]=.ok (sc (.int (cZ xs))):=by
 obtain⟨y2,y3,y4,e⟩:=uF (d:=.lst (li xs)) hN false xs 0 none none none h;have e1:aO 1 (cE (.int 0)) [some ⟨.shr,false,.lst (li xs)⟩,none,none,none,none]=.nx (gE (.lst (li xs)) 0 none none none):=rfl;have e2:gL (dY (vE 0)) (.nm 2) (aP (aO 3 (vR (vE 2))) (aA1 lQ lT)) (gE (.lst (li xs)) 0 none none none)=.nx (gE (.lst (li xs)) (cZ xs) y2 y3 y4):=(lN (fr:=false) (ds:=li xs) rfl).trans e;exact(dM (np:=1) (n:=5) (s:=aF7) (ds:=[.lst (li xs)]) rfl ((aH e1).trans ((aH e2).trans (gB (f:=vE 1) (fr:=true) rfl)))).trans rfl
theorem aBj (xs:List Int):∀ g:Nat,(xs.foldl (fun g x=>Eh g x.natAbs) g) ∣ g/\∀ x∈xs,(xs.foldl (fun g x=>Eh g x.natAbs) g) ∣ x.natAbs:=by
 induction xs with
 | nil=>intro g;exact⟨Nat.dvd_refl _,fun x h=>nomatch h⟩
 | cons y ys ih =>
  intro g;obtain⟨h1,h2⟩:=ih (Eh g y.natAbs);refine⟨Nat.dvd_trans h1 (Nat.gcd_dvd_left _ _),fun x hx=>?_⟩
  rcases Ad.mp hx with rfl | hx
  · exact Nat.dvd_trans h1 (Nat.gcd_dvd_right _ _)
  · exact h2 x hx
theorem sK {xs:List Int}{x:Int}(h:x∈xs)(h0:x≠0):0<cZ xs/\cZ xs<=x.natAbs:=by
 have d:=(aBj xs 0).2 x h;have p:0<x.natAbs:=Int.natAbs_pos.mpr h0;exact⟨Nat.pos_of_dvd_of_pos d p,Nat.le_of_dvd p d⟩
abbrev aBu (φ:Φ):FS :=
 (aP (aO 2 (aG φ [dX (aX [vE 0]) (vE 1)]))
 (bF (yV [gI (vE 0) (vE 2),bB (dY (vE 1)) 1 [2] (.nm 0) (bE (gI (vE 0) (vE 1)))])))
def qX (φ:Φ):Prop:=∀ {N:Nat},N<=9000->∀ {xs:List Int},BR N xs->φ [.lst (li xs)]=.ok (sc (.int (cZ xs)))
theorem aI1 {φ:Φ}(hφ:qX φ){N:Nat}(h0:0<N)(hN:N<=9000){b:Int}(hb:0<b)(bn:b.natAbs<2^N){tops:List Int}(ht:BR N tops)(hz:tops.length<=1000) :
 bY 2 3 (aBu φ) [.int b,.lst (li tops)]=.ok ⟨.shr,true,.tup [.int (b/(cZ (b :: tops):Nat)),.lst (li (tops.map (·/(cZ (b :: tops):Int))))]⟩:=by
 have g:=sK (xs:=b :: tops) Af (by omega)
 have e1:aO 2 (aG φ [dX (aX [vE 0]) (vE 1)]) [some ⟨.shr,false,.int b⟩,some ⟨.shr,false,.lst (li tops)⟩,none]=.nx [some ⟨.shr,false,.int b⟩,some ⟨.shr,false,.lst (li tops)⟩,nR (cZ (b :: tops):Nat)]:=by
  have c:=kG (f:=aX [vE 0]) (g:=vE 1) (ρ:=[some ⟨.shr,false,.int b⟩,some ⟨.shr,false,.lst (li tops)⟩,none]) (k:=.tmp) (fr:=true&&true) (ds:=li [b]) (k':=.shr) (fr':=false||(D.lst (li tops)).imm) (es:=li tops) (aCw (fr:=true) (d:=.int b) rfl) rfl (by rw[Ah,Ah,sizeLine_eq];show 1+_<=_;omega)
  exact set_shr (eM (rs:=[⟨.tmp,(true&&true)&&(false||(D.lst (li tops)).imm),.lst (li (b :: tops))⟩]) (aB c bD) (hφ hN fun x hx=>by rcases Ad.mp hx with rfl | hx;{ exact bn };{ exact ht x hx }))
 have cd:CD b (cZ (b :: tops):Nat)=true:=aGj (by omega) (N:=N) (by omega) h0 hN
 have e2:=bW (C:=CD) (G:=fun i j=>i/j) (f:=vE 0) (g:=vE 2) (ρ:=[some ⟨.shr,false,.int b⟩,some ⟨.shr,false,.lst (li tops)⟩,nR (cZ (b :: tops):Nat)]) (k:=.shr) (fr:=true) (i:=b) (k':=.shr) (fr':=true) (j:=(cZ (b :: tops):Nat)) rfl rfl cd
 have e3:=eF (it:=dY (vE 1)) (ρ:=[some ⟨.shr,false,.int b⟩,some ⟨.shr,false,.lst (li tops)⟩,nR (cZ (b :: tops):Nat)]) (k:=1) (fs:=[2]) (tg:=.nm 0) (b:=bE (gI (vE 0) (vE 1))) (inj:=D.int) (out:=fun x=>.int (x/(cZ (b :: tops):Nat))) (xs:=tops) (lE (k:=.shr) (fr:=false||(D.lst (li tops)).imm) (ds:=li tops) rfl)
  (fun x hx=>⟨[some ⟨.shr,false||(D.lst (li tops)).imm,.int x⟩,nR (cZ (b :: tops):Nat)],.shr,rfl,gU (bW (C:=CD) (G:=fun i j=>i/j) (k:=.shr) (i:=x) (k':=.shr) (fr':=true) (j:=(cZ (b :: tops):Nat)) rfl rfl (aGj (by omega) (N:=N) (by omega) h0 hN)),by decide⟩) (by rw[sizeLine_eq];omega)
 have e4:yV [gI (vE 0) (vE 2),bB (dY (vE 1)) 1 [2] (.nm 0) (bE (gI (vE 0) (vE 1)))] [some ⟨.shr,false,.int b⟩,some ⟨.shr,false,.lst (li tops)⟩,nR (cZ (b :: tops):Nat)]=.ok ⟨.shr,true,.tup [.int (b/(cZ (b :: tops):Nat)),.lst (li (tops.map (·/(cZ (b :: tops):Int))))]⟩:=by
  have ev:evs [gI (vE 0) (vE 2),bB (dY (vE 1)) 1 [2] (.nm 0) (bE (gI (vE 0) (vE 1)))] [some ⟨.shr,false,.int b⟩,some ⟨.shr,false,.lst (li tops)⟩,nR (cZ (b :: tops):Nat)]=_:=aB e2 (aB e3 bD);simp only[yV,ev,R.ok_bind];rw[show li (tops.map (·/(cZ (b :: tops):Int)))=tops.map fun x=>.int (x/(cZ (b :: tops):Nat)) by simp[li,Function.comp_def]]
  rfl
 exact(dM (np:=2) (n:=3) (s:=aBu φ) (ds:=[.int b,.lst (li tops)]) rfl ((aH e1).trans (gB e4))).trans rfl
def eQ (n:Nat):List (List Int):=(Bj n).map fun p=>(Bj n).map fun w=>if w=p then 1 else 0
abbrev kX:FS:=(bF (bB (dE (vE 0)) 1 [0] (.nm 0) (bE (bB (dE (vE 1)) 1 [0] (.nm 0) (bE (ifE (bT (eqE (vE 0) (vE 1))) (cE (.int 1)) (cE (.int 0))))))))
theorem aC4 {n:Nat}(hn:n<=1000):bY 1 1 kX [.int n]=.ok ⟨.tmp,true,.lst (lil (eQ n))⟩:=by
 have c:bB (dE (vE 0)) 1 [0] (.nm 0) (bE (bB (dE (vE 1)) 1 [0] (.nm 0) (bE (ifE (bT (eqE (vE 0) (vE 1))) (cE (.int 1)) (cE (.int 0)))))) [some ⟨.shr,false,.int n⟩]=.ok ⟨.tmp,true,.lst ((Bj n).map fun p=>.lst ((Bj n).map fun w=>.int (if w=p then 1 else 0)))⟩:=by
  refine eF (inj:=fun (p:Nat)=>.int (p:Int)) (xs:=Bj n) (jD (k:=.shr) (fr:=true) (n:=n) rfl (by omega)) (fun p _=>⟨[nR p,some ⟨.shr,false,.int n⟩],.tmp,rfl,gU ?_,by decide⟩) (by rw[Dk,sizeLine_eq];omega)
  refine eF (inj:=fun (w:Nat)=>.int (w:Int)) (xs:=Bj n) (jD (k:=.shr) (fr:=true) (n:=n) rfl (by omega)) (fun w _=>⟨[nR w,nR p],.shr,rfl,gU ?_,by decide⟩) (by rw[Dk,sizeLine_eq];omega)
  have t:bT (eqE (vE 0) (vE 1)) [nR w,nR p]=.ok (decide ((w:Int)=(p:Int))):=fQ (vM (k:=.shr) (fr:=true) (i:=(w:Int)) (k':=.shr) (fr':=true) (j:=(p:Int)) rfl rfl);simp only[ifE,t,R.ok_bind];by_cases z:w=p
  · rw[decide_eq_true (by omega),if_pos z];rfl
  · rw[decide_eq_false (by omega),if_neg z];rfl
 have e:kX [some ⟨.shr,false,.int n⟩]=.rt ⟨.tmp,true,.lst (lil (eQ n))⟩:=by
  refine(mI c).trans ?_
  simp[eQ,lil,li,Function.comp_def]
 exact(dM (np:=1) (n:=1) (s:=kX) (ds:=[.int n]) rfl e).trans rfl
end Hm
namespace Hm
open PySem L2 Mir Sm
theorem jZ {φ:Φ}{fs:FEs}{ρ:Mir.Env}{rs:List Res}{k:Kd}{fr:Bool}{d:D}{y:Bool×List D}(h:evs fs ρ=.ok rs)(hφ:φ (rs.map (·.d))=.ok ⟨k,fr,d⟩)(hg:gives rs=.ok y):∃ f',aG φ fs ρ=.ok ⟨if k=.shr then .shr else .tmp,f',d⟩:=by
 cases fr with
 | true=>exact⟨true,qW h hφ⟩
 | false=>exact⟨_,uE h hφ hg⟩
theorem pY {α:Type}{tg:Tg}{b:FB}{fr:Bool}{ρ:Mir.Env}{inj out:α->D}{c:α->Bool}:∀ (xs:List α),(∀ x∈xs,∃ ρ1 k f,tg.bind fr (inj x) ρ=.ok ρ1/\b ρ1=.ok (if c x then some ⟨k,f,out x⟩ else none)/\k≠.own)->∃ f',fN tg b fr ρ (xs.map inj)=.ok (f',(xs.filter c).map out)
 | [],_=>⟨true,rfl⟩
 | x :: r,h=>by
  obtain⟨ρ1,k,f,h1,h2,h3⟩:=h x Af;obtain⟨f',ih⟩:=pY r fun y hy=>h y (Ab _ hy);cases z:c x with
  | true =>
   rw[z]at h2;refine⟨f&&f',?_⟩
   simp only[Am,fN,h1,R.ok_bind,h2,if_true,Res.give,if_neg h3,ih,Db,z]
  | false =>
   rw[z]at h2;refine⟨f',?_⟩
   simp only[Am,fN,h1,R.ok_bind,h2,Co,if_false,ih,Db,z]
theorem aBt {α:Type}{it:FI}{tg:Tg}{b:FB}{fr st:Bool}{ρ:Mir.Env}{k:Nat}{fs:List Nat}{inj out:α->D}{c:α->Bool}{xs:List α}(hi:it ρ=.ok ⟨st,fr,xs.map inj⟩)
 (h:∀ x∈xs,∃ ρ1 k' f,tg.bind fr (inj x) (eG k fs ρ)=.ok ρ1/\b ρ1=.ok (if c x then some ⟨k',f,out x⟩ else none)/\k'≠.own) (hz:xs.length<=sizeLine):∃ f',bB it k fs tg b ρ=.ok ⟨.tmp,f',.lst ((xs.filter c).map out)⟩:=by
 obtain⟨f',e⟩:=pY xs h;refine⟨f',?_⟩
 simp only[bB,hi,R.ok_bind,e,Ah,if_pos hz]
structure Cl (k L n M:Nat)(s:Cs):Prop where
 len:s.t.length=k
 row:∀ r∈s.t,r.length=L
 hm:s.hs.length<=k
 lt:∀ h∈s.hs,h<n
 b0:0<s.b
 bn:s.b.natAbs<2^M
 tn:BN M s.t
theorem xH {t:List (List Int)}{r:List Int}(h:r∈uV t):∃ q∈t,r=q.map fun x=>-x:=by
 obtain⟨q,h1,h2⟩:=Bb.mp h;exact⟨q,h1,h2.symm⟩
theorem aDf {k L n N M:Nat}{t:List (List Int)}(o:Ok k L N n (clr t n))(hM:nb N n<=M):Cl k L n M (cF t n):=by
 have up:2^nb N (clr t n).hs.length<=2^M:=vI (Bn (pL N o.hk) hM);have b0:=o.b0;have bn:=o.bn;unfold cF;split
 · refine⟨by show (uV _).length=k;unfold uV;rw[Ah];exact o.len,fun r hr=>?_,o.hm,o.lt,by show 0 < -_;omega,?_,fun r hr x hx=>?_⟩
   · obtain⟨q,hq,rfl⟩:=xH hr
     rw[Ah];exact o.row q hq
   · show (-(clr t n).b).natAbs<2^M
     rw[Int.natAbs_neg];omega
   · obtain⟨q,hq,rfl⟩:=xH hr
     obtain⟨y,hy,rfl⟩:=Bb.mp hx;rw[Int.natAbs_neg];exact Ac (o.tn q hq y hy) up
 · exact⟨o.len,o.row,o.hm,o.lt,by omega,by omega,fun r hr x hx=>Ac (o.tn r hr x hx) up⟩
def eqL:List (List Int)->List Int->List (List Int)->List (List Int)
 | r :: rs,e :: es,u :: us=>(r++[e]++u) :: eqL rs es us
 | _,_,_=>[]
def fT:List (List Int)->List Int->List (List Int)->List (List Int×Int×List Int)
 | r :: rs,e :: es,u :: us=>(r,e,u) :: fT rs es us
 | _,_,_=>[]
abbrev inT (p:List Int×Int×List Int):D:=.tup [.lst (li p.1),.int p.2.1,.lst (li p.2.2)]
theorem tN:∀ (rs:List (List Int)) (es:List Int) (us:List (List Int)),zp3 (lil rs) (li es) (lil us)=(fT rs es us).map inT
 | [],es,us=>by simp[zp3,fT]
 | _ :: _,[],us=>by simp[zp3,fT]
 | _ :: _,_ :: _,[]=>by simp[zp3,fT]
 | r :: rs,e :: es,u :: us=>by
  have:=tN rs es us
  simp only[lil,li,Am,zp3,fT]at this ⊢;rw[this]
theorem oG:∀ (rs:List (List Int)) (es:List Int) (us:List (List Int)),eqL rs es us=(fT rs es us).map fun p=>p.1++[p.2.1]++p.2.2
 | [],es,us=>by simp[eqL,fT]
 | _ :: _,[],us=>by simp[eqL,fT]
 | _ :: _,_ :: _,[]=>by simp[eqL,fT]
 | r :: rs,e :: es,u :: us=>by simp only[eqL,fT,Am];rw[oG rs es us]
theorem kI:∀ {rs:List (List Int)} {es:List Int} {us:List (List Int)} {p:List Int×Int×List Int},p∈fT rs es us->p.1∈rs/\p.2.1∈es/\p.2.2∈us
 | [],es,us,p,h=>by simp[fT]at h
 | _ :: _,[],us,p,h=>by simp[fT]at h
 | _ :: _,_ :: _,[],p,h=>by simp[fT]at h
 | r :: rs,e :: es,u :: us,p,h=>by
  rcases Ad.mp h with rfl | h
  · exact⟨Af,Af,Af⟩
  · obtain⟨a,b,c⟩:=kI h
    exact⟨Ab _ a,Ab _ b,Ab _ c⟩
theorem nN:∀ {rs:List (List Int)} {es:List Int} {us:List (List Int)},es.length=rs.length->us.length=rs.length->(fT rs es us).length=rs.length
 | [],[],us,_,_=>by simp[fT]
 | r :: rs,e :: es,u :: us,h1,h2=>by
  simp only[fT,Cg]at h1 h2 ⊢;rw[nN (by omega) (by omega)]
 | [],_ :: _,_,h,_=>by simp at h
 | _ :: _,[],_,h,_=>by simp at h
 | _ :: _,_ :: _,[],_,h=>by simp at h
structure Eqn (m N:Nat)(rows:List (List Int))(ends:List Int):Prop where
 m1:1<=m
 m5:m<=5
 ln:rows.length<=100
 sz:∀ r∈rows,r.length=m
 al:ends.length=rows.length
 rn:BN N rows
 en:BR N ends
 n0:0<N
 n9:N<=200
theorem sZ (n:Nat):(eQ n).length=n/\∀ r∈eQ n,r.length=n:=by
 refine⟨by unfold eQ;simp,fun r hr=>?_⟩
 obtain⟨p,_,rfl⟩:=Bb.mp hr;simp
theorem aHr {N:Nat}(h0:0<N)(n:Nat):BN N (eQ n):=fun r hr x hx=>by
 obtain⟨p,_,rfl⟩:=Bb.mp hr;obtain⟨w,_,rfl⟩:=Bb.mp hx;have:2<=2^N:=by have:=vI (show 1<=N from h0);simpa using this
 split<;>simp<;>omega
abbrev eqT (rows:List (List Int))(ends:List Int):List (List Int):=eqL rows ends (eQ rows.length)
section
variable {m N:Nat}{rows:List (List Int)}{ends:List Int}
theorem wB (E:Eqn m N rows ends):(eqT rows ends).length=rows.length/\(∀ r∈eqT rows ends,r.length=m+1+rows.length)/\BN N (eqT rows ends):=by
 have ul:=sZ rows.length;rw[show eqT rows ends=_ from oG _ _ _]
 refine⟨by rw[Ah];exact nN E.al ul.1,fun r hr=>?_,fun r hr x hx=>?_⟩
 · obtain⟨p,hp,rfl⟩:=Bb.mp hr
   obtain⟨a,_,c⟩:=kI hp;rw[As,As,Aw,E.sz _ a,ul.2 _ c]
 · obtain⟨p,hp,rfl⟩:=Bb.mp hr
   obtain⟨a,b,c⟩:=kI hp;rcases Bg.mp hx with q | q
   · rcases Bg.mp q with q | q
     · exact E.rn _ a x q
     · rw[Bz.mp q];exact E.en _ b
   · exact aHr E.n0 _ _ c x q
abbrev aC6 (φu:Φ):FE:=bB (pP (vE 1) (vE 2) (aG φu [dF (vE 1)])) 3 [] (.tp [.nm 0,.nm 1,.nm 2]) (bE (dX (dX (vE 0) (aX [vE 1])) (vE 2)))
abbrev aFf (φr φa φc φu:Φ):FS:=(aP (dH (aG φr [vE 0,vE 1])) (aP (dH (aG φa [vE 1,vE 2])) (bF (aG φc [vE 0,aC6 φu]))))
abbrev qE (m:Int)(rows:List (List Int))(ends:List Int):Mir.Env:=[some ⟨.shr,false,.int m⟩,some ⟨.shr,false,.lst (lil rows)⟩,some ⟨.shr,false,.lst (li ends)⟩]
theorem aL6 {φu:Φ}(hu:φu [.int rows.length]=.ok ⟨.tmp,true,.lst (lil (eQ rows.length))⟩)(E:Eqn m N rows ends):∃ f,aC6 φu (qE m rows ends)=.ok ⟨.tmp,f,.lst (lil (eqT rows ends))⟩:=by
 have ul:=sZ rows.length;have ln:=E.ln;have m5:=E.m5
 have l1:dF (vE 1) (qE m rows ends)=.ok ⟨.shr,true,.int (rows.length:Nat)⟩:=by
  refine(gG (k:=.shr) (fr:=false||(D.lst (lil rows)).imm) (ds:=lil rows) rfl).trans ?_
  rw[iY];rfl
 have u:aG φu [dF (vE 1)] (qE m rows ends)=.ok ⟨.tmp,true,.lst (lil (eQ rows.length))⟩:=kS (rs:=[⟨.shr,true,.int (rows.length:Nat)⟩]) (aB l1 bD) hu
 have it:pP (vE 1) (vE 2) (aG φu [dF (vE 1)]) (qE m rows ends)=.ok ⟨true,((false||(D.lst (lil rows)).imm)&&(false||(D.lst (li ends)).imm))&&true,(fT rows ends (eQ rows.length)).map inT⟩:=by
  have ev:evs [vE 1,vE 2,aG φu [dF (vE 1)]] (qE m rows ends)=.ok [⟨.shr,false||(D.lst (lil rows)).imm,.lst (lil rows)⟩,⟨.shr,false||(D.lst (li ends)).imm,.lst (li ends)⟩,⟨.tmp,true,.lst (lil (eQ rows.length))⟩]:=aB rfl (aB rfl (aB u bD));simp only[pP,ev,R.ok_bind,asL,tN];rfl
 obtain⟨g,it⟩:∃ g,pP (vE 1) (vE 2) (aG φu [dF (vE 1)]) (qE m rows ends)=.ok ⟨true,g,(fT rows ends (eQ rows.length)).map inT⟩:=⟨_,it⟩
 have key:∃ f',aC6 φu (qE m rows ends)=.ok ⟨.tmp,f',.lst ((fT rows ends (eQ rows.length)).map fun p=>.lst (li (p.1++[p.2.1]++p.2.2)))⟩:=by
  refine rQ (inj:=inT) (xs:=fT rows ends (eQ rows.length)) it (fun p hp=>?_) (by rw[nN E.al ul.1,sizeLine_eq];omega)
  obtain⟨a,_,c⟩:=kI hp;have c1:=kG (f:=vE 0) (g:=aX [vE 1]) (ρ:=[some ⟨.shr,g,.lst (li p.1)⟩,some ⟨.shr,g,.int p.2.1⟩,some ⟨.shr,g,.lst (li p.2.2)⟩]) (k:=.shr) (ds:=li p.1) rfl (aCw rfl) (by rw[Ah,E.sz _ a,Aw,sizeLine_eq];omega)
  have c2:=kG (g:=vE 2) (k':=.shr) (es:=li p.2.2) c1 rfl (by rw[As,Ah,Ah,E.sz _ a,Aw,ul.2 _ c,sizeLine_eq];omega)
  rw[show li p.1++[D.int p.2.1]++li p.2.2=li (p.1++[p.2.1]++p.2.2) by simp[li]]at c2
  exact⟨[some ⟨.shr,g,.lst (li p.1)⟩,some ⟨.shr,g,.int p.2.1⟩,some ⟨.shr,g,.lst (li p.2.2)⟩],.tmp,_,rfl,gU c2,by decide⟩
 obtain⟨f',e⟩:=key;refine⟨f',e.trans ?_⟩
 rw[show eqT rows ends=_ from oG _ _ _]
 simp[lil,Function.comp_def]
def aAm (φ:Φ):Prop:=∀ {n L N:Nat} {t:List (List Int)},(∀ r∈t,r.length=L)->n<=L->L<=1000->t.length<=1000->0<N->2*nb N (n-1)+1<=9000->BN N t->Ok t.length L N n (clr t n)/\∃ fr,φ [.int n,.lst (lil t)]=.ok ⟨.shr,fr,bQ (cF t n)⟩
theorem aMk {m N:Nat}(m5:m<=5)(h:N<=200):nb N m<=6500/\2*nb N (m-1)+1<=9000:=by
 have a:=pL N m5;have b:=pL N (show m-1<=4 by omega)
 have c:=sN N 5;have d:=sN N 4;omega
theorem aJg {φr φa φc φu:Φ}(hr:φr [.int m,.lst (lil rows)]=.ok (sc .non))(ha:φa [.lst (lil rows),.lst (li ends)]=.ok (sc .non))(hc:aAm φc)(hu:φu [.int rows.length]=.ok ⟨.tmp,true,.lst (lil (eQ rows.length))⟩)(E:Eqn m N rows ends) :
 Cl rows.length (m+1+rows.length) m 6500 (cF (eqT rows ends) m)/\∃ fr,bY 3 3 (aFf φr φa φc φu) [.int m,.lst (lil rows),.lst (li ends)]=.ok ⟨.shr,fr,bQ (cF (eqT rows ends) m)⟩:=by
 obtain⟨t1,t2,t3⟩:=wB E;have nbm:=aMk E.m5 E.n9;have ln:=E.ln;have m5:=E.m5;obtain⟨o,fr,ec⟩:=hc (n:=m) (L:=m+1+rows.length) (N:=N) (t:=eqT rows ends) t2 (by omega) (by omega) (by omega) E.n0 nbm.2 t3
 rw[t1]at o;refine⟨aDf o nbm.1,?_⟩
 obtain⟨f,eq⟩:=aL6 hu E;have e1:dH (aG φr [vE 0,vE 1]) (qE m rows ends)=.nx (qE m rows ends):=kR (eM (rs:=[⟨.shr,true,.int m⟩,⟨.shr,false||(D.lst (lil rows)).imm,.lst (lil rows)⟩]) (aB rfl (aB rfl bD)) hr);have e2:dH (aG φa [vE 1,vE 2]) (qE m rows ends)=.nx (qE m rows ends):=kR (eM (rs:=[⟨.shr,false||(D.lst (lil rows)).imm,.lst (lil rows)⟩,⟨.shr,false||(D.lst (li ends)).imm,.lst (li ends)⟩]) (aB rfl (aB rfl bD)) ha);obtain⟨f',e3⟩:=jZ (φ:=φc) (fs:=[vE 0,aC6 φu]) (rs:=[⟨.shr,true,.int m⟩,⟨.tmp,f,.lst (lil (eqT rows ends))⟩]) (aB rfl (aB eq bD)) ec rfl;exact⟨_,(dM (np:=3) (n:=3) (s:=aFf φr φa φc φu) (ds:=[.int m,.lst (lil rows),.lst (li ends)]) rfl ((aH e1).trans ((aH e2).trans (gB e3)))).trans rfl⟩
end
end Hm
namespace Hm
open PySem L2 Mir Sm
theorem aAd {c r:List Int}{w:Nat}{b:Int}(h:r.length=c.length)(j:Nat):(swr c r w b).getD j 0=(c.getD w 0*r.getD j 0-r.getD w 0*c.getD j 0).fdiv b:=by
 unfold swr;by_cases z:j<r.length
 · have z':j<c.length:=by omega
   simp[Ag,Be,List.getElem?_zip_eq_some,z,z',List.zip,Ef]
 · have z':¬ j<c.length:=by omega
   simp[Ag,Be,z,z',List.zip,Ef]
theorem aD4 {w:Nat}{b:Int}(A:List (List Int))(x:List Int)(R:List (List Int)):swp (A++x :: R) A.length w b=A.map (fun r=>swr x r w b)++x :: R.map (fun r=>swr x r w b):=by
 have g:(A++x :: R).getD A.length []=x:=by simp[Ag]
 unfold swp;rw[g,List.zipIdx_append,Cm,Et,Fh,Am,if_pos rfl];congr 1
 · have:∀ (l:List (List Int)) (k:Nat),k+l.length<=A.length->(l.zipIdx k).map (fun p=>if p.2=A.length then x else swr x p.1 w b)=l.map fun r=>swr x r w b:=by
    intro l;induction l with
    | nil=>intro k _;rfl
    | cons r l ih =>
     intro k hk;rw[Cg]at hk;rw[Fh,Am,Am,if_neg (by show k≠_;omega),ih (k+1) (by omega)]
   exact this A 0 (by omega)
 · congr 1
   have:∀ (l:List (List Int)) (k:Nat),A.length<k->(l.zipIdx k).map (fun p=>if p.2=A.length then x else swr x p.1 w b)=l.map fun r=>swr x r w b:=by
    intro l;induction l with
    | nil=>intro k _;rfl
    | cons r l ih =>
     intro k hk;rw[Fh,Am,Am,if_neg (by show k≠_;omega),ih (k+1) (by omega)]
   exact this R _ (by omega)
theorem aDs (A B1:List (List Int))(x:List Int)(B2:List (List Int)):mvd (A++(B1++x :: B2)) A.length (A.length+B1.length)=A++x :: (B1++B2):=by
 have g:(A++(B1++x :: B2)).getD (A.length+B1.length) []=x:=by
  rw[Ag,Ar (by omega),show A.length+B1.length-A.length=B1.length by omega,Ar (An _)]
  simp
 unfold mvd;rw[g,List.take_left]
 have t1:((A++(B1++x :: B2)).take (A.length+B1.length)).drop A.length=B1:=by
  rw[List.take_append,List.take_of_length_le (by omega),show A.length+B1.length-A.length=B1.length by omega,List.take_left,List.drop_left]
 have t2:(A++(B1++x :: B2)).drop (A.length+B1.length+1)=B2:=by
  rw[List.drop_append,List.drop_eq_nil_of_le (by omega),show A.length+B1.length+1-A.length=B1.length+1 by omega,En,List.drop_append,List.drop_eq_nil_of_le (by omega),show B1.length+1-B1.length=1 by omega]
  rfl
 rw[t1,t2];simp
theorem uZ (s:Cs)(w:Nat)(A B:List (List Int))(ht:s.t=A++B)(hA:A.length=s.hs.length):((∀ r∈B,r.getD w 0=0)/\fA s w=s) \/
 ∃ B1 x B2,B=B1++x :: B2/\x.getD w 0≠0/\fA s w=⟨A.map (fun r=>swr x r w s.b)++x :: (B1++B2).map (fun r=>swr x r w s.b),s.hs++[w],x.getD w 0⟩:=by
 unfold fA;cases e:fnd s.t s.hs.length w with
 | nil =>
  refine .inl ⟨fun r hr=>?_,rfl⟩
  obtain⟨i,hi,rfl⟩:=Dm.mp hr;by_cases z:B[i].getD w 0=0
  · exact z
  · exfalso
    have:A.length+i∈fnd s.t s.hs.length w:=by
     refine Dg.mpr ⟨Fc.mpr ⟨by omega,by rw[ht,As];omega⟩,?_⟩
     have q:s.t.getD (A.length+i) []=B[i]:=by
      rw[ht,Ag,Ar (Bo _ _),Nat.add_sub_cancel_left,Ax hi];rfl
     rw[q];simpa using z
    rw[e]at this;cases this
 | cons p r =>
  obtain⟨h1,h2,h3⟩:=rY e;refine .inr ⟨B.take (p-A.length),s.t.getD p [],B.drop (p-A.length+1),?_,h3,?_⟩
  · have hl:p-A.length<B.length:=by rw[ht,As]at h2;omega
    have:s.t.getD p []=B[p-A.length]:=by
     rw[ht,Ag,Ar (by omega),Ax hl];rfl
    rw[this,List.getElem_cons_drop,List.take_append_drop]
  · have hl:p-A.length<B.length:=by rw[ht,As]at h2;omega
    have hx:s.t.getD p []=B[p-A.length]:=by
     rw[ht,Ag,Ar (by omega),Ax hl];rfl
    have hB:B=B.take (p-A.length)++s.t.getD p [] :: B.drop (p-A.length+1):=by
     rw[hx,List.getElem_cons_drop,List.take_append_drop]
    have lt:(B.take (p-A.length)).length=p-A.length:=by rw[Bt];omega
    have mv:mvd s.t s.hs.length p=A++s.t.getD p [] :: (B.take (p-A.length)++B.drop (p-A.length+1)):=by
     have:=aDs A (B.take (p-A.length)) (s.t.getD p []) (B.drop (p-A.length+1))
     rw[←hB,←ht,lt,hA,show s.hs.length+(p-s.hs.length)=p by omega]at this
     rw[←hA]at this ⊢;exact this
    show (⟨swp (mvd s.t s.hs.length p) s.hs.length w s.b,s.hs++[w],(s.t.getD p []).getD w 0⟩:Cs)=_
    rw[mv,←hA,aD4,Cm]
def oF (c L:Nat)(s:Cs):Prop:=∃ A B:List (List Int×Nat),s.t=A.map (·.1)++B.map (·.1)/\A.length=s.hs.length/\(∀ x∈A,∀ y∈B,x.1.getD (c+y.2) 0=0)/\B.Pairwise (fun x y=>x.1.getD (c+y.2) 0=0/\y.1.getD (c+x.2) 0=0)/\(∀ y∈B,y.1.getD (c+y.2) 0=s.b)/\s.b≠0
theorem oZ (a b:Int)(h:b≠0):(a*b).fdiv b=a:=by
 rw[Int.fdiv_eq_ediv_of_dvd (Int.dvd_mul_left a b),Int.mul_ediv_cancel a h]
theorem oF.step {c L w:Nat}{s:Cs}(M:oF c L s)(hr:∀ r∈s.t,r.length=L):oF c L (fA s w):=by
 obtain⟨A,B,ht,hA,m1,m2,m3,b0⟩:=M;rcases uZ s w (A.map (·.1)) (B.map (·.1)) ht (by rw[Ah];exact hA) with ⟨_,e⟩ | ⟨B1',x',B2',hB,h0,e⟩
 · rw[e];exact⟨A,B,ht,hA,m1,m2,m3,b0⟩
 · obtain⟨B1,B3,rfl,e1,e3⟩:=List.map_eq_append_iff.mp hB
   obtain⟨x,B2,rfl,ex,e2⟩:=List.map_eq_cons_iff.mp e3;subst e1;subst ex;subst e2;have lx:x.1.length=L:=hr _ (by rw[ht];simp)
   have lr:∀ y:List Int×Nat,y∈A\/y∈B1\/y∈B2->y.1.length=x.1.length:=fun y hy=>by
    rw[lx];refine hr _ ?_
    rw[ht,←Cm];refine List.mem_map_of_mem ?_
    simp only[Bg,Ad];rcases hy with h | h | h
    · exact .inl h
    · exact .inr (.inl h)
    · exact .inr (.inr (.inr h))
   rw[List.pairwise_append,Ea]at m2;obtain⟨p1,⟨p2,p3⟩,p4⟩:=m2
   have xz:∀ y,y∈B1++B2->x.1.getD (c+y.2) 0=0:=fun y hy=>by
    rcases Bg.mp hy with h | h
    · exact(p4 y h x Af).2
    · exact(p2 y h).1
   have pw:(B1++B2).Pairwise (fun x y=>x.1.getD (c+y.2) 0=0/\y.1.getD (c+x.2) 0=0):=List.pairwise_append.mpr ⟨p1,p3,fun a ha b hb=>p4 a ha b (Ab _ hb)⟩;let sw:List Int×Nat->List Int×Nat:=fun r=>(swr x.1 r.1 w s.b,r.2)
   have sz:∀ r:List Int×Nat,r.1.length=x.1.length->∀ j:Nat,r.1.getD (c+j) 0=0->x.1.getD (c+j) 0=0->(sw r).1.getD (c+j) 0=0:=fun r l j q1 q2=>by
    show (swr x.1 r.1 w s.b).getD (c+j) 0=0
    rw[aAd l,q1,q2];simp
   have mem12:∀ y,y∈B1++B2->y∈B1++x :: B2:=fun y hy=>by
    simp only[Bg,Ad]at hy ⊢;rcases hy with h | h
    · exact .inl h
    · exact .inr (.inr h)
   rw[e];refine⟨A.map sw++[x],(B1++B2).map sw,?_,by rw[As,Ah,Aw];show A.length+1=(s.hs++[w]).length;rw[As,Aw,hA],fun a ha y hy=>?_,?_,fun y hy=>?_,h0⟩
   · simp[Dq,Function.comp_def,sw]
   · obtain⟨y,hy',rfl⟩:=Bb.mp hy
     rcases Bg.mp ha with h | h
     · obtain⟨a,h',rfl⟩:=Bb.mp h
       exact sz a (lr a (.inl h')) y.2 (m1 a h' y (mem12 y hy')) (xz y hy')
     · rw[Bz.mp h];exact xz y hy'
   · rw[List.pairwise_map]
     refine(List.Pairwise.and_mem.mp pw).imp fun {y z} ⟨hy,hz,q1,q2⟩=>?_
     have ly:=lr y (.inr (Bg.mp hy));have lz:=lr z (.inr (Bg.mp hz));exact⟨sz y ly z.2 q1 (xz z hz),sz z lz y.2 q2 (xz y hy)⟩
   · obtain⟨y,hy',rfl⟩:=Bb.mp hy
     show (swr x.1 y.1 w s.b).getD (c+y.2) 0=x.1.getD w 0
     rw[aAd (lr y (.inr (Bg.mp hy'))),m3 y (mem12 y hy'),xz y hy',Int.mul_zero,Int.sub_zero,oZ _ _ b0]
theorem aDu {m L N:Nat}:∀ (j k:Nat) (s:Cs),Ok m L N k s->k+j<=L->Ok m L N (k+j) ((Ch k j).foldl fA s)
 | 0,_,_,o,_=>o
 | j+1,k,s,o,h=>by
  rw[Fi,Eo,show k+(j+1)=k+1+j by omega]
  exact aDu j (k+1) _ (o.step (by omega)) (by omega)
theorem nS {m L N c:Nat}:∀ (j k:Nat) (s:Cs),Ok m L N k s->k+j<=L->oF c L s->oF c L ((Ch k j).foldl fA s)
 | 0,_,_,_,_,M=>M
 | j+1,k,s,o,h,M=>by
  rw[Fi,Eo];exact nS j (k+1) _ (o.step (by omega)) (by omega) (M.step o.row)
end Hm
namespace Hm
open PySem L2 Mir Sm
theorem aBd:∀ (rs:List (List Int)) (es:List Int) (us:List (List Int)) (j:Nat) (r:List Int),(eqL rs es us)[j]?=some r->∃ a e u,rs[j]?=some a/\es[j]?=some e/\us[j]?=some u/\r=a++[e]++u
 | [],es,us,j,r,h=>by simp[eqL]at h
 | _ :: _,[],us,j,r,h=>by simp[eqL]at h
 | _ :: _,_ :: _,[],j,r,h=>by simp[eqL]at h
 | a :: rs,e :: es,u :: us,0,r,h=>⟨a,e,u,rfl,rfl,rfl,by simpa[eqL] using h.symm⟩
 | a :: rs,e :: es,u :: us,j+1,r,h=>aBd rs es us j r (by simpa[eqL] using h)
section
variable {m N:Nat}{rows:List (List Int)}{ends:List Int}
theorem nL (E:Eqn m N rows ends){j:Nat}{r:List Int}(h:(eqT rows ends)[j]?=some r){i:Nat}(hi:i<rows.length):r.getD (m+1+i) 0=if i=j then 1 else 0:=by
 obtain⟨a,e,u,h1,_,h3,rfl⟩:=aBd _ _ _ _ _ h;have la:a.length=m:=E.sz a (Cw h1)
 have:(a++[e]++u).getD (m+1+i) 0=u.getD i 0:=by
  rw[Ag,Ar (by simp;omega),Ag]
  congr 2
  simp;omega
 rw[this];unfold eQ at h3;rw[Be]at h3;cases q:(Bj rows.length)[j]? with
 | none=>rw[q]at h3;cases h3
 | some p =>
  rw[q]at h3;cases h3;obtain⟨_,q⟩:=Ao.mp q;simp only[List.getElem_range]at q;subst q;simp[Ag,hi]
theorem aGv (E:Eqn m N rows ends)(L:Nat):oF (m+1) L ⟨eqT rows ends,[],1⟩:=by
 have el:=(wB E).1;refine⟨[],(eqT rows ends).zipIdx,by simp,rfl,fun x h=>by simp at h,?_,fun y hy=>?_,show (1:Int)≠0 by decide⟩
 · rw[List.pairwise_iff_getElem]
   intro i j hi hj hij;have hi':i<(eqT rows ends).length:=by simpa using hi
   have hj':j<(eqT rows ends).length:=by simpa using hj
   simp only[List.getElem_zipIdx,Et];constructor
   · rw[nL E (Ax hi') (by omega),if_neg (by omega)]
   · rw[nL E (Ax hj') (by omega),if_neg (by omega)]
 · obtain⟨i,hi,e⟩:=Dm.mp hy
   have hi':i<(eqT rows ends).length:=by simpa using hi
   rw[←e];simp only[List.getElem_zipIdx,Et];rw[nL E (Ax hi') (by omega),if_pos rfl]
theorem aBp (E:Eqn m N rows ends){l:List Int}(h:l∈(cF (eqT rows ends) m).t.drop (cF (eqT rows ends) m).hs.length):(cF (eqT rows ends) m).b∈l.drop (m+1):=by
 obtain⟨t1,t2,t3⟩:=wB E
 have o0:Ok rows.length (m+1+rows.length) N 0 ⟨eqT rows ends,[],1⟩:=⟨t1,t2,An _,Cq _,fun h q=>absurd q (by simp),(show (1:Int)≠0 by decide),by
  show (1:Nat)<2^N
  exact Ac (by decide) (vI (show 1<=N from E.n0)),t3⟩
 have M:oF (m+1) (m+1+rows.length) (clr (eqT rows ends) m):=by
  unfold clr;rw[List.range_eq_range'];exact nS m 0 _ o0 (by omega) (aGv E _)
 obtain⟨A,B,ht,hA,_,_,m3,b0⟩:=M
 have key:∀ l∈(clr (eqT rows ends) m).t.drop (clr (eqT rows ends) m).hs.length,∃ j,l.getD (m+1+j) 0=(clr (eqT rows ends) m).b:=fun l hl=>by
  rw[ht,←hA,List.drop_left' (by rw[Ah])]at hl
  obtain⟨y,hy,rfl⟩:=Bb.mp hl;exact⟨y.2,m3 y hy⟩
 have fin:∀ (l:List Int) (j:Nat) (v:Int),v≠0->l.getD (m+1+j) 0=v->v∈l.drop (m+1):=fun l j v v0 e=>by
  have hl:m+1+j<l.length:=by
   by_cases z:m+1+j<l.length
   · exact z
   · rw[Ag,Ce (by omega)]at e
     exact absurd e.symm v0
  rw[Ag,Ax hl]at e;rw[←show l[m+1+j]=v from e]
  exact Dm.mpr ⟨j,by rw[Cf];omega,by rw[List.getElem_drop]⟩
 unfold cF at h ⊢;split
 · rename_i z
   rw[if_pos z]at h;simp only[uV,←Ei]at h;obtain⟨q,hq,rfl⟩:=Bb.mp h;obtain⟨j,e⟩:=key q hq;refine fin _ j _ (by show -_≠0;omega) ?_
   rw[Ag,Be];rw[Ag]at e;cases w:q[m+1+j]? with
   | none=>rw[w]at e;exact absurd e.symm b0
   | some v=>rw[w]at e;show -v=-_;rw[show v=_ from e]
 · rename_i z
   rw[if_neg z]at h;obtain⟨j,e⟩:=key l h;exact fin l j _ b0 e
end
def brd (m:Nat)(s:Cs):List (List Int):=(s.t.drop s.hs.length).filter fun l=>!decide (l.getD m 0=0)
abbrev aFv:FS:=(bF (bB (dY (fP (gM 1 2 (vE 1)) (soO (dF (gM 1 1 (vE 1)))) (noO))) 1 [0] (.nm 0) (Mir.bIf (bT (neE (bA (vE 0) (vE 1)) (cE (.int 0)))) (vE 0))))
theorem aKe {m k L n M:Nat}{s:Cs}(C:Cl k L n M s)(hm:m<L)(hk:k<=1000):∃ fr,bY 2 2 aFv [.int m,bQ s]=.ok ⟨.tmp,fr,.lst (lil (brd m s))⟩:=by
 have len:=C.len;have f2:gM 1 2 (vE 1) [some ⟨.shr,false,.int m⟩,some ⟨.shr,false,bQ s⟩]=.ok ⟨.shr,(false||(bQ s).imm)||(D.lst (lil s.t)).imm,.lst (lil s.t)⟩:=rfl
 have f1:dF (gM 1 1 (vE 1)) [some ⟨.shr,false,.int m⟩,some ⟨.shr,false,bQ s⟩]=.ok ⟨.shr,true,.int (s.hs.length:Nat)⟩:=by
  refine(gG (k:=.shr) (fr:=(false||(bQ s).imm)||(D.lst (hsD s.hs)).imm) (ds:=hsD s.hs) rfl).trans ?_
  rw[rG];rfl
 have sl:=jR (lo:=soO (dF (gM 1 1 (vE 1)))) (hi:=noO) f2 (pX f1) (b:=none) rfl;rw[aCe]at sl;obtain⟨g,sl⟩:∃ g,fP (gM 1 2 (vE 1)) (soO (dF (gM 1 1 (vE 1)))) noO [some ⟨.shr,false,.int m⟩,some ⟨.shr,false,bQ s⟩]=.ok ⟨.tmp,g,.lst ((s.t.drop s.hs.length).map fun l=>.lst (li l))⟩:=⟨_,by rw[Ei];exact sl⟩
 obtain⟨f',e⟩:=aBt (k:=1) (fs:=[0]) (tg:=.nm 0) (b:=Mir.bIf (bT (neE (bA (vE 0) (vE 1)) (cE (.int 0)))) (vE 0)) (inj:=fun l=>D.lst (li l)) (out:=fun l=>D.lst (li l)) (c:=fun l:List Int=>!decide (l.getD m 0=0)) (xs:=s.t.drop s.hs.length) (lE sl) (fun l hl=>by
  have ll:=C.row l (Cv hl);refine⟨[some ⟨.shr,g,.lst (li l)⟩,some ⟨.shr,false,.int m⟩],.shr,g||(D.lst (li l)).imm,rfl,?_,by decide⟩
  exact aA9 (fQ (jV (eY (k:=.shr) (fr:=g||(D.lst (li l)).imm) (ds:=li l) rfl (k':=.shr) (fr':=true) (i:=m) rfl (iP (by omega))) (k':=.shr) (fr':=true) (j:=0) rfl)) fun _=>rfl) (by rw[Cf,sizeLine_eq];omega)
 exact⟨_,(dM (np:=2) (n:=2) (s:=aFv) (ds:=[.int m,bQ s]) rfl (mI e)).trans rfl⟩
abbrev pK (φq φb φl:Φ):FS :=
 (aP (aO 3 (aG φq [vE 0,vE 1,vE 2]))
 (aP (ifS (jS (aG φb [vE 0,vE 3]))
  (bF (cE .non))
  bZ)
 (aP (aO 4 (yT (aX [cE (.int 0)]) (vE 0)))
 (aP (gL (qO (gM 1 1 (vE 3)) (gM 1 2 (vE 3))) (.tp [.nm 5,.nm 6])
  (mC 4 (vE 5) (bA (vE 6) (vE 0))))
 (bF (aG φl [gM 1 0 (vE 3),vE 4]))))))
abbrev qE7 (m:Int)(rows:List (List Int))(ends:List Int)(x3 x4 x5 x6:Option Res):Mir.Env:=[some ⟨.shr,false,.int m⟩,some ⟨.shr,false,.lst (lil rows)⟩,some ⟨.shr,false,.lst (li ends)⟩,x3,x4,x5,x6]
def tX (m:Nat)(ps:List (Nat×List Int))(acc:List Int):List Int:=ps.foldl (fun a p=>a.set p.1 (p.2.getD m 0)) acc
theorem lO {f:FE}{ρ:Mir.Env}{k:Kd}{fr:Bool}{ds:List D}(h:f ρ=.ok ⟨k,fr,.lst ds⟩):jS f ρ=.ok (!ds.isEmpty):=by simp only[jS,h,R.ok_bind,asS]
theorem pF {m:Nat}{rows:List (List Int)}{ends:List Int}{x3:Option Res}(g:Bool):∀ (ps:List (Nat×List Int)) (acc:List Int) (x5 x6:Option Res),acc.length=m->(∀ p∈ps,p.1<m/\m<p.2.length) ->
 ∃ y5 y6,eS (.tp [.nm 5,.nm 6]) (mC 4 (vE 5) (bA (vE 6) (vE 0))) g (ps.map fun p=>.tup [.int (p.1:Nat),.lst (li p.2)]) (qE7 m rows ends x3 (some ⟨.own,true,.lst (li acc)⟩) x5 x6)=.nx (qE7 m rows ends x3 (some ⟨.own,true,.lst (li (tX m ps acc))⟩) y5 y6)
 | [],acc,x5,x6,_,_=>⟨x5,x6,rfl⟩
 | p :: ps,acc,x5,x6,hl,h=>by
  obtain⟨h1,h2⟩:=h p Af;have bd:Tg.bind g (.tp [.nm 5,.nm 6]) (.tup [.int (p.1:Nat),.lst (li p.2)]) (qE7 m rows ends x3 (some ⟨.own,true,.lst (li acc)⟩) x5 x6)=.ok (qE7 m rows ends x3 (some ⟨.own,true,.lst (li acc)⟩) (some ⟨.shr,g,.int (p.1:Nat)⟩) (some ⟨.shr,g,.lst (li p.2)⟩)):=rfl;have v:bA (vE 6) (vE 0) (qE7 m rows ends x3 (some ⟨.own,true,.lst (li acc)⟩) (some ⟨.shr,g,.int (p.1:Nat)⟩) (some ⟨.shr,g,.lst (li p.2)⟩))=.ok ⟨.shr,true,.int (p.2.getD m 0)⟩:=eY (k:=.shr) (fr:=g||(D.lst (li p.2)).imm) (ds:=li p.2) rfl (k':=.shr) (fr':=true) (i:=m) rfl (iP h2)
  have ix:L2.ixN (li acc).length (p.1:Nat)=some p.1:=by
   unfold L2.ixN;rw[Ah,hl,if_pos (by omega),if_pos (by omega)]
   congr 1
  have e:mC 4 (vE 5) (bA (vE 6) (vE 0)) (qE7 m rows ends x3 (some ⟨.own,true,.lst (li acc)⟩) (some ⟨.shr,g,.int (p.1:Nat)⟩) (some ⟨.shr,g,.lst (li p.2)⟩))=.nx (qE7 m rows ends x3 (some ⟨.own,true,.lst (li (acc.set p.1 (p.2.getD m 0)))⟩) (some ⟨.shr,g,.int (p.1:Nat)⟩) (some ⟨.shr,g,.lst (li p.2)⟩)):=by
   refine(aCs (i:=4) (j:=vE 5) (fr:=true) (ds:=li acc) (k':=.shr) (f':=g||true) (z:=(p.1:Nat)) v (by decide) rfl rfl ix).trans ?_
   rw[show li (acc.set p.1 (p.2.getD m 0))=(li acc).set p.1 (.int (p.2.getD m 0)) from List.map_set]
   rfl
  obtain⟨y5,y6,ih⟩:=pF (rows:=rows) (ends:=ends) (x3:=x3) g ps (acc.set p.1 (p.2.getD m 0)) (some ⟨.shr,g,.int (p.1:Nat)⟩) (some ⟨.shr,g,.lst (li p.2)⟩) (by rw[Az];exact hl) fun q hq=>h q (Ab _ hq)
  exact⟨y5,y6,(iM bd e).trans ih⟩
theorem xW {M m:Nat}:∀ (ps:List (Nat×List Int)) (acc:List Int),BR M acc->(∀ p∈ps,(p.2.getD m 0).natAbs<2^M)->BR M (tX m ps acc)/\(tX m ps acc).length=acc.length
 | [],acc,h,_=>⟨h,rfl⟩
 | p :: ps,acc,h,hp=>by
  obtain⟨a,b⟩:=xW (m:=m) ps (acc.set p.1 (p.2.getD m 0)) (fun x hx=>(List.mem_or_eq_of_mem_set hx).elim (h x) fun e=>by rw[e];exact hp p Af) fun q hq=>hp q (Ab _ hq)
  exact⟨a,by rw[Az]at b;exact b⟩
section
variable {m N:Nat}{rows:List (List Int)}{ends:List Int}{φq φb φl φg:Φ}
def jX (φq:Φ):Prop:=∀ {m N:Nat} {rows:List (List Int)} {ends:List Int},Eqn m N rows ends->Cl rows.length (m+1+rows.length) m 6500 (cF (eqT rows ends) m)/\∃ fr,φq [.int m,.lst (lil rows),.lst (li ends)]=.ok ⟨.shr,fr,bQ (cF (eqT rows ends) m)⟩
def jA (φb:Φ):Prop:=∀ {m k L n M:Nat} {s:Cs},Cl k L n M s->m<L->k<=1000->∃ fr,φb [.int m,bQ s]=.ok ⟨.tmp,fr,.lst (lil (brd m s))⟩
theorem wT (hq:jX φq)(E:Eqn m N rows ends)(x4 x5 x6:Option Res):∃ g,aO 3 (aG φq [vE 0,vE 1,vE 2]) (qE7 m rows ends none x4 x5 x6)=.nx (qE7 m rows ends (some ⟨.shr,g,bQ (cF (eqT rows ends) m)⟩) x4 x5 x6):=by
 obtain⟨_,fr,e⟩:=hq E;obtain⟨f',c⟩:=jZ (φ:=φq) (fs:=[vE 0,vE 1,vE 2]) (ρ:=qE7 m rows ends none x4 x5 x6) (rs:=[⟨.shr,true,.int m⟩,⟨.shr,false||(D.lst (lil rows)).imm,.lst (lil rows)⟩,⟨.shr,false||(D.lst (li ends)).imm,.lst (li ends)⟩]) (aB rfl (aB rfl (aB rfl bD))) e rfl;exact⟨f',set_shr c⟩
theorem rV (hq:jX φq)(hb:jA φb)(E:Eqn m N rows ends)(g:Bool)(x4 x5 x6:Option Res):∃ f,aG φb [vE 0,vE 3] (qE7 m rows ends (some ⟨.shr,g,bQ (cF (eqT rows ends) m)⟩) x4 x5 x6)=.ok ⟨.tmp,f,.lst (lil (brd m (cF (eqT rows ends) m)))⟩:=by
 obtain⟨C,_⟩:=hq E;have ln:=E.ln;obtain⟨fr,e⟩:=hb (m:=m) C (by omega) (by omega)
 exact jZ (φ:=φb) (fs:=[vE 0,vE 3]) (rs:=[⟨.shr,true,.int m⟩,⟨.shr,g||(bQ (cF (eqT rows ends) m)).imm,bQ (cF (eqT rows ends) m)⟩]) (aB rfl (aB rfl bD)) e rfl
abbrev jL (m:Nat)(s:Cs):List Int:=tX m (s.hs.zip s.t) (Ap m 0)
theorem aH2 (hq:jX φq)(hb:jA φb)(E:Eqn m N rows ends)(h:brd m (cF (eqT rows ends) m)≠[]):bY 3 7 (pK φq φb φl) [.int m,.lst (lil rows),.lst (li ends)]=.ok (sc .non):=by
 obtain⟨g,e1⟩:=wT hq E none none none;obtain⟨f,c⟩:=rV hq hb E g none none none;have t:=lO c;rw[show (lil (brd m (cF (eqT rows ends) m))).isEmpty=false by cases q:brd m (cF (eqT rows ends) m) with | nil=>exact absurd q h | cons=>rfl]at t
 have e2:ifS (jS (aG φb [vE 0,vE 3])) (bF (cE .non)) bZ (qE7 m rows ends (some ⟨.shr,g,bQ (cF (eqT rows ends) m)⟩) none none none)=.rt (sc .non):=(fR t).trans rfl;exact(dM (np:=3) (n:=7) (s:=pK φq φb φl) (ds:=[.int m,.lst (lil rows),.lst (li ends)]) rfl ((aH e1).trans (rP e2))).trans rfl
theorem aF9 (hq:jX φq)(hb:jA φb)(hg:qX φg)(hl:φl=bY 2 3 (aBu φg))(E:Eqn m N rows ends)(h:brd m (cF (eqT rows ends) m)=[]):bY 3 7 (pK φq φb φl) [.int m,.lst (lil rows),.lst (li ends)] =
 .ok ⟨.shr,true,.tup [.int ((cF (eqT rows ends) m).b/(cZ ((cF (eqT rows ends) m).b :: jL m (cF (eqT rows ends) m)):Nat)),.lst (li ((jL m (cF (eqT rows ends) m)).map (·/(cZ ((cF (eqT rows ends) m).b :: jL m (cF (eqT rows ends) m)):Int))))]⟩:=by
 obtain⟨C,_⟩:=hq E;obtain⟨g,e1⟩:=wT hq E none none none;obtain⟨f,c⟩:=rV hq hb E g none none none;have ln:=E.ln;have m5:=E.m5;generalize cF (eqT rows ends) m=s at *
 have t:=lO c;rw[h]at t;have e2:ifS (jS (aG φb [vE 0,vE 3])) (bF (cE .non)) bZ (qE7 m rows ends (some ⟨.shr,g,bQ s⟩) none none none)=.nx (qE7 m rows ends (some ⟨.shr,g,bQ s⟩) none none none):=(fR t).trans rfl
 have e3:aO 4 (yT (aX [cE (.int 0)]) (vE 0)) (qE7 m rows ends (some ⟨.shr,g,bQ s⟩) none none none)=.nx (qE7 m rows ends (some ⟨.shr,g,bQ s⟩) (some ⟨.own,true,.lst (li (Ap m 0))⟩) none none):=by
  have:=aE1 (f:=aX [cE (.int 0)]) (g:=vE 0) (ρ:=qE7 m rows ends (some ⟨.shr,g,bQ s⟩) none none none) (kd:=.tmp) (fr:=true) (ds:=[.int 0]) (kd':=.shr) (fr':=true) (k:=(m:Int)) rfl rfl ⟨by decide,by omega,by omega,by rw[sizeLine_eq];simp;omega⟩
  refine(dU this).trans ?_
  rw[show (Ap (m:Int).toNat [D.int 0]).flatten=li (Ap m 0) by simp[li]]
  rfl
 have zd:uD (hsD s.hs) (lil s.t)=(s.hs.zip s.t).map fun p=>.tup [.int (p.1:Nat),.lst (li p.2)]:=sX (fun (h:Nat)=>D.int (h:Int)) (fun r=>D.lst (li r)) s.hs s.t
 have zp:∀ p∈s.hs.zip s.t,p.1<m/\p.2∈s.t:=fun p hp=>by
  obtain⟨a,b⟩:=Df (a:=p.1) (b:=p.2) hp;exact⟨C.lt _ a,b⟩
 obtain⟨y5,y6,el⟩:=pF (m:=m) (rows:=rows) (ends:=ends) (x3:=some ⟨.shr,g,bQ s⟩) (((g||(bQ s).imm)||(D.lst (hsD s.hs)).imm)&&((g||(bQ s).imm)||(D.lst (lil s.t)).imm)) (s.hs.zip s.t) (Ap m 0) none none (Cd ..) fun p hp=>⟨(zp p hp).1,by rw[C.row _ (zp p hp).2];omega⟩
 have e4:gL (qO (gM 1 1 (vE 3)) (gM 1 2 (vE 3))) (.tp [.nm 5,.nm 6]) (mC 4 (vE 5) (bA (vE 6) (vE 0))) (qE7 m rows ends (some ⟨.shr,g,bQ s⟩) (some ⟨.own,true,.lst (li (Ap m 0))⟩) none none)=.nx (qE7 m rows ends (some ⟨.shr,g,bQ s⟩) (some ⟨.own,true,.lst (li (jL m s))⟩) y5 y6):=by
  refine(lN (fr:=((g||(bQ s).imm)||(D.lst (hsD s.hs)).imm)&&((g||(bQ s).imm)||(D.lst (lil s.t)).imm)) (ds:=uD (hsD s.hs) (lil s.t)) rfl).trans ?_
  rw[zd];exact el
 have tb:=xW (M:=6500) (m:=m) (s.hs.zip s.t) (Ap m 0) (fun x hx=>by rw[(List.mem_replicate.mp hx).2];exact Nat.two_pow_pos _) fun p hp=>by
  have r:=(zp p hp).2;exact C.tn _ r _ (Mir.cI (by rw[C.row _ r];omega))
 have f0:gM 1 0 (vE 3) (qE7 m rows ends (some ⟨.shr,g,bQ s⟩) (some ⟨.own,true,.lst (li (jL m s))⟩) y5 y6)=.ok ⟨.shr,(g||(bQ s).imm)||true,.int s.b⟩:=rfl;have lw:=aI1 (φ:=φg) hg (N:=6500) (by decide) (by decide) C.b0 C.bn tb.1 (by show (tX m _ _).length<=1000;rw[tb.2,Cd];omega)
 have e5:bF (aG φl [gM 1 0 (vE 3),vE 4]) (qE7 m rows ends (some ⟨.shr,g,bQ s⟩) (some ⟨.own,true,.lst (li (jL m s))⟩) y5 y6)=.rt ⟨.shr,true,.tup [.int (s.b/(cZ (s.b :: jL m s):Nat)),.lst (li ((jL m s).map (·/(cZ (s.b :: jL m s):Int))))]⟩:=by
  subst hl;exact gB (eM (rs:=[⟨.shr,(g||(bQ s).imm)||true,.int s.b⟩,⟨.own,true,.lst (li (jL m s))⟩]) (aB f0 (aB rfl bD)) lw)
 exact(dM (np:=3) (n:=7) (s:=pK φq φb φl) (ds:=[.int m,.lst (lil rows),.lst (li ends)]) rfl ((aH e1).trans ((aH e2).trans ((aH e3).trans ((aH e4).trans e5))))).trans rfl
theorem aK8 {m:Int}{x:Xc}(h:φq [.int m,.lst (lil rows),.lst (li ends)]=.exc x):bY 3 7 (pK φq φb φl) [.int m,.lst (lil rows),.lst (li ends)]=.exc x :=
 fZ (np:=3) (n:=7) (s:=pK φq φb φl) (ds:=[.int m,.lst (lil rows),.lst (li ends)]) rfl (kP (xL (Sm.gP (rs:=[⟨.shr,true,.int m⟩,⟨.shr,false||(D.lst (lil rows)).imm,.lst (lil rows)⟩,⟨.shr,false||(D.lst (li ends)).imm,.lst (li ends)⟩]) (aB rfl (aB rfl (aB rfl bD))) h)))
abbrev lX (φq φb φg:Φ):FS :=
 (aP (aO 3 (aG φq [vE 0,vE 1,vE 2]))
 (aP (aO 4 (aG φb [vE 0,vE 3]))
 (aP (ifS (vS (jS (vE 4)))
  (bF (cE .non))
  bZ)
 (aP (aO 5 (fP (bA (vE 4) (cE (.int 0))) (soO (eW (vE 0) (cE (.int 1)))) (noO)))
 (aP (aO 6 (aG φg [vE 5]))
 (bF (bB (dY (vE 5)) 1 [6] (.nm 0) (bE (gI (vE 0) (vE 1))))))))))
theorem aI8 {m:Int}{x:Xc}(h:φq [.int m,.lst (lil rows),.lst (li ends)]=.exc x):bY 3 7 (lX φq φb φg) [.int m,.lst (lil rows),.lst (li ends)]=.exc x :=
 fZ (np:=3) (n:=7) (s:=lX φq φb φg) (ds:=[.int m,.lst (lil rows),.lst (li ends)]) rfl (kP (xL (Sm.gP (rs:=[⟨.shr,true,.int m⟩,⟨.shr,false||(D.lst (lil rows)).imm,.lst (lil rows)⟩,⟨.shr,false||(D.lst (li ends)).imm,.lst (li ends)⟩]) (aB rfl (aB rfl (aB rfl bD))) h)))
theorem aG3 (hq:jX φq)(hb:jA φb)(E:Eqn m N rows ends)(h:brd m (cF (eqT rows ends) m)=[]):bY 3 7 (lX φq φb φg) [.int m,.lst (lil rows),.lst (li ends)]=.ok (sc .non):=by
 obtain⟨g,e1⟩:=wT hq E none none none;obtain⟨f,c⟩:=rV hq hb E g none none none;rw[h]at c;have e2:aO 4 (aG φb [vE 0,vE 3]) (qE7 m rows ends (some ⟨.shr,g,bQ (cF (eqT rows ends) m)⟩) none none none)=.nx (qE7 m rows ends (some ⟨.shr,g,bQ (cF (eqT rows ends) m)⟩) (some ⟨.own,f,.lst (lil [])⟩) none none):=dU c;have v4:vE 4 (qE7 m rows ends (some ⟨.shr,g,bQ (cF (eqT rows ends) m)⟩) (some ⟨.own,f,.lst (lil [])⟩) none none)=.ok ⟨.own,f||(D.lst (lil [])).imm,.lst (lil [])⟩:=rfl;have e3:ifS (vS (jS (vE 4))) (bF (cE .non)) bZ (qE7 m rows ends (some ⟨.shr,g,bQ (cF (eqT rows ends) m)⟩) (some ⟨.own,f,.lst (lil [])⟩) none none)=.rt (sc .non):=(fR (wX (lO v4))).trans rfl
 exact(dM (np:=3) (n:=7) (s:=lX φq φb φg) (ds:=[.int m,.lst (lil rows),.lst (li ends)]) rfl ((aH e1).trans ((aH e2).trans (rP e3)))).trans rfl
theorem aHl (hq:jX φq)(hb:jA φb)(hg:qX φg)(E:Eqn m N rows ends){l:List Int}{r:List (List Int)}(h:brd m (cF (eqT rows ends) m)=l :: r):bY 3 7 (lX φq φb φg) [.int m,.lst (lil rows),.lst (li ends)] =
 .ok ⟨.tmp,true,.lst (li ((l.drop (m+1)).map (·/(cZ (l.drop (m+1)):Int))))⟩:=by
 obtain⟨C,_⟩:=hq E;obtain⟨g,e1⟩:=wT hq E none none none;obtain⟨f,c⟩:=rV hq hb E g none none none;have ln:=E.ln;have m5:=E.m5;have lm:l∈(cF (eqT rows ends) m).t.drop (cF (eqT rows ends) m).hs.length:=(Dg.mp (show l∈brd m (cF (eqT rows ends) m) by rw[h];exact Af)).1
 have mk:=aBp E lm;have lt:=Cv lm;have ll:=C.row l lt;have br:BR 6500 (l.drop (m+1)):=fun x hx=>C.tn l lt x (Cv hx);have gp:=sK mk (by have:=C.b0;omega)
 have gb:=C.bn;generalize cF (eqT rows ends) m=s at *
 rw[h]at c;have e2:aO 4 (aG φb [vE 0,vE 3]) (qE7 m rows ends (some ⟨.shr,g,bQ s⟩) none none none)=.nx (qE7 m rows ends (some ⟨.shr,g,bQ s⟩) (some ⟨.own,f,.lst (lil (l :: r))⟩) none none):=dU c;have v4:∀ x5 x6,vE 4 (qE7 m rows ends (some ⟨.shr,g,bQ s⟩) (some ⟨.own,f,.lst (lil (l :: r))⟩) x5 x6)=.ok ⟨.own,f||(D.lst (lil (l :: r))).imm,.lst (lil (l :: r))⟩:=fun _ _=>rfl;have e3:ifS (vS (jS (vE 4))) (bF (cE .non)) bZ (qE7 m rows ends (some ⟨.shr,g,bQ s⟩) (some ⟨.own,f,.lst (lil (l :: r))⟩) none none)=.nx (qE7 m rows ends (some ⟨.shr,g,bQ s⟩) (some ⟨.own,f,.lst (lil (l :: r))⟩) none none):=(fR (wX (lO (v4 none none)))).trans rfl
 have i0:=eD (g:=cE (.int 0)) (i:=0) (d:=.lst (li l)) (v4 none none) (k':=.shr) (fr':=true) rfl rfl;have a1:eW (vE 0) (cE (.int 1)) (qE7 m rows ends (some ⟨.shr,g,bQ s⟩) (some ⟨.own,f,.lst (lil (l :: r))⟩) none none)=.ok (sc (.int ((m:Int)+1))):=bW (C:=C0) (G:=fun i j=>i+j) (k:=.shr) (fr:=true) (i:=(m:Int)) (k':=.shr) (fr':=true) (j:=1) rfl rfl rfl;have sl:=jR (lo:=soO (eW (vE 0) (cE (.int 1)))) (hi:=noO) i0 (pX a1) (b:=none) rfl;rw[show ((m:Int)+1)=((m+1:Nat):Int) by omega,aCe,show (li l).drop (m+1)=li (l.drop (m+1)) from Ei.symm]at sl
 obtain⟨f5,sl⟩:∃ f5,fP (bA (vE 4) (cE (.int 0))) (soO (eW (vE 0) (cE (.int 1)))) noO (qE7 m rows ends (some ⟨.shr,g,bQ s⟩) (some ⟨.own,f,.lst (lil (l :: r))⟩) none none)=.ok ⟨.tmp,f5,.lst (li (l.drop (m+1)))⟩:=⟨_,sl⟩;have e4:aO 5 (fP (bA (vE 4) (cE (.int 0))) (soO (eW (vE 0) (cE (.int 1)))) (noO)) (qE7 m rows ends (some ⟨.shr,g,bQ s⟩) (some ⟨.own,f,.lst (lil (l :: r))⟩) none none)=.nx (qE7 m rows ends (some ⟨.shr,g,bQ s⟩) (some ⟨.own,f,.lst (lil (l :: r))⟩) (some ⟨.own,f5,.lst (li (l.drop (m+1)))⟩) none):=dU sl;have e5:aO 6 (aG φg [vE 5]) (qE7 m rows ends (some ⟨.shr,g,bQ s⟩) (some ⟨.own,f,.lst (lil (l :: r))⟩) (some ⟨.own,f5,.lst (li (l.drop (m+1)))⟩) none)=.nx (qE7 m rows ends (some ⟨.shr,g,bQ s⟩) (some ⟨.own,f,.lst (lil (l :: r))⟩) (some ⟨.own,f5,.lst (li (l.drop (m+1)))⟩) (nR (cZ (l.drop (m+1)):Nat))):=set_shr (eM (rs:=[⟨.own,f5||(D.lst (li (l.drop (m+1)))).imm,.lst (li (l.drop (m+1)))⟩]) (aB rfl bD) (hg (N:=6500) (by decide) br))
 have e6:=eF (it:=dY (vE 5)) (ρ:=qE7 m rows ends (some ⟨.shr,g,bQ s⟩) (some ⟨.own,f,.lst (lil (l :: r))⟩) (some ⟨.own,f5,.lst (li (l.drop (m+1)))⟩) (nR (cZ (l.drop (m+1)):Nat))) (k:=1) (fs:=[6]) (tg:=.nm 0) (b:=bE (gI (vE 0) (vE 1))) (inj:=D.int) (out:=fun x=>.int (x/(cZ (l.drop (m+1)):Nat))) (xs:=l.drop (m+1)) (lE (k:=.own) (fr:=f5||(D.lst (li (l.drop (m+1)))).imm) (ds:=li (l.drop (m+1))) rfl)
  (fun x hx=>⟨[some ⟨.shr,f5||(D.lst (li (l.drop (m+1)))).imm,.int x⟩,nR (cZ (l.drop (m+1)):Nat)],.shr,rfl,gU (bW (C:=CD) (G:=fun i j=>i/j) (k:=.shr) (i:=x) (k':=.shr) (fr':=true) (j:=(cZ (l.drop (m+1)):Nat)) rfl rfl (aGj (by omega) (N:=6500) (by omega) (by decide) (by decide))),by decide⟩) (by rw[Cf,ll,sizeLine_eq];omega)
 have e7:bF (bB (dY (vE 5)) 1 [6] (.nm 0) (bE (gI (vE 0) (vE 1)))) (qE7 m rows ends (some ⟨.shr,g,bQ s⟩) (some ⟨.own,f,.lst (lil (l :: r))⟩) (some ⟨.own,f5,.lst (li (l.drop (m+1)))⟩) (nR (cZ (l.drop (m+1)):Nat)))=.rt ⟨.tmp,true,.lst (li ((l.drop (m+1)).map (·/(cZ (l.drop (m+1)):Int))))⟩:=by
  rw[show li ((l.drop (m+1)).map (·/(cZ (l.drop (m+1)):Int)))=(l.drop (m+1)).map fun x=>.int (x/(cZ (l.drop (m+1)):Nat)) by simp[li,Function.comp_def]]
  exact mI e6
 exact(dM (np:=3) (n:=7) (s:=lX φq φb φg) (ds:=[.int m,.lst (lil rows),.lst (li ends)]) rfl ((aH e1).trans ((aH e2).trans ((aH e3).trans ((aH e4).trans ((aH e5).trans e7)))))).trans rfl
end
end Hm
namespace N83
open PySem L2 Mir Sm Hm
theorem aBa {m:Int}(h:(decide (m<1)||decide (5<m))=false):bP [.int m]=.ok (sc .non):=by
 have t:=aFn m;rw[h]at t;exact vV (ρ:=[some ⟨.shr,false,.int m⟩]) rfl ((fR t).trans rfl)
theorem aHz {m:Int}(h:(decide (m<1)||decide (5<m))=true):bP [.int m]=.exc ⟨.BadCount,[]⟩:=zM h
theorem aKb {xs ys:List D}(h:xs.length=ys.length):bX [.lst xs,.lst ys]=.ok (sc .non):=aDa h
theorem aJ4 {xs ys:List D}(h:xs.length≠ys.length):bX [.lst xs,.lst ys]=.exc ⟨.NotAlike,[]⟩:=by
 have t:bT (neE (dF (vE 0)) (dF (vE 1))) [some ⟨.shr,false,.lst xs⟩,some ⟨.shr,false,.lst ys⟩]=.ok (!decide ((xs.length:Int)=(ys.length:Int))):=fQ (jV (gG (k:=.shr) (fr:=false||(D.lst xs).imm) (ds:=xs) rfl) (gG (k:=.shr) (fr:=false||(D.lst ys).imm) (ds:=ys) rfl));rw[decide_eq_false (by omega)]at t
 exact fZ (np:=2) (n:=2) (s:=jI) (ds:=[.lst xs,.lst ys]) (ρ:=[some ⟨.shr,false,.lst xs⟩,some ⟨.shr,false,.lst ys⟩]) rfl ((fR t).trans rfl)
theorem aK3:qX aZ:=fun {N} hN {xs} h=>aKr hN h
theorem aI9:mG kW:=fun a b c d e f g h i=>aEy a b c d e f g h i
theorem aL1:aAm fF:=fun a b c d e f g=>zH aI9 a b c d e f g
section
variable {m:Int}{rows:List (List Int)}{ends:List Int}
theorem aJ1 {x:Xc}(h:bV [.int m,.lst (lil rows)]=.exc x):aC [.int m,.lst (lil rows),.lst (li ends)]=.exc x :=
 fZ (np:=3) (n:=3) (s:=dJ) (ds:=[.int m,.lst (lil rows),.lst (li ends)]) rfl (kP (kN (Sm.gP (rs:=[⟨.shr,true,.int m⟩,⟨.shr,false||(D.lst (lil rows)).imm,.lst (lil rows)⟩]) (aB rfl (aB rfl bD)) h)))
theorem aL8 {x:Xc}(h0:bV [.int m,.lst (lil rows)]=.ok (sc .non))(h:bX [.lst (lil rows),.lst (li ends)]=.exc x):aC [.int m,.lst (lil rows),.lst (li ends)]=.exc x:=by
 have e1:dH (aG bV [vE 0,vE 1]) (qE m rows ends)=.nx (qE m rows ends):=kR (eM (rs:=[⟨.shr,true,.int m⟩,⟨.shr,false||(D.lst (lil rows)).imm,.lst (lil rows)⟩]) (aB rfl (aB rfl bD)) h0);exact fZ (np:=3) (n:=3) (s:=dJ) (ds:=[.int m,.lst (lil rows),.lst (li ends)]) rfl ((aH e1).trans (kP (kN (Sm.gP (rs:=[⟨.shr,false||(D.lst (lil rows)).imm,.lst (lil rows)⟩,⟨.shr,false||(D.lst (li ends)).imm,.lst (li ends)⟩]) (aB rfl (aB rfl bD)) h))))
theorem aDp (h:(decide (m<1)||decide (5<m))=true):aC [.int m,.lst (lil rows),.lst (li ends)]=.exc ⟨.BadCount,[]⟩:=aJ1 (Od.aMb (φc:=bP) (aHz h))
theorem aAg (h:(decide (m<1)||decide (5<m))=false){j:Nat}(hj:Od.Fst m rows j):aC [.int m,.lst (lil rows),.lst (li ends)]=.exc ⟨.BadRows,[.int (j:Nat)]⟩:=aJ1 (Od.aKf (φc:=bP) (aBa h) hj)
theorem aI7 (h:(decide (m<1)||decide (5<m))=false)(hr:∀ r∈rows,(r.length:Int)=m):bV [.int m,.lst (lil rows)]=.ok (sc .non):=Od.aKu (φc:=bP) (aBa h) hr
theorem wI (h:(decide (m<1)||decide (5<m))=false)(hr:∀ r∈rows,(r.length:Int)=m)(hl:rows.length≠ends.length):aC [.int m,.lst (lil rows),.lst (li ends)]=.exc ⟨.NotAlike,[]⟩:=aL8 (aI7 h hr) (aJ4 (by rw[Ah,Ah];exact hl))
end
theorem wL {m:Nat}(m1:1<=m)(m5:m<=5):(decide ((m:Int)<1)||decide (5<(m:Int)))=false:=by rw[decide_eq_false (by omega),decide_eq_false (by omega)];rfl
theorem aDq:jX aC:=fun {m N rows ends} E=>by
 have ln:=E.ln;exact aJg (φr:=bV) (φa:=bX) (φc:=fF) (φu:=kH) (aI7 (wL E.m1 E.m5) fun r hr=>by rw[E.sz r hr]) (aKb (by rw[Ah,Ah];exact E.al.symm)) aL1 (aC4 (by omega)) E
theorem aEw:jA aY:=fun C h1 h2=>aKe C h1 h2
def ab (k:Nat):Φ:=if k=0 then eP else lU
theorem aKs (k:Nat){m N:Nat}{rows:List (List Int)}{ends:List Int}(E:Eqn m N rows ends):∃ r,ab k [.int m,.lst (lil rows),.lst (li ends)]=.ok r:=by
 unfold ab;split
 · by_cases z:brd m (cF (eqT rows ends) m)=[]
   · exact⟨_,aF9 (φq:=aC) (φb:=aY) (φl:=fH) (φg:=aZ) aDq aEw aK3 rfl E z⟩
   · exact⟨_,aH2 (φq:=aC) (φb:=aY) (φl:=fH) aDq aEw E z⟩
 · cases z:brd m (cF (eqT rows ends) m) with
   | nil=>exact⟨_,aG3 (φq:=aC) (φb:=aY) (φg:=aZ) aDq aEw E z⟩
   | cons l r=>exact⟨_,aHl (φq:=aC) (φb:=aY) (φg:=aZ) aDq aEw aK3 E z⟩
theorem aLh (k:Nat){m:Int}{rows:List (List Int)}{ends:List Int}{x:Xc}(h:aC [.int m,.lst (lil rows),.lst (li ends)]=.exc x):ab k [.int m,.lst (lil rows),.lst (li ends)]=.exc x:=by
 unfold ab;split
 · exact aK8 (φq:=aC) (φb:=aY) (φl:=fH) h
 · exact aI8 (φq:=aC) (φb:=aY) (φg:=aZ) h
abbrev fE (k:Nat)(m:Int)(rows:List (List Int))(ends:List Int)(x4:Option Res):Mir.Env:=[some ⟨.shr,false,.int k⟩,some ⟨.shr,false,.int m⟩,some ⟨.shr,false,.lst (lil rows)⟩,some ⟨.shr,false,.lst (li ends)⟩,x4,none]
abbrev sW:FS:=(ifS (bT (eqE (vE 0) (cE (.int 0))))
 (dH (aG eP [vE 1,vE 2,vE 3]))
 (dH (aG lU [vE 1,vE 2,vE 3])))
section
variable {k:Nat}{m:Int}{rows:List (List Int)}{ends:List Int}{x4:Option Res}
theorem aFr:sW (fE k m rows ends x4)=dH (aG (ab k) [vE 1,vE 2,vE 3]) (fE k m rows ends x4):=by
 have t:bT (eqE (vE 0) (cE (.int 0))) (fE k m rows ends x4)=.ok (decide ((k:Int)=0)):=fQ (vM (k:=.shr) (fr:=true) (i:=(k:Int)) (k':=.shr) (fr':=true) (j:=0) rfl rfl);refine(fR t).trans ?_
 unfold ab;by_cases z:k=0
 · rw[decide_eq_true (by omega),if_pos z];rfl
 · rw[decide_eq_false (by omega),if_neg z];rfl
abbrev RS3 (m:Int)(rows:List (List Int))(ends:List Int):List Res:=[⟨.shr,true,.int m⟩,⟨.shr,false||(D.lst (lil rows)).imm,.lst (lil rows)⟩,⟨.shr,false||(D.lst (li ends)).imm,.lst (li ends)⟩]
theorem aIm {r:Res}(h:ab k [.int m,.lst (lil rows),.lst (li ends)]=.ok r):sW (fE k m rows ends x4)=.nx (fE k m rows ends x4):=by
 rw[aFr];obtain⟨kd,fr,d⟩:=r;obtain⟨f',c⟩:=jZ (φ:=ab k) (fs:=[vE 1,vE 2,vE 3]) (ρ:=fE k m rows ends x4) (rs:=RS3 m rows ends) (aB rfl (aB rfl (aB rfl bD))) h rfl;exact kR c
theorem aFu {x:Xc}(h:ab k [.int m,.lst (lil rows),.lst (li ends)]=.exc x):sW (fE k m rows ends x4)=.exc x (fE k m rows ends x4):=by
 rw[aFr];exact kN (Sm.gP (rs:=RS3 m rows ends) (aB rfl (aB rfl (aB rfl bD))) h)
theorem aF8 {d:D}{r:D}(h:yB 4 5 sW (fE k m rows ends (some (sc .non)))=.nx (fE k m rows ends (some (sc d))))(hc:bI [d]=.ok ⟨.tmp,true,r⟩):aK [.int k,.int m,.lst (lil rows),.lst (li ends)]=.ok ⟨.tmp,true,r⟩:=by
 have e1:aO 4 (cE .non) (fE k m rows ends none)=.nx (fE k m rows ends (some (sc .non))):=rfl;have e3:bF (aG bI [vE 4]) (fE k m rows ends (some (sc d)))=.rt ⟨.tmp,true,r⟩:=mI (kS (rs:=[⟨.shr,true,d⟩]) (aB rfl bD) hc);exact(dM (np:=4) (n:=6) (s:=kT) (ds:=[.int k,.int m,.lst (lil rows),.lst (li ends)]) rfl ((aH e1).trans ((aH h).trans e3))).trans rfl
theorem aCc:bI [.non]=.ok ⟨.tmp,true,.lst []⟩:=by kernel_rfl
theorem aBb:bI [.exc .BadCount []]=.ok ⟨.tmp,true,.lst [.str "count"]⟩:=by kernel_rfl
theorem aA4:bI [.exc .BadRows []]=.ok ⟨.tmp,true,.lst [.str "rows"]⟩:=by kernel_rfl
theorem uM:bI [.exc .NotAlike []]=.ok ⟨.tmp,true,.lst [.str "alike"]⟩:=by kernel_rfl
theorem aK7 {r:Res}(h:ab k [.int m,.lst (lil rows),.lst (li ends)]=.ok r):aK [.int k,.int m,.lst (lil rows),.lst (li ends)]=.ok ⟨.tmp,true,.lst []⟩:=by
 refine aF8 (d:=.non) ?_ aCc
 simp only[yB,aIm h]
theorem aDz {c:XC}{ds:List D}{r:D}(h:aC [.int m,.lst (lil rows),.lst (li ends)]=.exc ⟨c,ds⟩)(hc:bI [.exc c []]=.ok ⟨.tmp,true,r⟩):aK [.int k,.int m,.lst (lil rows),.lst (li ends)]=.ok ⟨.tmp,true,r⟩:=by
 refine aF8 (d:=.exc c []) ?_ hc
 simp only[yB,aFu (aLh k h)];rfl
theorem aMl {j:Nat}(h:aC [.int m,.lst (lil rows),.lst (li ends)]=.exc ⟨.BadRows,[.int (j:Nat)]⟩):cT [.int k,.int m,.lst (lil rows),.lst (li ends)]=.ok (sc (.int (j:Nat))):=by
 have e1:aO 4 (cE .non) (fE k m rows ends none)=.nx (fE k m rows ends (some (sc .non))):=rfl
 have e2:aAn .BadRows 4 5 sW (fE k m rows ends (some (sc .non)))=.nx (fE k m rows ends (some (sc (.int (j:Nat))))):=by
  simp only[aAn,aFu (aLh k h)];rfl
 have e3:bF (vE 4) (fE k m rows ends (some (sc (.int (j:Nat)))))=.rt ⟨.shr,true,.int (j:Nat)⟩:=rfl;exact(dM (np:=4) (n:=6) (s:=kL) (ds:=[.int k,.int m,.lst (lil rows),.lst (li ends)]) rfl ((aH e1).trans ((aH e2).trans e3))).trans rfl
end
end N83
namespace N83
open PySem L2 Mir Sm Hm
theorem aA2 {f g:FE}{ρ:Mir.Env}{k k':Kd}{fr fr':Bool}(ns:List Int)(i:Nat)(h1:f ρ=.ok ⟨k,fr,.lst (li ns)⟩)(h2:g ρ=.ok ⟨k',fr',.int (i:Nat)⟩):aG aV [f,g] ρ=.ok ⟨.shr,true,.int (aU ns i)⟩:=eM (rs:=[⟨k,fr,.lst (li ns)⟩,⟨k',fr',.int (i:Nat)⟩]) (aB h1 (aB h2 bD)) (aAv ns i)
theorem aG1 {f g:FE}{ρ:Mir.Env}{k1 k2:Kd}{f1 f2:Bool}{a b:D}(h1:f ρ=.ok ⟨k1,f1,a⟩)(h2:g ρ=.ok ⟨k2,f2,b⟩)(n1:k1≠.own)(n2:k2≠.own):aX [f,g] ρ=.ok ⟨.tmp,f1&&(f2&&true),.lst [a,b]⟩:=by
 have ev:=aB h1 (aB h2 (bD (ρ:=ρ)));simp only[aX,ev,R.ok_bind,gives,Res.give,if_neg n1,if_neg n2];rfl
theorem aLy {f g h:FE}{ρ:Mir.Env}{f1 f2 f3:Bool}{a b c:D}(h1:f ρ=.ok ⟨.tmp,f1,a⟩)(h2:g ρ=.ok ⟨.tmp,f2,b⟩)(h3:h ρ=.ok ⟨.tmp,f3,c⟩):aX [f,g,h] ρ=.ok ⟨.tmp,f1&&(f2&&(f3&&true)),.lst [a,b,c]⟩:=by
 have ev:=aB h1 (aB h2 (aB h3 (bD (ρ:=ρ))));simp only[aX,ev,R.ok_bind];rfl
theorem sQ (xs:List Int):(tK xs none (some (-1))).length=xs.length-1:=by
 unfold tK;rw[HT.nV];show (List.take ((if (-1:Int)<0 then ((-1:Int)+(xs.length:Int)).toNat else min (-1:Int).toNat xs.length)-0) (List.drop 0 xs)).length=_
 rw[if_pos (by decide),List.drop_zero,Bt]
 omega
theorem xP {m:Int}{r':List Int}(h:(r'.length:Int)≠m):∀ (rows:List (List Int)) (p:Nat),p<rows.length->(∀ r∈rows,(r.length:Int)=m)->Od.Fst m (rows.set p r') p
 | r :: rs,0,_,_=>.here h
 | r :: rs,p+1,hp,ha=>.next (ha r Af) (xP h rs p (by simpa using hp) fun q hq=>ha q (Ab _ hq))
 | [],p,hp,_=>absurd hp (by simp)
def iR (ns:List Int)(ways many:Nat):List (List Int):=(Bj many).map fun k=>(Bj ways).map fun j=>aU ns (4+k+j)%7-3
def kY (ns:List Int)(many:Nat):List Int:=(Bj many).map fun k=>aU ns (20+k)%9-4
theorem yA (ns:List Int){ways many:Nat}(w1:1<=ways)(w5:ways<=5)(hm:many<=6):Eqn ways 3 (iR ns ways many) (kY ns many):=by
 have rl:(iR ns ways many).length=many:=by unfold iR;simp
 refine⟨w1,w5,by omega,fun r hr=>?_,by unfold kY;rw[rl];simp,fun r hr x hx=>?_,fun x hx=>?_,by decide,by decide⟩
 · obtain⟨k,_,rfl⟩:=Bb.mp hr;simp
 · obtain⟨k,_,rfl⟩:=Bb.mp hr
   obtain⟨j,_,rfl⟩:=Bb.mp hx;show _<8
   omega
 · obtain⟨k,_,rfl⟩:=Bb.mp hx
   show _<8
   omega
abbrev cJ (ns:List Int)(x1 x2 x3 x4 x5 x6 x7 x8 x9 x10 x11 x12:Option Res):Mir.Env:=[S0 ns,x1,x2,x3,x4,x5,x6,x7,x8,x9,x10,x11,x12]
abbrev lR (xs:List Int):Option Res:=some ⟨.own,true,.lst (li xs)⟩
theorem aHn (ns:List Int){ways many:Nat}(w5:ways<=5)(hm:many<=6):aO 3 (bB (dE (vE 2)) 1 [1,0] (.nm 0) (bE (bB (dE (vE 1)) 1 [2,0] (.nm 0) (bE (oW (dO (aG aV [vE 1,eW (eW (cE (.int 4)) (vE 2)) (vE 0)]) (cE (.int 7))) (cE (.int 3))))))) (cJ ns (nR ways) (nR many) none none none none none none none none none none)=.nx (cJ ns (nR ways) (nR many) (tR true (iR ns ways many)) none none none none none none none none none):=by
 refine(dU (eF (inj:=fun (k:Nat)=>.int (k:Int)) (out:=fun k=>.lst ((Bj ways).map fun j=>.int (aU ns (4+k+j)%7-3))) (xs:=Bj many) (jD (k:=.shr) (fr:=true) (n:=many) rfl (by omega)) (fun k hk=>⟨[nR k,nR ways,S0 ns],.tmp,rfl,gU ?_,by decide⟩) (by rw[Dk,sizeLine_eq];omega))).trans ?_
 · refine eF (inj:=fun (j:Nat)=>.int (j:Int)) (xs:=Bj ways) (jD (k:=.shr) (fr:=true) (n:=ways) rfl (by omega)) (fun j hj=>⟨[nR j,S0 ns,nR k],.shr,rfl,gU ?_,by decide⟩) (by rw[Dk,sizeLine_eq];omega)
   have a:eW (eW (cE (.int 4)) (vE 2)) (vE 0) [nR j,S0 ns,nR k]=.ok ⟨.shr,true,.int ((4+k+j:Nat):Int)⟩:=by
    refine(bW (C:=C0) (G:=fun i j=>i+j) (bW (C:=C0) (G:=fun i j=>i+j) (f:=cE (.int 4)) (k:=.shr) (fr:=true) (i:=4) rfl (g:=vE 2) (k':=.shr) (fr':=true) (j:=(k:Int)) rfl rfl) (g:=vE 0) (k':=.shr) (fr':=true) (j:=(j:Int)) rfl rfl).trans ?_
    rw[show ((4+k+j:Nat):Int)=4+(k:Int)+(j:Int) by omega];rfl
   exact bW (C:=C0) (G:=fun i j=>i-j) (bW (C:=CP) (G:=fun i j=>i%j) (aA2 ns (4+k+j) (f:=vE 1) (k:=.shr) (fr:=false||(D.lst (li ns)).imm) rfl a) (g:=cE (.int 7)) (k':=.shr) (fr':=true) (j:=7) rfl (jM (by decide))) (g:=cE (.int 3)) (k':=.shr) (fr':=true) (j:=3) rfl rfl
 · show _=RS.nx (cJ ns (nR ways) (nR many) (some ⟨.own,true,.lst (lil (iR ns ways many))⟩) none none none none none none none none none)
   rw[show lil (iR ns ways many)=(Bj many).map fun k=>.lst ((Bj ways).map fun j=>.int (aU ns (4+k+j)%7-3)) by simp[iR,lil,li,Function.comp_def]]
   rfl
theorem aHs (ns:List Int){many:Nat}(x1 x3:Option Res)(hm:many<=6):aO 4 (bB (dE (vE 2)) 1 [0] (.nm 0) (bE (oW (dO (aG aV [vE 1,eW (cE (.int 20)) (vE 0)]) (cE (.int 9))) (cE (.int 4))))) (cJ ns x1 (nR many) x3 none none none none none none none none none)=.nx (cJ ns x1 (nR many) x3 (lR (kY ns many)) none none none none none none none none):=by
 refine(dU (eF (inj:=fun (k:Nat)=>.int (k:Int)) (out:=fun k=>.int (aU ns (20+k)%9-4)) (xs:=Bj many) (jD (k:=.shr) (fr:=true) (n:=many) rfl (by omega)) (fun k hk=>⟨[nR k,S0 ns],.shr,rfl,gU ?_,by decide⟩) (by rw[Dk,sizeLine_eq];omega))).trans ?_
 · have a:eW (cE (.int 20)) (vE 0) [nR k,S0 ns]=.ok ⟨.shr,true,.int ((20+k:Nat):Int)⟩:=by
    refine(bW (C:=C0) (G:=fun i j=>i+j) (f:=cE (.int 20)) (k:=.shr) (fr:=true) (i:=20) rfl (g:=vE 0) (k':=.shr) (fr':=true) (j:=(k:Int)) rfl rfl).trans ?_
    rw[show ((20+k:Nat):Int)=20+(k:Int) by omega];rfl
   exact bW (C:=C0) (G:=fun i j=>i-j) (bW (C:=CP) (G:=fun i j=>i%j) (aA2 ns (20+k) (f:=vE 1) (k:=.shr) (fr:=false||(D.lst (li ns)).imm) rfl a) (g:=cE (.int 9)) (k':=.shr) (fr':=true) (j:=9) rfl (jM (by decide))) (g:=cE (.int 4)) (k':=.shr) (fr':=true) (j:=4) rfl rfl
 · show _=RS.nx (cJ ns x1 (nR many) x3 (some ⟨.own,true,.lst (li (kY ns many))⟩) none none none none none none none none)
   rw[show li (kY ns many)=(Bj many).map fun k=>.int (aU ns (20+k)%9-4) by simp[kY,li,Function.comp_def]]
   rfl
section
variable (ns:List Int)(x1 x2 x3:Option Res)(ends:List Int)(c:Int)
theorem aD7 (hl:ends.length<=100):∃ fewer g,(fewer.length≠ends.length\/ends.length=0)/\fewer.length<=200/\aO 6 (bA (aX [dX (vE 4) (aX [cE (.int 1)]),fP (vE 4) (noO) (soO (gN (cE (.int 1)))),dX (vE 4) (aX [cE (.int 0),cE (.int 0)])]) (dO (vE 5) (cE (.int 3)))) (cJ ns x1 x2 x3 (lR ends) (nR c) none none none none none none none)=.nx (cJ ns x1 x2 x3 (lR ends) (nR c) (some ⟨.shr,g,.lst (li fewer)⟩) none none none none none none):=by
 have a1:=kG (f:=vE 4) (g:=aX [cE (.int 1)]) (ρ:=cJ ns x1 x2 x3 (lR ends) (nR c) none none none none none none none) (k:=.own) (fr:=true) (ds:=li ends) (k':=.tmp) (fr':=true) (es:=li [1]) rfl rfl (by rw[Ah,sizeLine_eq];show _+1<=_;omega)
 have a2:=jR (f:=vE 4) (lo:=noO) (hi:=soO (gN (cE (.int 1)))) (ρ:=cJ ns x1 x2 x3 (lR ends) (nR c) none none none none none none none) (k:=.own) (fr:=true) (ds:=li ends) (a:=none) (b:=some (-1)) rfl rfl rfl;rw[zX]at a2;have a3:=kG (f:=vE 4) (g:=aX [cE (.int 0),cE (.int 0)]) (ρ:=cJ ns x1 x2 x3 (lR ends) (nR c) none none none none none none none) (k:=.own) (fr:=true) (ds:=li ends) (k':=.tmp) (fr':=true) (es:=li [0,0]) rfl rfl (by rw[Ah,sizeLine_eq];show _+2<=_;omega)
 have l:=aLy a1 a2 a3;obtain⟨i,hi,ei⟩:∃ i:Nat,i<3/\c%3=(i:Int):=⟨(c%3).toNat,by omega,by omega⟩
 have x:dO (vE 5) (cE (.int 3)) (cJ ns x1 x2 x3 (lR ends) (nR c) none none none none none none none)=.ok ⟨.shr,true,.int (i:Nat)⟩:=by
  rw[←ei];exact bW (k:=.shr) (fr:=true) (i:=c) (k':=.shr) (fr':=true) (j:=3) rfl rfl (jM (by decide))
 have e:∀ {z:List Int} {d:D},d=.lst (li z)->([.lst (li ends++li [1]),.lst (li (tK ends none (some (-1)))),.lst (li ends++li [0,0])]:List D)[i]?=some d->∃ g,aO 6 (bA (aX [dX (vE 4) (aX [cE (.int 1)]),fP (vE 4) (noO) (soO (gN (cE (.int 1)))),dX (vE 4) (aX [cE (.int 0),cE (.int 0)])]) (dO (vE 5) (cE (.int 3)))) (cJ ns x1 x2 x3 (lR ends) (nR c) none none none none none none none)=.nx (cJ ns x1 x2 x3 (lR ends) (nR c) (some ⟨.shr,g,.lst (li z)⟩) none none none none none none):=fun {z d} hd h=>by
  subst hd;exact⟨_,set_shr (eD l x h)⟩
 have cl:=sQ ends;rcases (show i=0\/i=1\/i=2 by omega) with rfl | rfl | rfl
 · obtain⟨g,q⟩:=e (z:=ends++[1]) (by simp[li]) rfl
   exact⟨_,g,.inl (by simp),by simp;omega,q⟩
 · obtain⟨g,q⟩:=e (z:=tK ends none (some (-1))) rfl rfl
   exact⟨_,g,by omega,by omega,q⟩
 · obtain⟨g,q⟩:=e (z:=ends++[0,0]) (by simp[li]) rfl
   exact⟨_,g,.inl (by simp),by simp;omega,q⟩
end
section
variable (ns:List Int){ways many:Nat}{rows:List (List Int)}(ends:List Int)(c:Int)(x6:Option Res)
theorem aK0 (w1:1<=ways)(w5:ways<=5)(hm:many<=6)(rl:rows.length=many)(rz:∀ r∈rows,r.length=ways){p:Nat}(hp:0<many->p<many):∃ bad f,bad.length=many/\(0<many->Od.Fst ways bad p)/\ifS (bT (gtE (vE 2) (cE (.int 0))))
 (mC 7 (vE 8) (bA (aX [dX (bA (vE 7) (vE 8)) (aX [dO (vE 5) (cE (.int 5))]),fP (bA (vE 7) (vE 8)) (noO) (soO (gN (cE (.int 1))))]) (dO (gI (vE 5) (cE (.int 30))) (cE (.int 2)))))
 bZ (cJ ns (nR ways) (nR many) (tR true rows) (lR ends) (nR c) x6 (tR true rows) (nR p) none none none none)=.nx (cJ ns (nR ways) (nR many) (tR true rows) (lR ends) (nR c) x6 (tR f bad) (nR p) none none none none):=by
 have t:bT (gtE (vE 2) (cE (.int 0))) (cJ ns (nR ways) (nR many) (tR true rows) (lR ends) (nR c) x6 (tR true rows) (nR p) none none none none)=.ok (decide ((0:Int)<(many:Int))):=fQ (iX (G:=fun i j=>decide (j<i)) (k:=.shr) (fr:=true) (i:=(many:Int)) (k':=.shr) (fr':=true) (j:=0) rfl rfl);by_cases z:0<many
 · rw[decide_eq_true (by omega)]at t
   have pl:p<rows.length:=by have:=hp z;omega
   have mr:rows.getD p []∈rows:=Mir.cI pl;have lr:=rz _ mr;have i0:=eD (f:=vE 7) (g:=vE 8) (ρ:=cJ ns (nR ways) (nR many) (tR true rows) (lR ends) (nR c) x6 (tR true rows) (nR p) none none none none) (k:=.own) (fr:=true) (ds:=lil rows) (k':=.shr) (fr':=true) (i:=p) rfl rfl (Hm.jP pl);have m5:aX [dO (vE 5) (cE (.int 5))] (cJ ns (nR ways) (nR many) (tR true rows) (lR ends) (nR c) x6 (tR true rows) (nR p) none none none none)=.ok ⟨.tmp,true&&true,.lst [.int (c%5)]⟩:=aCw (bW (k:=.shr) (fr:=true) (i:=c) (k':=.shr) (fr':=true) (j:=5) rfl rfl (jM (by decide)))
   have a1:=kG i0 m5 (by rw[Ah,lr,Aw,sizeLine_eq];omega)
   have a2:=jR (lo:=noO) (hi:=soO (gN (cE (.int 1)))) (a:=none) (b:=some (-1)) i0 rfl rfl;rw[zX]at a2;have l:=aG1 a1 a2 (by decide) (by decide)
   obtain⟨i,hi,ei⟩:∃ i:Nat,i<2/\c/30%2=(i:Int):=⟨(c/30%2).toNat,by omega,by omega⟩
   have x:dO (gI (vE 5) (cE (.int 30))) (cE (.int 2)) (cJ ns (nR ways) (nR many) (tR true rows) (lR ends) (nR c) x6 (tR true rows) (nR p) none none none none)=.ok ⟨.shr,true,.int (i:Nat)⟩:=by
    rw[←ei];exact bW (bW (k:=.shr) (fr:=true) (i:=c) (k':=.shr) (fr':=true) (j:=30) rfl rfl (aFi (by decide) (by decide))) (k':=.shr) (fr':=true) (j:=2) rfl (jM (by decide))
   have ix:L2.ixN (lil rows).length (p:Nat)=some p:=by
    unfold L2.ixN;rw[Ah,if_pos (by omega),if_pos (by omega)]
    congr 1
   have go:∀ {r':List Int} {d:D},d=.lst (li r')->([.lst (li (rows.getD p [])++[.int (c%5)]),.lst (li (tK (rows.getD p []) none (some (-1))))]:List D)[i]?=some d->((r'.length:Int)≠ways)->∃ bad f,bad.length=many/\(0<many->Od.Fst ways bad p)/\ifS (bT (gtE (vE 2) (cE (.int 0))))
    (mC 7 (vE 8) (bA (aX [dX (bA (vE 7) (vE 8)) (aX [dO (vE 5) (cE (.int 5))]),fP (bA (vE 7) (vE 8)) (noO) (soO (gN (cE (.int 1))))]) (dO (gI (vE 5) (cE (.int 30))) (cE (.int 2)))))
    bZ (cJ ns (nR ways) (nR many) (tR true rows) (lR ends) (nR c) x6 (tR true rows) (nR p) none none none none)=.nx (cJ ns (nR ways) (nR many) (tR true rows) (lR ends) (nR c) x6 (tR f bad) (nR p) none none none none):=fun {r' d} hd h hn=>by
    subst hd;have v:=eD l x h;have e:=aCs (i:=7) (j:=vE 8) (fr:=true) (ds:=lil rows) (k':=.shr) (f':=true) (z:=(p:Nat)) v (by decide) rfl rfl ix
    rw[show (lil rows).set p (.lst (li r'))=lil (rows.set p r') by simp only[lil,List.map_set]]at e
    exact⟨rows.set p r',_,by rw[Az];exact rl,fun _=>xP hn rows p pl fun r hr=>by rw[rz r hr],(fR t).trans e⟩
   have cl:=sQ (rows.getD p []);rcases (show i=0\/i=1 by omega) with rfl | rfl
   · exact go (r':=rows.getD p []++[c%5]) (by simp[li]) rfl (by rw[As,Aw,lr];omega)
   · exact go (r':=tK (rows.getD p []) none (some (-1))) rfl rfl (by omega)
 · rw[decide_eq_false (by omega)]at t
   exact⟨rows,true,rl,fun h=>absurd h z,(fR t).trans rfl⟩
end
end N83
namespace N83
open PySem L2 Mir Sm Hm
theorem p48 (ρ:Mir.Env):yH (cE (.int 10)) (cE (.int 48)) ρ=.ok (sc (.int (10^48))):=bW (C:=CW) (G:=fun i j=>i^j.toNat) (i:=10) (j:=48) rfl rfl (by decide +kernel)
section
variable {ns:List Int}{ways many p:Nat}{rows bad:List (List Int)}{ends fewer:List Int}{c cnt:Int}{g6 f7 f10:Bool}
abbrev hE (ns:List Int)(ways many p:Nat)(rows bad:List (List Int))(ends fewer:List Int)(c cnt:Int)(g6 f7 f10:Bool)(x11 x12:Option Res):Mir.Env:=cJ ns (nR ways) (nR many) (tR true rows) (lR ends) (nR c) (some ⟨.shr,g6,.lst (li fewer)⟩) (tR f7 bad) (nR p) (nR cnt) (some ⟨.own,f10,.lst [.lst (lil bad),.lst (li fewer)]⟩) x11 x12
theorem h0 (x11 x12:Option Res):∃ f,bA (vE 10) (cE (.int 0)) (hE ns ways many p rows bad ends fewer c cnt g6 f7 f10 x11 x12)=.ok ⟨.shr,f,.lst (lil bad)⟩:=⟨_,eD (k:=.own) (fr:=f10||(D.lst [.lst (lil bad),.lst (li fewer)]).imm) (ds:=[.lst (lil bad),.lst (li fewer)]) (k':=.shr) (fr':=true) (i:=0) rfl rfl rfl⟩
theorem h1 (x11 x12:Option Res):∃ f,bA (vE 10) (cE (.int 1)) (hE ns ways many p rows bad ends fewer c cnt g6 f7 f10 x11 x12)=.ok ⟨.shr,f,.lst (li fewer)⟩:=⟨_,eD (k:=.own) (fr:=f10||(D.lst [.lst (lil bad),.lst (li fewer)]).imm) (ds:=[.lst (lil bad),.lst (li fewer)]) (k':=.shr) (fr':=true) (i:=1) rfl rfl rfl⟩
theorem look {ρ:Mir.Env}{f1 f2 f3 f4:FE}{g:FE}{k:Nat}{m:Int}{k1 k2 k3 k4:Kd}{b1 b2 b3 b4:Bool}{rs:List (List Int)}{es:List Int}{ss:List D}{kg:Kd}{bg:Bool}(e1:f1 ρ=.ok ⟨k1,b1,.int k⟩)(e2:f2 ρ=.ok ⟨k2,b2,.int m⟩)(e3:f3 ρ=.ok ⟨k3,b3,.lst (lil rs)⟩)(e4:f4 ρ=.ok ⟨k4,b4,.lst (li es)⟩)
 (h:aK [.int k,.int m,.lst (lil rs),.lst (li es)]=.ok ⟨.tmp,true,.lst ss⟩) (hg:g ρ=.ok ⟨kg,bg,.lst ss⟩) (hs:iD (.lst ss) (.lst ss)=.ok true):ifS (bT (neE (aG aK [f1,f2,f3,f4]) g)) (bF (cE (.bl false))) bZ ρ=.nx ρ:=by
 have v:=kS (φ:=aK) (rs:=[⟨k1,b1,.int k⟩,⟨k2,b2,.int m⟩,⟨k3,b3,.lst (lil rs)⟩,⟨k4,b4,.lst (li es)⟩]) (aB e1 (aB e2 (aB e3 (aB e4 bD)))) h;exact(fR (fQ (aLo v hg hs))).trans rfl
theorem sqc:iD (.lst [.str "count"]) (.lst [.str "count"])=.ok true:=by kernel_rfl
theorem sqr:iD (.lst [.str "rows"]) (.lst [.str "rows"])=.ok true:=by kernel_rfl
theorem sqa:iD (.lst [.str "alike"]) (.lst [.str "alike"])=.ok true:=by kernel_rfl
abbrev Br1:FS:=(aP (ifS (bT (neE (aG aK [vE 11,vE 1,bA (vE 10) (cE (.int 0)),bA (vE 10) (cE (.int 1))]) (aX [cE (.str "rows")])))
 (bF (cE (.bl false)))
 bZ)
 (aP (aO 12 (aG cT [vE 11,vE 1,bA (vE 10) (cE (.int 0)),vE 4]))
 (aP (ifS (orT (bT (zZ .bool (vE 12))) (bT (neE (vE 12) (vE 8))))
  (bF (cE (.bl false)))
  bZ)
 (ifS (bT (neE (aG aK [vE 11,vE 1,vE 3,vE 6]) (aX [cE (.str "alike")])))
  (bF (cE (.bl false)))
  bZ))))
abbrev Br2:FS:=(ifS (bT (neE (aG aK [vE 11,vE 1,aX [],aX [cE (.int 1)]]) (aX [cE (.str "alike")])))
 (bF (cE (.bl false)))
 bZ)
abbrev Bd:FS:=(aP (ifS (bT (neE (aG aK [vE 11,vE 9,bA (vE 10) (cE (.int 0)),bA (vE 10) (cE (.int 1))]) (aX [cE (.str "count")])))
 (bF (cE (.bl false)))
 bZ)
 (aP (ifS (bT (gtE (vE 2) (cE (.int 0)))) Br1 Br2)
 (ifS (bT (neE (aG aK [vE 11,vE 1,vE 3,vE 4]) (aX [])))
  (bF (cE (.bl false)))
  bZ)))
theorem body (k:Nat)(E:Eqn ways 3 rows ends)(rl:rows.length=many)(hc:(decide (cnt<1)||decide (5<cnt))=true)(hb:0<many->Od.Fst ways bad p)(hf:fewer.length≠many\/many=0)(x12:Option Res) :
 ∃ y12,Bd (hE ns ways many p rows bad ends fewer c cnt g6 f7 f10 (nR k) x12)=.nx (hE ns ways many p rows bad ends fewer c cnt g6 f7 f10 (nR k) y12):=by
 have wi:=wL E.m1 E.m5;have sz:∀ r∈rows,(r.length:Int)=ways:=fun r hr=>by rw[E.sz r hr]
 have v11:∀ x12,vE 11 (hE ns ways many p rows bad ends fewer c cnt g6 f7 f10 (nR k) x12)=.ok ⟨.shr,true,.int (k:Nat)⟩:=fun _=>rfl;have v1:∀ x12,vE 1 (hE ns ways many p rows bad ends fewer c cnt g6 f7 f10 (nR k) x12)=.ok ⟨.shr,true,.int (ways:Nat)⟩:=fun _=>rfl;have v3:∀ x12,vE 3 (hE ns ways many p rows bad ends fewer c cnt g6 f7 f10 (nR k) x12)=.ok ⟨.own,true,.lst (lil rows)⟩:=fun _=>rfl;have v4:∀ x12,vE 4 (hE ns ways many p rows bad ends fewer c cnt g6 f7 f10 (nR k) x12)=.ok ⟨.own,true,.lst (li ends)⟩:=fun _=>rfl;have v6:∀ x12,vE 6 (hE ns ways many p rows bad ends fewer c cnt g6 f7 f10 (nR k) x12)=.ok ⟨.shr,g6||(D.lst (li fewer)).imm,.lst (li fewer)⟩:=fun _=>rfl
 have e1:ifS (bT (neE (aG aK [vE 11,vE 9,bA (vE 10) (cE (.int 0)),bA (vE 10) (cE (.int 1))]) (aX [cE (.str "count")]))) (bF (cE (.bl false))) bZ (hE ns ways many p rows bad ends fewer c cnt g6 f7 f10 (nR k) x12)=.nx (hE ns ways many p rows bad ends fewer c cnt g6 f7 f10 (nR k) x12):=by
  obtain⟨_,a⟩:=h0 (ns:=ns) (ways:=ways) (many:=many) (p:=p) (rows:=rows) (bad:=bad) (ends:=ends) (fewer:=fewer) (c:=c) (cnt:=cnt) (g6:=g6) (f7:=f7) (f10:=f10) (nR k) x12;obtain⟨_,b⟩:=h1 (ns:=ns) (ways:=ways) (many:=many) (p:=p) (rows:=rows) (bad:=bad) (ends:=ends) (fewer:=fewer) (c:=c) (cnt:=cnt) (g6:=g6) (f7:=f7) (f10:=f10) (nR k) x12;exact look (f2:=vE 9) (ss:=[.str "count"]) (v11 x12) (k2:=.shr) (b2:=true) (m:=cnt) rfl a b (aDz (aDp hc) aBb) (kg:=.tmp) (bg:=true) rfl sqc
 have e3:∀ x12,ifS (bT (neE (aG aK [vE 11,vE 1,vE 3,vE 4]) (aX []))) (bF (cE (.bl false))) bZ (hE ns ways many p rows bad ends fewer c cnt g6 f7 f10 (nR k) x12)=.nx (hE ns ways many p rows bad ends fewer c cnt g6 f7 f10 (nR k) x12):=fun x12=>by
  obtain⟨r,hr⟩:=aKs k E;exact look (ss:=[]) (v11 x12) (v1 x12) (v3 x12) (v4 x12) (aK7 hr) (kg:=.tmp) (bg:=true) rfl (tU 2 rfl (by decide))
 have t:bT (gtE (vE 2) (cE (.int 0))) (hE ns ways many p rows bad ends fewer c cnt g6 f7 f10 (nR k) x12)=.ok (decide ((0:Int)<(many:Int))):=fQ (iX (G:=fun i j=>decide (j<i)) (k:=.shr) (fr:=true) (i:=(many:Int)) (k':=.shr) (fr':=true) (j:=0) rfl rfl);by_cases z:0<many
 · rw[decide_eq_true (by omega)]at t
   have fs:=hb z;obtain⟨f0,a⟩:=h0 (ns:=ns) (ways:=ways) (many:=many) (p:=p) (rows:=rows) (bad:=bad) (ends:=ends) (fewer:=fewer) (c:=c) (cnt:=cnt) (g6:=g6) (f7:=f7) (f10:=f10) (nR k) x12;obtain⟨_,b⟩:=h1 (ns:=ns) (ways:=ways) (many:=many) (p:=p) (rows:=rows) (bad:=bad) (ends:=ends) (fewer:=fewer) (c:=c) (cnt:=cnt) (g6:=g6) (f7:=f7) (f10:=f10) (nR k) x12;have a1:ifS (bT (neE (aG aK [vE 11,vE 1,bA (vE 10) (cE (.int 0)),bA (vE 10) (cE (.int 1))]) (aX [cE (.str "rows")]))) (bF (cE (.bl false))) bZ (hE ns ways many p rows bad ends fewer c cnt g6 f7 f10 (nR k) x12)=.nx (hE ns ways many p rows bad ends fewer c cnt g6 f7 f10 (nR k) x12):=look (ss:=[.str "rows"]) (v11 x12) (v1 x12) a b (aDz (aAg wi fs) aA4) (kg:=.tmp) (bg:=true) rfl sqr
   have a2:aO 12 (aG cT [vE 11,vE 1,bA (vE 10) (cE (.int 0)),vE 4]) (hE ns ways many p rows bad ends fewer c cnt g6 f7 f10 (nR k) x12)=.nx (hE ns ways many p rows bad ends fewer c cnt g6 f7 f10 (nR k) (nR p)):=set_shr (eM (rs:=[⟨.shr,true,.int (k:Nat)⟩,⟨.shr,true,.int (ways:Nat)⟩,⟨.shr,f0,.lst (lil bad)⟩,⟨.own,true,.lst (li ends)⟩]) (aB (v11 x12) (aB (v1 x12) (aB a (aB (v4 x12) bD)))) (aMl (aAg wi fs)))
   have a3:ifS (orT (bT (zZ .bool (vE 12))) (bT (neE (vE 12) (vE 8)))) (bF (cE (.bl false))) bZ (hE ns ways many p rows bad ends fewer c cnt g6 f7 f10 (nR k) (nR p))=.nx (hE ns ways many p rows bad ends fewer c cnt g6 f7 f10 (nR k) (nR p)):=by
    have b1:bT (zZ .bool (vE 12)) (hE ns ways many p rows bad ends fewer c cnt g6 f7 f10 (nR k) (nR p))=.ok false:=rfl;have b2:bT (neE (vE 12) (vE 8)) (hE ns ways many p rows bad ends fewer c cnt g6 f7 f10 (nR k) (nR p))=.ok (!decide ((p:Int)=(p:Int))):=fQ (jV (k:=.shr) (fr:=true) (i:=(p:Int)) (k':=.shr) (fr':=true) (j:=(p:Int)) rfl rfl);rw[decide_eq_true rfl]at b2;exact(fR ((aBi b1 fun _=>b2).trans rfl)).trans rfl
   have a4:ifS (bT (neE (aG aK [vE 11,vE 1,vE 3,vE 6]) (aX [cE (.str "alike")]))) (bF (cE (.bl false))) bZ (hE ns ways many p rows bad ends fewer c cnt g6 f7 f10 (nR k) (nR p))=.nx (hE ns ways many p rows bad ends fewer c cnt g6 f7 f10 (nR k) (nR p)):=look (ss:=[.str "alike"]) (v11 _) (v1 _) (v3 _) (v6 _) (aDz (wI wi sz (by omega)) uM) (kg:=.tmp) (bg:=true) rfl sqa
   have a0:ifS (bT (gtE (vE 2) (cE (.int 0)))) Br1 Br2 (hE ns ways many p rows bad ends fewer c cnt g6 f7 f10 (nR k) x12)=.nx (hE ns ways many p rows bad ends fewer c cnt g6 f7 f10 (nR k) (nR p)):=(fR t).trans ((aH a1).trans ((aH a2).trans ((aH a3).trans a4)));exact⟨_,(aH e1).trans ((aH a0).trans (e3 _))⟩
 · rw[decide_eq_false (by omega)]at t
   have a5:ifS (bT (neE (aG aK [vE 11,vE 1,aX [],aX [cE (.int 1)]]) (aX [cE (.str "alike")]))) (bF (cE (.bl false))) bZ (hE ns ways many p rows bad ends fewer c cnt g6 f7 f10 (nR k) x12)=.nx (hE ns ways many p rows bad ends fewer c cnt g6 f7 f10 (nR k) x12):=look (f3:=aX []) (f4:=aX [cE (.int 1)]) (ss:=[.str "alike"]) (v11 x12) (v1 x12) (rs:=[]) (k3:=.tmp) (b3:=true) rfl (es:=[1]) (k4:=.tmp) (b4:=true) rfl (aDz (wI wi (fun r h=>nomatch h) (by decide)) uM) (kg:=.tmp) (bg:=true) rfl sqa
   have a0:ifS (bT (gtE (vE 2) (cE (.int 0)))) Br1 Br2 (hE ns ways many p rows bad ends fewer c cnt g6 f7 f10 (nR k) x12)=.nx (hE ns ways many p rows bad ends fewer c cnt g6 f7 f10 (nR k) x12):=(fR t).trans a5;exact⟨_,(aH e1).trans ((aH a0).trans (e3 _))⟩
end
theorem law_ok (ns:List Int):pH [.lst (ns.map .int)]=.ok (sc (.bl true)):=by
 have c0:=nI ns 0;have c1:=nI ns 1;have c2:=nI ns 2;obtain⟨ways,hw⟩:=Ec (show 0<=1+aU ns 0%5 by omega)
 obtain⟨many,hm⟩:=Ec (show 0<=aU ns 1%7 by omega)
 have w1:1<=ways:=by omega
 have w5:ways<=5:=by omega
 have m6:many<=6:=by omega
 have ce:∀ (k:Nat) (r:List (Option Res)),aG aV [vE 0,cE (.int (k:Nat))] (S0 ns :: r)=.ok ⟨.shr,true,.int (aU ns k)⟩:=fun k r=>aDy (φ:=aV) (fun ns k=>aAv ns k) ns k r
 have e1:aO 1 (eW (cE (.int 1)) (dO (aG aV [vE 0,cE (.int 0)]) (cE (.int 5)))) (cJ ns none none none none none none none none none none none none)=.nx (cJ ns (nR ways) none none none none none none none none none none none):=by
  have:=set_shr (i:=1) (bW (C:=C0) (G:=fun i j=>i+j) (f:=cE (.int 1)) (k:=.shr) (fr:=true) (i:=1) rfl (bW (C:=CP) (G:=fun i j=>i%j) (ce 0 [none,none,none,none,none,none,none,none,none,none,none,none]) (g:=cE (.int 5)) (k':=.shr) (fr':=true) (j:=5) rfl (jM (by decide))) rfl)
  rw[hw]at this;exact this
 have e2:aO 2 (dO (aG aV [vE 0,cE (.int 1)]) (cE (.int 7))) (cJ ns (nR ways) none none none none none none none none none none none)=.nx (cJ ns (nR ways) (nR many) none none none none none none none none none none):=by
  have:=set_shr (i:=2) (bW (C:=CP) (G:=fun i j=>i%j) (ce 1 [nR ways,none,none,none,none,none,none,none,none,none,none,none]) (g:=cE (.int 7)) (k':=.shr) (fr':=true) (j:=7) rfl (jM (by decide)))
  rw[hm]at this;exact this
 have e3:=aHn ns w5 m6;have E:=yA ns w1 w5 m6;have rl:(iR ns ways many).length=many:=by unfold iR;simp
 have el:(kY ns many).length=many:=by unfold kY;simp
 have rz:=E.sz;have e4:=aHs ns (nR ways) (tR true (iR ns ways many)) m6;generalize iR ns ways many=rows at *
 generalize kY ns many=ends at *
 have e5:aO 5 (aG aV [vE 0,cE (.int 2)]) (cJ ns (nR ways) (nR many) (tR true rows) (lR ends) none none none none none none none none)=.nx (cJ ns (nR ways) (nR many) (tR true rows) (lR ends) (nR (aU ns 2)) none none none none none none none):=set_shr (ce 2 _);obtain⟨fewer,g6,q6,l6,e6⟩:=aD7 ns (nR ways) (nR many) (tR true rows) ends (aU ns 2) (by omega)
 have e7:aO 7 (bB (dY (vE 3)) 1 [] (.nm 0) (bE (lJ (vE 0)))) (cJ ns (nR ways) (nR many) (tR true rows) (lR ends) (nR (aU ns 2)) (some ⟨.shr,g6,.lst (li fewer)⟩) none none none none none none)=.nx (cJ ns (nR ways) (nR many) (tR true rows) (lR ends) (nR (aU ns 2)) (some ⟨.shr,g6,.lst (li fewer)⟩) (tR true rows) none none none none none) :=
  dU (eF (inj:=fun r=>D.lst (li r)) (out:=fun r=>D.lst (li r)) (xs:=rows) (lE (k:=.own) (fr:=true) (ds:=lil rows) rfl) (fun r _=>⟨[some ⟨.shr,true,.lst (li r)⟩],.tmp,rfl,rfl,by decide⟩) (by rw[sizeLine_eq];omega))
 obtain⟨p,hp,e8⟩:∃ p:Nat,(0<many->p<many)/\aO 8 (dO (gI (vE 5) (cE (.int 3))) (aBf (vE 2) (cE (.int 1)))) (cJ ns (nR ways) (nR many) (tR true rows) (lR ends) (nR (aU ns 2)) (some ⟨.shr,g6,.lst (li fewer)⟩) (tR true rows) none none none none none)=.nx (cJ ns (nR ways) (nR many) (tR true rows) (lR ends) (nR (aU ns 2)) (some ⟨.shr,g6,.lst (li fewer)⟩) (tR true rows) (nR p) none none none none):=by
  have mx:aBf (vE 2) (cE (.int 1)) (cJ ns (nR ways) (nR many) (tR true rows) (lR ends) (nR (aU ns 2)) (some ⟨.shr,g6,.lst (li fewer)⟩) (tR true rows) none none none none none)=.ok ⟨.shr,true,.int (if (1:Int)>(many:Int) then 1 else (many:Int))⟩:=rfl
  have pos:0<(if (1:Int)>(many:Int) then 1 else (many:Int)):=by split<;>omega
  have v:=bW (C:=CP) (G:=fun i j=>i%j) (bW (C:=CD) (G:=fun i j=>i/j) (f:=vE 5) (k:=.shr) (fr:=true) (i:=aU ns 2) rfl (g:=cE (.int 3)) (k':=.shr) (fr':=true) (j:=3) rfl (aFi (by decide) (by decide))) mx (jM pos)
  have lt:=Ey (aU ns 2/3) pos;obtain⟨p,hp⟩:=Ec (Fp (aU ns 2/3) (Int.ne_of_gt pos));have v':dO (gI (vE 5) (cE (.int 3))) (aBf (vE 2) (cE (.int 1))) (cJ ns (nR ways) (nR many) (tR true rows) (lR ends) (nR (aU ns 2)) (some ⟨.shr,g6,.lst (li fewer)⟩) (tR true rows) none none none none none)=.ok ⟨.shr,true,.int (p:Nat)⟩:=by rw[←hp];exact v
  refine⟨p,fun h=>?_,set_shr v'⟩
  rw[hp]at lt;split at lt<;>omega
 obtain⟨bad,f7,bl,hb,e9⟩:=aK0 ns ends (aU ns 2) (some ⟨.shr,g6,.lst (li fewer)⟩) w1 w5 m6 rl rz hp
 obtain⟨cnt,hcnt,e10⟩:∃ cnt:Int,(decide (cnt<1)||decide (5<cnt))=true/\aO 9 (bA (aX [cE (.int 0),cE (.int 6),oW (gN (cE (.int 1))) (nA (vE 5) (yH (cE (.int 10)) (cE (.int 48)))),eW (cE (.int 6)) (nA (vE 5) (yH (cE (.int 10)) (cE (.int 48))))]) (dO (aG aV [vE 0,cE (.int 3)]) (cE (.int 4)))) (cJ ns (nR ways) (nR many) (tR true rows) (lR ends) (nR (aU ns 2)) (some ⟨.shr,g6,.lst (li fewer)⟩) (tR f7 bad) (nR p) none none none none)=.nx (cJ ns (nR ways) (nR many) (tR true rows) (lR ends) (nR (aU ns 2)) (some ⟨.shr,g6,.lst (li fewer)⟩) (tR f7 bad) (nR p) (nR cnt) none none none):=by
  obtain⟨i,hi,ei⟩:∃ i:Nat,i<4/\aU ns 3%4=(i:Int):=⟨(aU ns 3%4).toNat,by omega,by omega⟩
  have mu:=bW (C:=CM) (G:=fun i j=>i*j) (f:=vE 5) (k:=.shr) (fr:=true) (i:=aU ns 2) rfl (p48 (cJ ns (nR ways) (nR many) (tR true rows) (lR ends) (nR (aU ns 2)) (some ⟨.shr,g6,.lst (li fewer)⟩) (tR f7 bad) (nR p) none none none none)) (aLb (Ac (show _<2^31 by omega) (Dl (by decide) (by decide))) (Nat.lt_trans (show ((10:Int)^48).natAbs<2^200 by decide) (Nat.pow_lt_pow_right (by decide) (by decide))))
  have l:=aEb (f:=cE (.int 0)) (g:=cE (.int 6)) rfl rfl (bW (C:=C0) (G:=fun i j=>i-j) (f:=gN (cE (.int 1))) (k:=.shr) (fr:=true) (i:=-1) rfl mu rfl) (bW (C:=C0) (G:=fun i j=>i+j) (f:=cE (.int 6)) (k:=.shr) (fr:=true) (i:=6) rfl mu rfl)
  have x:dO (aG aV [vE 0,cE (.int 3)]) (cE (.int 4)) (cJ ns (nR ways) (nR many) (tR true rows) (lR ends) (nR (aU ns 2)) (some ⟨.shr,g6,.lst (li fewer)⟩) (tR f7 bad) (nR p) none none none none)=.ok ⟨.shr,true,.int (i:Nat)⟩:=by
   rw[←ei];exact bW (C:=CP) (G:=fun i j=>i%j) (ce 3 _) (g:=cE (.int 4)) (k':=.shr) (fr':=true) (j:=4) rfl (jM (by decide))
  have nn:0<=aU ns 2*(10:Int)^48:=Int.mul_nonneg c2.1 (by decide)
  have mem:=Mir.cI (xs:=[(0:Int),6,-1-aU ns 2*10^48,6+aU ns 2*10^48]) (d:=0) hi;refine⟨_,?_,set_shr (eY l x (iP (r:=[(0:Int),6,-1-aU ns 2*10^48,6+aU ns 2*10^48]) hi))⟩
  generalize [(0:Int),6,-1-aU ns 2*10^48,6+aU ns 2*10^48].getD i 0=v at mem ⊢
  simp only[Ad,Ak,or_false]at mem;generalize aU ns 2*(10:Int)^48=w at *
  simp only[Fq,decide_eq_true_eq];omega
 obtain⟨f10,e11⟩:∃ f10,aO 10 (aX [bB (dY (vE 7)) 1 [] (.nm 0) (bE (lJ (vE 0))),lJ (vE 6)]) (cJ ns (nR ways) (nR many) (tR true rows) (lR ends) (nR (aU ns 2)) (some ⟨.shr,g6,.lst (li fewer)⟩) (tR f7 bad) (nR p) (nR cnt) none none none)=.nx (hE ns ways many p rows bad ends fewer (aU ns 2) cnt g6 f7 f10 none none):=by
  obtain⟨f,a⟩:=rQ (it:=dY (vE 7)) (tg:=.nm 0) (b:=bE (lJ (vE 0))) (ρ:=cJ ns (nR ways) (nR many) (tR true rows) (lR ends) (nR (aU ns 2)) (some ⟨.shr,g6,.lst (li fewer)⟩) (tR f7 bad) (nR p) (nR cnt) none none none) (k:=1) (fs:=[]) (inj:=fun r:List Int=>.lst (li r)) (out:=fun r=>.lst (li r)) (xs:=bad) (lE (k:=.own) (fr:=f7||(D.lst (lil bad)).imm) (ds:=lil bad) rfl) (fun r _=>⟨[some ⟨.shr,f7||(D.lst (lil bad)).imm,.lst (li r)⟩],.tmp,_,rfl,gU rfl,by decide⟩) (by rw[sizeLine_eq];omega)
  have b:lJ (vE 6) (cJ ns (nR ways) (nR many) (tR true rows) (lR ends) (nR (aU ns 2)) (some ⟨.shr,g6,.lst (li fewer)⟩) (tR f7 bad) (nR p) (nR cnt) none none none)=.ok ⟨.tmp,g6||(D.lst (li fewer)).imm,.lst (li fewer)⟩:=rfl;exact⟨_,dU (aG1 a b (by decide) (by decide))⟩
 have e12:∃ y11 y12,gL (dE (cE (.int 2))) (.nm 11) Bd (hE ns ways many p rows bad ends fewer (aU ns 2) cnt g6 f7 f10 none none)=.nx (hE ns ways many p rows bad ends fewer (aU ns 2) cnt g6 f7 f10 y11 y12):=by
  have hf:fewer.length≠many\/many=0:=by omega
  obtain⟨y,b0⟩:=body (ns:=ns) (c:=aU ns 2) (g6:=g6) (f7:=f7) (f10:=f10) 0 E rl hcnt hb hf none;obtain⟨z,b1⟩:=body (ns:=ns) (c:=aU ns 2) (g6:=g6) (f7:=f7) (f10:=f10) 1 E rl hcnt hb hf y;have d0:Tg.bind true (.nm 11) (.int 0) (hE ns ways many p rows bad ends fewer (aU ns 2) cnt g6 f7 f10 none none)=.ok (hE ns ways many p rows bad ends fewer (aU ns 2) cnt g6 f7 f10 (nR (0:Nat)) none):=rfl;have d1:Tg.bind true (.nm 11) (.int 1) (hE ns ways many p rows bad ends fewer (aU ns 2) cnt g6 f7 f10 (nR (0:Nat)) y)=.ok (hE ns ways many p rows bad ends fewer (aU ns 2) cnt g6 f7 f10 (nR (1:Nat)) y):=rfl;exact⟨_,_,(lN (fr:=true) (ds:=[.int 0,.int 1]) rfl).trans ((iM d0 b0).trans ((iM d1 b1).trans rfl))⟩
 obtain⟨y11,y12,e12⟩:=e12
 have e13:fO 7 (bF (eqE (vE 10) (aX [vE 7,vE 6]))) (hE ns ways many p rows bad ends fewer (aU ns 2) cnt g6 f7 f10 y11 y12)=.rt ⟨.shr,true,.bl true⟩:=by
  refine(lI (e:=⟨.own,f7,.lst (lil bad)⟩) rfl).trans ?_
  have a:∀ ρ,vE 7 ρ=.ok ⟨.shr,f7||(D.lst (lil bad)).imm,.lst (lil bad)⟩->vE 6 ρ=.ok ⟨.shr,g6||(D.lst (li fewer)).imm,.lst (li fewer)⟩->aX [vE 7,vE 6] ρ=.ok ⟨.tmp,_,.lst [.lst (lil bad),.lst (li fewer)]⟩:=fun ρ a b=>aG1 a b (by decide) (by decide)
  have pl:(D.lst [.lst (lil bad),.lst (li fewer)]).pl 3=true:=by
   have q1:=aCx bad 2 (by decide)
   have q2:=aA7 fewer 2 (by decide)
   simp[D.pl,D.pls]at q1 q2 ⊢
   exact⟨q1,q2⟩
  exact gB (aJm (r:=⟨.own,f10||(D.lst [.lst (lil bad),.lst (li fewer)]).imm,.lst [.lst (lil bad),.lst (li fewer)]⟩) rfl (a _ rfl rfl) (tU 3 pl (by decide)))
 have e:aFy (cJ ns none none none none none none none none none none none none)=.rt ⟨.shr,true,.bl true⟩:=(aH e1).trans ((aH e2).trans ((aH e3).trans ((aH e4).trans ((aH e5).trans ((aH e6).trans ((aH e7).trans ((aH e8).trans ((aH e9).trans ((aH e10).trans ((aH e11).trans ((aH e12).trans e13)))))))))));exact(dM rfl e).trans rfl
end N83
namespace He
open PySem PySem.W
section
variable (tb:String->Option Builtin)(p:Program)(w:World)(m:Nat)(an:Option Value)
noncomputable def one (ih:SharedT->Thread->Option SharedT)(s:SharedT)(t:Thread):Option SharedT :=
 @Bool.rec (fun _=>Option SharedT) (@Bool.rec (fun _=>Option SharedT) none (@Option.rec (SharedT×Thread) (fun _=>Option SharedT) none (fun r=>ih r.1 r.2) (stepT (denote tb) p w s t)) (stepOk m an t)) (some s) (through t)
noncomputable def run (n:Nat):SharedT->Thread->Option SharedT :=
 @Nat.rec (fun _=>SharedT->Thread->Option SharedT) (fun _ _=>none) (fun _ ih=>one tb p w m an ih) n
end
theorem aCy {tb:String->Option Builtin}{p:Program}{w:World}{m:Nat}{an:Option Value}(n:Nat):∀ {s s':SharedT} {t:Thread},run tb p w m an n s t=some s'->topRun tb p w m an n s.abs t=some s'.abs:=by
 induction n with
 | zero=>intro s s' t h;cases h
 | succ n ih =>
  intro s s' t h;have h1:one tb p w m an (run tb p w m an n) s t=some s':=h;unfold one at h1;unfold topRun;cases a:through t with
  | true=>rw[a]at h1;cases h1;rfl
  | false =>
   rw[a]at h1;cases b:stepOk m an t with
   | false=>rw[b]at h1;cases h1
   | true =>
    rw[b]at h1;cases c:stepT (denote tb) p w s t with
    | none=>rw[c]at h1;cases h1
    | some r =>
     rw[c]at h1;obtain⟨s1,t1⟩:=r;have d:=stepT_spec c;simp only[d];exact ih h1
noncomputable def aMm (P:Params):BT :=
 .node (boot_o_0 P) (.node (boot_o_1 P) (.node (boot_o_3 P) (.node (boot_o_7 P) .nil .nil) .nil) (.node (boot_o_5 P) (.node (boot_o_9 P) .nil .nil) .nil))
  (.node (boot_o_2 P) (.node (boot_o_4 P) (.node (boot_o_8 P) .nil .nil) .nil) (.node (boot_o_6 P) (.node (boot_o_10 P) .nil .nil) .nil))
noncomputable def aKp (w:World)(os:OsState):SharedT:=⟨aMm w.params,11,(boot_heap w.params).life,⟨[]⟩,boot_drawn,boot_toks,os⟩
theorem aB9 (w:World)(os:OsState):(aKp w os).abs=⟨boot_heap w.params,⟨[]⟩,boot_drawn,boot_toks,os⟩:=rfl
noncomputable def sz (w:World):Bool×Nat×Option Value:=((boot_heap w.params).isNs mainGlobals,(boot_heap w.params).objs.size,(boot_heap w.params).nsMap mainGlobals "__annotations__")
theorem aKy (w:World):sz w=(true,11,some (.ref 6)):=by kernel_rfl
section
variable (p q:Program)(Xt:Shared->Bool){α:Type}(Yf:Shared->α)(N:Nat)
noncomputable def xO (w:World)(os:OsState):=(run treeTable p w 11 (some (.ref 6)) N (aKp w os) (topStub p)).map fun s =>
 ((staticsOk (importedModules p.main.body) (boot_heap w.params) s.abs.heap&&namesBound p s.abs.heap&&gensDone s.abs&&laidKept (boot_heap w.params) s.abs.heap),openSeen q [] (importedModules p.main.body) Xt true s.abs,Yf s.abs)
end
theorem left {p q:Program}{Xt:Shared->Bool}{α:Type}{Yf:Shared->α}{Ya:World->α}{N:Nat}(hb:∀ w:World,(fencedOpening treeTable p w N).map (fun s=>(s.heap,s.gens,s.drawn,s.toks))=some (boot_heap w.params,{ toList:=[] },boot_drawn,boot_toks))(hz:∀ w,sz w=(true,11,some (.ref 6)))
 (h:∀ w os,xO p q Xt Yf N w os=some (true,openGood q [],Ya w)):LeftO p q [] Xt Yf Ya N:=fun w=>by
 obtain⟨s0,a,b⟩:=Option.map_eq_some_iff.mp (hb w);obtain⟨s1,c,d⟩:=Option.map_eq_some_iff.mp (h w s0.os);simp only[Prod.mk.injEq]at b d;have z:=hz w;simp only[sz,Prod.mk.injEq]at z;have e:=aCy N c;rw[aB9]at e
 have f:s0=⟨boot_heap w.params,{ toList:=[] },boot_drawn,boot_toks,s0.os⟩:=by
  obtain⟨x1,x2,x3,x4,x5⟩:=s0;obtain⟨b1,b2,b3,b4⟩:=b;dsimp only at b1 b2 b3 b4
  rw[b1,b2,b3,b4]
 unfold openEnds;rw[a,Dr,f];unfold topFrom;dsimp only
 rw[z.1,z.2.1,z.2.2,e];simp only[Dr,d.1];show some (_,_)=_
 rw[d.2.1,d.2.2]
end He
namespace H83
open PySem PySem.W
local macro_rules | `(tactic| o_head $H)=>`(tactic| (have _:=$H;assumption))
theorem kk (h:PySem.Challenge.rw_flatmeet_k83_refused_equations.row.Holds):PySem.Challenge.rw_flatmeet_k83_refused_equations.row.Holds:=by k_head
abbrev pr:Program:=PySem.Challenge.pw_flatmeet_k83_refused_equations
abbrev ad:List Addr:=[2,3,15,22,23,24,25,28,35,36,37,40,47,48,49,52,59,60,61,64,71,73,74,76,77,78,79,80,83,90,91,92,95,102,103,104,107,114,115,116,119,126,127,128,131,138,140,141,143,144,145,146,147,150,157,158,159,162,169,170,171,174,181,182,183,186,193,194,195,198,205,206,207,210,212,213,215,216,217,219,220,222,223,224,226,227,229,230,231,234,235,236,238,239,241,242,243,246,247,248,251,252,260,262,263,265,266,267,268,269,270,271,274,277,278,279,282,283,284,287,288,289,291,292,294,295,296,299,300,301,304,305,306,308,309,311,312,313,315,316,318,319,320,322,323,325,326,327,330,331]
theorem aF5 (P:Params):ad=(kk.heap_1 P).map (·.1):=by kernel_rfl
noncomputable abbrev hk:Hook:=kHook kk.heap_1 ad aF5
def vw:Program:=view pr [1,2,3,4,5,6,7,8,9,10,11,12,13,14,15,17,18,19,20,21,22,23,24,25,26,28,29,30,31,33,34,35,36,37]
noncomputable def lk (w:World)(os:OsState):=He.xO pr vw (fun s=>xlAt vw [] s&&recOk [] s) (fun s=>ad.map s.heap.get?) 8118 w os
noncomputable def gd (w:World)(os:OsState):=some (true,openGood vw [],(kk.heap_1 w.params).map fun p=>some p.2)
theorem same (w:World)(os:OsState):lk w os=gd w os:=by kernel_rfl
theorem lo:LeftO pr vw [] (fun s=>xlAt vw [] s&&recOk [] s) hk.obs hk.val 8118:=He.left (boot_open rfl rfl fun s=>rfl) He.aKy fun w os=>same w os
theorem go (hs:PySem.Challenge.rw_flatmeet_k83_refused_equations.row.wellSaid=true)(h:PySem.Challenge.rw_flatmeet_k83_refused_equations.row.promised){d:DefRec}{kw:List (Str×Expr)}(h1:defOf vw PySem.Challenge.rw_flatmeet_k83_refused_equations.row.name=some (d,kw))(h2:PySem.Challenge.rw_flatmeet_k83_refused_equations.row.prog.theDef PySem.Challenge.rw_flatmeet_k83_refused_equations.row.name=some (d.params,d.body,d.scope))(h3:kwWritten? d.params.kwonlyargs d.params.kw_defaults=some kw)
 (g:WalkO vw [] (XL vw []) (kHook kk.heap_1 ad aF5).says PySem.Challenge.rw_flatmeet_k83_refused_equations.row.toRowW d kw fun f vs=>call f vs):PySem.Challenge.rw_flatmeet_k83_refused_equations.row.Holds :=
 W.holds_open lo hk.of hk.keeps (fun s e=>xl_of s (Bp.mp e).1) XL.keeps h1 h2 h3 (fun s e=>recFacts_of (Bp.mp e).2) rfl hs (by decide +kernel) ⟨rfl,rfl,rfl,rfl,rfl,by decide +kernel⟩ h g
end H83
open PySem PySem.W PyProof.Rows
set_option maxRecDepth 100000 in
set_option maxHeartbeats 0 in
theorem PySem.Challenge.cw_flatmeet_k83_refused_equations_holds : PySem.Challenge.rw_flatmeet_k83_refused_equations.Holds := by
  w_on; o_law
  refine H83.go (by assumption) ?hw (by rfl) (by rfl) (by rfl) ?hc
  (case hw => w_witness2)
  k_fill
  refine N83.walk (l := PySem.Challenge.rw_flatmeet_k83_refused_equations) rfl rfl (fun ns _ => N83.law_ok ns) (fun w h Y => PySem.W.kIn_of Y) ?L ?F
  case L => intro P; kernel_rfl
  case F =>
    intro w mg fa h KX G hmg
    refine' N83.all_mk KX G hmg (Mir.xall_mk KX G ⟨?t1, ?t2, ?t3⟩ ⟨?x0a, ?x0b, ?x0c, ?x0d, ?x0e, ?x0f⟩ ⟨?x1a, ?x1b, ?x1c, ?x1d, ?x1e, ?x1f⟩ ⟨?x2a, ?x2b, ?x2c, ?x2d, ?x2e, ?x2f⟩ ⟨?x3a, ?x3b, ?x3c, ?x3d, ?x3e, ?x3f⟩ ⟨?x4a, ?x4b, ?x4c, ?x4d, ?x4e, ?x4f⟩ ⟨?x5a, ?x5b, ?x5c, ?x5d, ?x5e, ?x5f⟩ ⟨?x6a, ?x6b, ?x6c, ?x6d, ?x6e, ?x6f⟩ ⟨?x7a, ?x7b, ?x7c, ?x7d, ?x7e, ?x7f⟩ ⟨?x8a, ?x8b, ?x8c, ?x8d, ?x8e, ?x8f⟩ ⟨?x9a, ?x9b, ?x9c, ?x9d, ?x9e, ?x9f⟩ ⟨?x10a, ?x10b, ?x10c, ?x10d, ?x10e, ?x10f⟩ ⟨?x11a, ?x11b, ?x11c, ?x11d, ?x11e, ?x11f⟩ ⟨?x12a, ?x12b, ?x12c, ?x12d, ?x12e, ?x12f⟩ ⟨?x13a, ?x13b, ?x13c, ?x13d, ?x13e, ?x13f⟩ ?e0 ?e1 ?e2 ?e3 ?e4 ?e5 ?e6 ?e7 ?e8 ?e9 ?e10 ?e11 ?nd) ⟨?n0, ?l0, ?c0, ?k0⟩ ⟨?n1, ?l1, ?c1, ?k1⟩ ⟨?n2, ?l2, ?c2, ?k2⟩ ⟨?n3, ?l3, ?c3, ?k3⟩ ⟨?n4, ?l4, ?c4, ?k4⟩ ⟨?n5, ?l5, ?c5, ?k5⟩ ⟨?n6, ?l6, ?c6, ?k6⟩ ⟨?n7, ?l7, ?c7, ?k7⟩ ⟨?n8, ?l8, ?c8, ?k8⟩ ⟨?n9, ?l9, ?c9, ?k9⟩ ⟨?n10, ?l10, ?c10, ?k10⟩ ⟨?n11, ?l11, ?c11, ?k11⟩ ⟨?n12, ?l12, ?c12, ?k12⟩ ⟨?n13, ?l13, ?c13, ?k13⟩ ⟨?n14, ?l14, ?c14, ?k14⟩ ⟨?n15, ?l15, ?c15, ?k15⟩ ⟨?n16, ?l16, ?c16, ?k16⟩ ⟨?o1a, ?o1b, ?o1c, ?o1d, ?o1e, ?o1f, ?o1g, ?o1h, ?o1i⟩ ?on10 ?on11 ?on12 ?ol1 ?oc1 ?ok1 ⟨?b1, ?b2, ?b3, ?b4, ?b5, ?b6, ?bi, ?b7⟩ ?b8 ?b9 ?b10 ?b11 ?z0 ?z1 ?z2 ?z3 ?z4 ?z5 ?z6 ?z7 ?z8 ?z9 ?gq0
    (case t1 => k_is); (case t2 => k_is); (case t3 => rfl)
    (case x0a => k_is); (case x0b => k_is); (case x0c => rfl); (case x0d => k_is); (case x0e => k_is); (case x0f => k_is)
    (case x1a => k_is); (case x1b => k_is); (case x1c => rfl); (case x1d => k_is); (case x1e => k_is); (case x1f => k_is)
    (case x2a => k_is); (case x2b => k_is); (case x2c => rfl); (case x2d => k_is); (case x2e => k_is); (case x2f => k_is)
    (case x3a => k_is); (case x3b => k_is); (case x3c => rfl); (case x3d => k_is); (case x3e => k_is); (case x3f => k_is)
    (case x4a => k_is); (case x4b => k_is); (case x4c => rfl); (case x4d => k_is); (case x4e => k_is); (case x4f => k_is)
    (case x5a => k_is); (case x5b => k_is); (case x5c => rfl); (case x5d => k_is); (case x5e => k_is); (case x5f => k_is)
    (case x6a => k_is); (case x6b => k_is); (case x6c => rfl); (case x6d => k_is); (case x6e => k_is); (case x6f => k_is)
    (case x7a => k_is); (case x7b => k_is); (case x7c => rfl); (case x7d => k_is); (case x7e => k_is); (case x7f => k_is)
    (case x8a => k_is); (case x8b => k_is); (case x8c => rfl); (case x8d => k_is); (case x8e => k_is); (case x8f => k_is)
    (case x9a => k_is); (case x9b => k_is); (case x9c => rfl); (case x9d => k_is); (case x9e => k_is); (case x9f => k_is)
    (case x10a => k_is); (case x10b => k_is); (case x10c => rfl); (case x10d => k_is); (case x10e => k_is); (case x10f => k_is)
    (case x11a => k_is); (case x11b => k_is); (case x11c => rfl); (case x11d => k_is); (case x11e => k_is); (case x11f => k_is)
    (case x12a => k_is); (case x12b => k_is); (case x12c => rfl); (case x12d => k_is); (case x12e => k_is); (case x12f => k_is)
    (case x13a => k_is); (case x13b => k_is); (case x13c => rfl); (case x13d => k_is); (case x13e => k_is); (case x13f => k_is)
    (case e0 => k_exc); (case e1 => k_exc); (case e2 => k_exc); (case e3 => k_exc); (case e4 => k_exc); (case e5 => k_exc); (case e6 => k_exc); (case e7 => k_exc); (case e8 => k_exc); (case e9 => k_exc); (case e10 => k_exc); (case e11 => k_exc)
    (case nd => decide)
    (case n0 => k_is); (case l0 => k_is); (case c0 => k_is); (case k0 => k_is)
    (case n1 => k_is); (case l1 => k_is); (case c1 => k_is); (case k1 => k_is)
    (case n2 => k_is); (case l2 => k_is); (case c2 => k_is); (case k2 => k_is)
    (case n3 => k_is); (case l3 => k_is); (case c3 => k_is); (case k3 => k_is)
    (case n4 => k_is); (case l4 => k_is); (case c4 => k_is); (case k4 => k_is)
    (case n5 => k_is); (case l5 => k_is); (case c5 => k_is); (case k5 => k_is)
    (case n6 => k_is); (case l6 => k_is); (case c6 => k_is); (case k6 => k_is)
    (case n7 => k_is); (case l7 => k_is); (case c7 => k_is); (case k7 => k_is)
    (case n8 => k_is); (case l8 => k_is); (case c8 => k_is); (case k8 => k_is)
    (case n9 => k_is); (case l9 => k_is); (case c9 => k_is); (case k9 => k_is)
    (case n10 => k_is); (case l10 => k_is); (case c10 => k_is); (case k10 => k_is)
    (case n11 => k_is); (case l11 => k_is); (case c11 => k_is); (case k11 => k_is)
    (case n12 => k_is); (case l12 => k_is); (case c12 => k_is); (case k12 => k_is)
    (case n13 => k_is); (case l13 => k_is); (case c13 => k_is); (case k13 => k_is)
    (case n14 => k_is); (case l14 => k_is); (case c14 => k_is); (case k14 => k_is)
    (case n15 => k_is); (case l15 => k_is); (case c15 => k_is); (case k15 => k_is)
    (case n16 => k_is); (case l16 => k_is); (case c16 => k_is); (case k16 => k_is)
    (case o1a => k_is); (case o1b => k_is); (case o1c => k_is); (case o1d => k_is); (case o1e => k_is); (case o1f => k_is); (case o1g => k_is); (case o1h => k_is); (case o1i => k_is); (case on10 => k_is); (case on11 => k_is); (case on12 => k_is); (case ol1 => k_is); (case oc1 => k_is); (case ok1 => k_is)
    (case b1 => k_is); (case b2 => k_is); (case b3 => rfl); (case b4 => rfl); (case b5 => k_is); (case b6 => k_is); (case bi => k_is); (case b8 => k_is); (case b7 => kernel_rfl); (case b9 => rfl); (case b10 => k_is); (case b11 => k_is)
    (case z0 => k_is); (case z1 => k_is); (case z2 => k_is); (case z3 => k_is); (case z4 => k_is); (case z5 => k_is); (case z6 => k_is); (case z7 => k_is); (case z8 => k_is); (case z9 => k_is)
    (case gq0 => k_is)
