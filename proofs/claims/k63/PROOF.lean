import PyProof.Rows.All
import Wide.All
import OpenK.AllK
import Wide.FinOn
import Lean
import PyProof.EqAt
import PyProof.EqKinds
import PyProof.TupleCall
import PyProof.ZipIter
import PyProof.ListNew
import PySem.Sem
import PyProof.WalksEnum
import PyProof.EnumMake
import PyProof.Rows.TupIter
import PyProof.DictIter
import KE.KDictList
import PyProof.DictItems
import KE.KPairComp
import KE.KSortTup
import PyProof.Rows.SetFrom
import PyProof.WalksMore
import PyProof.ListRange
import KE.KDictOf
import PyProof.IsiH_list
import PyProof.AttrMiss
import PyProof.TupleOfGen
import PySem.Challenge.RW_flatmeet_k63_whole_hooks_and_turning
open PySem.Heap renaming get?_push_of_some→Aa,lt_size→Ae,get?_push_size→Ag,size_push→Bw,get?_update_self→Cg,get?_update_other→Cs
open List renaming mem_cons_self→Ab,length_map→Ac,mem_cons_of_mem→Ad,length_append→Ai,getElem?_eq_getElem→Aj,mem_map→Ak,getD_eq_getElem?_getD→Al,size_toArray→Am,mem_cons→An,range→Ao,map_cons→Ap,mem_singleton→Aq,length_cons→As,getElem?_eq_some_iff→Au,getElem?_map→Aw,getElem?_set_ne→Ax,mem_append_right→Az,map_map→Bb,getElem?_set_self→Bc,not_mem_nil→Bd,length_eq_zero_iff→Be,mem_append→Bf,mem_range→Bi,map_append→Bk,length_singleton→Bl,lookup_cons→Bm,length_nil→Bp,map_congr_left→Bq,append_nil→Bt,append_assoc→Bv,getElem?_eq_none→Bx,getElem?_append_left→By,mem_flatMap→Bz,length_take→Ca,dropLast_concat_getLast→Cb,length_set→Ci,nodup_nil→Cl,getElem?_append_right→Cn,pairwise_map→Co,count_eq_zero_of_not_mem→Cp,nodup_cons→Cu,range_eq_range'→Cz,nodup_append→Dc,nil_append→Dh,length_drop→Di,nodup_iff_count→Dj,length_dropLast→Dl,filter_cons_of_pos→Do,filter_cons_of_neg→Dq,mem_filter→Ds,take_of_length_le→Du,replicate→Dw,take_add_one→Ea,length_range→Eb,dropLast_subset→Ec,cons_append→Ed,getElem?_replicate→Ee,drop_of_length_le→Ej,find?_cons→Ek,length_replicate→El,range'→Eo,mem_of_getElem?→Er,mem_append_left→Es,all_eq_true→Ev,mem_map_of_mem→Ew,filter_sublist→Ex,filterMap_cons→Ey,zip_cons_cons→Fd,findIdx?_eq_some_iff_getElem→Ff,flatMap_cons→Fi,take_append_drop→Fk,getLast_mem→Fl,ext_getElem→Fm,any_eq_true→Fn,any_cons→Fo,length→Fp,take_append_of_le_length→Fs,of_mem_zip→Ft,mem_zipIdx_iff_getElem?→Fw,perm_iff_count→Fz,filter_eq_self→Ga,toArray→Gb,map_nil→Gc,map→Ge,pairwise_cons→Gf,foldl_append→Gh,take_length→Gn,range'_succ→Go,any_map→Gq,range_succ→Gv
open Nat renaming le_refl→Af,le_trans→Ah,pow_le_pow_right→Ar,lt_of_lt_of_le→Av,ne_of_lt→Ay,mul_le_mul→Bg,zero_le→Cc,zero_add→Cv,lt_of_le_of_lt→Cy,le_add_right→Da,ne_of_gt→De,lt_irrefl→Dv,lt_trans→Eg,le_of_lt→Eh,le_of_succ_le→Em,succ_mul→Et,pow_add→Fe,mul_le_mul_right→Fq,mul_le_mul_left→Fy,le_of_not_lt→Gm,lt_or_ge→Gp,not_lt_zero→Gs,min_eq_left→Gu,mul_one→Gy
open Int renaming mul_assoc→Bj,toNat_natCast→Br,emod_lt_of_pos→Bu,emod_nonneg→Cj,zero_mul→Cq,mul_comm→Cr,natAbs_mul→Ct,mul_left_comm→Dd,eq_ofNat_of_zero_le→Dr,add_zero→Dy,one_mul→Ef,mul_zero→Eu,natCast_add→Fv,zero_add→Gr,add_mul→Gz
open Bool renaming false_ne_true→Bn,false_eq_true→Bo,and_eq_true→Cm,and_eq_true_iff→Dm,or_true→Gd,or_false→Gi,and_self→Gj,or_eq_true→Gw
open PySem.W renaming mg_none_of→Cd,nsIn→Ch,emptyDict→Df,fnOf→Dt,instObj→Dx,cellsFrom_some→Ei,findIn→Ep,keepIn→Fg,codeIn→Fh,methodObj→Gg,lookIn→Ha,mg_of→Hc
open PyProof.Rows renaming callWith_type1→Ce,slot_tuple_getitem→Cf,step_dedup→Cw,lt_int→Fx,envOfC→Hb
open List.Perm renaming refl→Ck
open Option renaming some→Db,isSome_iff_exists→Ez,map_some→Fc,map_eq_some_iff→Fj,bind_some→Gk,none→Gx
open List.Pairwise renaming nil→Dg,imp→Dz,imp_of_mem→Fb,and→He
set_option Elab.async false
set_option linter.all false
set_option maxRecDepth 100000
set_option maxHeartbeats 3990000
namespace L2
open PySem PySem.Spec PyProof.Rows
abbrev Key:=Sum Int Str
def zJ:Key->Value->Bool
 | .inl k,v=>Value.isInt k v
 | .inr x,v=>Value.isStrOf x v
def aW6 (w:World):Key->Int
 | .inl k=>hashInt k
 | .inr x=>hashStr w x
theorem eA:∀ {k:Key} {v:Value},zJ k v=true->(∃ i t,k=Sum.inl i/\v=Value.int i t)\/(∃ x t,k=Sum.inr x/\v=Value.str x t)
 | .inl i,v,h=>by
  obtain⟨t,e⟩:=Value.isInt_shape (k:=i) (v:=v) h;exact .inl ⟨i,t,rfl,e⟩
 | .inr x,v,h=>by
  obtain⟨t,e⟩:=Value.isStrOf_shape (x:=x) (v:=v) h;exact .inr ⟨x,t,rfl,e⟩
theorem aIs (i:Int)(t:Tok):zJ (.inl i) (.int i t)=true:=by simp[zJ,Value.isInt]
theorem aIu (x:Str)(t:Tok):zJ (.inr x) (.str x t)=true:=by simp[zJ,Value.isStrOf]
theorem aTh (a b:Int):decide ((Sum.inl a:Key)=Sum.inl b)=(a==b):=by
 by_cases e:a=b
 · subst e;simp
 · have h:¬ (Sum.inl a:Key)=Sum.inl b:=fun q=>e (Sum.inl.inj q)
   rw[decide_eq_false h];exact(beq_eq_false_iff_ne.mpr e).symm
theorem aRw (a b:Str):decide ((Sum.inr a:Key)=Sum.inr b)=decide (a=b):=by
 by_cases e:a=b
 · subst e;simp
 · have h:¬ (Sum.inr a:Key)=Sum.inr b:=fun q=>e (Sum.inr.inj q)
   rw[decide_eq_false h,decide_eq_false e]
theorem aRp (a:Int)(b:Str):decide ((Sum.inl a:Key)=Sum.inr b)=false:=decide_eq_false (fun q=>nomatch q)
theorem aTb (a:Str)(b:Int):decide ((Sum.inr a:Key)=Sum.inl b)=false:=decide_eq_false (fun q=>nomatch q)
def cF (prog:Program)(w:World):PySem.KeyKind prog w Key where
 is:=zJ
 hash:=aW6 w
 inj:=fun v a b ha hb=>by
  rcases eA ha with ⟨i,t,rfl,rfl⟩ | ⟨x,t,rfl,rfl⟩
  · rcases eA hb with ⟨j,u,rfl,e⟩ | ⟨y,u,rfl,e⟩
    · injection e with e1 _;rw[e1]
    · exact nomatch e
  · rcases eA hb with ⟨j,u,rfl,e⟩ | ⟨y,u,rfl,e⟩
    · exact nomatch e
    · injection e with e1 _;rw[e1]
 byValue:=fun k v h=>by
  rcases eA h with ⟨i,t,rfl,rfl⟩ | ⟨x,t,rfl,rfl⟩<;>rfl
 pyHash:=fun hv h=>by
  rcases eA hv with ⟨i,t,rfl,rfl⟩ | ⟨x,t,rfl,rfl⟩
  · exact wpAny_pyHash_int h
  · exact wpAny_pyHash_str h
 eqBool:=fun hu hv h=>by
  rcases eA hu with ⟨i,t,rfl,rfl⟩ | ⟨x,t,rfl,rfl⟩
  · rcases eA hv with ⟨j,u,rfl,rfl⟩ | ⟨y,u,rfl,rfl⟩
    · rw[aTh]at h;exact wpAny_eqBool_int h
    · rw[aRp]at h;exact SeqAt.EqAt.int_str i t y u _ _ _ _ h
  · rcases eA hv with ⟨j,u,rfl,rfl⟩ | ⟨y,u,rfl,rfl⟩
    · rw[aTb]at h;exact SeqAt.EqAt.str_int x t j u _ _ _ _ h
    · rw[aRw]at h;exact wpAny_eqBool_str h
 «strs»:=fun k x t v h=>by
  rcases eA h with ⟨i,u,rfl,e⟩ | ⟨y,u,rfl,e⟩
  · exact nomatch e
  · injection e with e1 _
    subst e1;cases v<;>rfl
theorem aCn (prog:Program)(w:World)(i:Int)(t:Tok):(cF prog w).is (.inl i) (.int i t)=true:=aIs i t
theorem aBq (prog:Program)(w:World)(x:Str)(t:Tok):(cF prog w).is (.inr x) (.str x t)=true:=aIu x t
end L2
namespace L2
open PySem PySem.Spec PyProof.Rows
inductive V where
 | non | bl (b:Bool) | int (i:Int) | str (x:Str) | byt (b:Array UInt8) | flt (b:UInt64) | ref (a:Addr) | ty (n:String)
 deriving DecidableEq
def bZ:V->Value->Prop
 | .non,u=>u=Value.none
 | .bl b,u=>u=Value.bool b
 | .int i,u=>∃ t,u=Value.int i t
 | .str x,u=>∃ t,u=Value.str x t
 | .byt b,u=>∃ t,u=Value.bytes b t
 | .flt b,u=>∃ t,u=Value.float b t
 | .ref a,u=>u=Value.ref a
 | .ty n,u=>u=Value.type n
abbrev bU:List V->List Value->Prop:=Paired bZ
theorem bU.length {xs:List V}{us:List Value}(r:bU xs us):xs.length=us.length:=Paired.length r
theorem bU.get:∀ {xs:List V} {us:List Value} {i:Nat} {x:V},bU xs us->xs[i]?=some x->∃ u,us[i]?=some u/\bZ x u
 | _,_,_,_,.nil,e=>by simp at e
 | _,_,0,_,.cons r _,e=>by simp at e;subst e;exact⟨_,rfl,r⟩
 | _,_,i+1,x,.cons _ t,e=>by
  obtain⟨u,h1,h2⟩:=bU.get (i:=i) (x:=x) t (by simpa using e)
  exact⟨u,by simpa using h1,h2⟩
theorem bU.set {x:V}{u:Value}(r:bZ x u):∀ {xs:List V} {us:List Value} (i:Nat),bU xs us->bU (xs.set i x) (us.set i u)
 | _,_,_,.nil=>.nil
 | _,_,0,.cons _ t=>.cons r t
 | _,_,i+1,.cons q t=>.cons q (bU.set r i t)
theorem bU.append:∀ {xs ys:List V} {us ws:List Value},bU xs us->bU ys ws->bU (xs++ys) (us++ws)
 | _,_,_,_,.nil,s=>s
 | _,_,_,_,.cons r t,s=>.cons r (bU.append t s)
theorem bU.take:∀ {xs:List V} {us:List Value} (n:Nat),bU xs us->bU (xs.take n) (us.take n)
 | _,_,0,_=>.nil
 | _,_,_+1,.nil=>.nil
 | _,_,n+1,.cons r t=>.cons r (bU.take n t)
theorem bU.drop:∀ {xs:List V} {us:List Value} (n:Nat),bU xs us->bU (xs.drop n) (us.drop n)
 | _,_,0,r=>r
 | _,_,_+1,.nil=>.nil
 | _,_,n+1,.cons _ t=>bU.drop n t
def tH:Option V->Option Value->Prop
 | some v,some u=>bZ v u
 | none,none=>True
 | _,_=>False
def KV {κ:Type}:List (κ×V)->List (κ×Value)->Prop:=Paired fun (p:κ×V) (q:κ×Value)=>p.1=q.1/\bZ p.2 q.2
def kV:Key->V
 | .inl i=>.int i
 | .inr x=>.str x
inductive HO where
 /-- a list -/
 | lst (xs:List V)
 /-- a tuple (never changes) -/
 | tup (xs:List V)
 /-- a dict whose keys are ints and texts;one whose keys are tuples of ints and texts (the empty one is both) -/
 | dK (kvs:List (Key×V)) | dT (kvs:List (List Key×V))
 /-- a set of ints: its members,its size -/
 | set (S:Int->Bool) (n:Nat)
 /-- an instance of the class at C,its dict at dx,its attributes -/
 | ins (C dx:Addr) (fs:List (Str×V))
 /-- the dict of the instance at x -/
 | own (x:Addr)
 /-- the dict of an exception -/
 | xd (fs:List (Str×V))
 /-- a bound method,f of x -/
 | met (f x:Addr)
 /-- a range object lo,lo+1,.. below hi -/
 | rng (lo hi:Int)
 /-- a thing that is known to the object (the script;a dict while a loop walks it): read,never written while it is so -/
 | frz (o:Obj) (u:HO)
 /-- a code object's table -/
 | tbl (ps:Array Value)
 /-- any other thing,by what is true of its one object (a def of one's own: SetO a S n:=HO.ext fun h=>..) -/
 | ext (φ:Heap->Prop)
abbrev Hp:=Addr->Option HO
def upd (H:Hp)(a:Addr)(o:HO):Hp:=fun b=>if b=a then some o else H b
theorem bL {H:Hp}{a:Addr}{o:HO}:upd H a o a=some o:=by unfold upd;rw[if_pos rfl]
theorem aR {H:Hp}{a b:Addr}{o:HO}(h:b≠a):upd H a o b=H b:=by unfold upd;rw[if_neg h]
theorem aUr {H:Hp}{a b:Addr}{o u:HO}(h:H a=some o)(h':H b=some u)(d:o≠u):a≠b:=by
 intro e;subst e;rw[h]at h';exact d (Db.inj h')
theorem bO {H:Hp}{a b:Addr}{o:HO}(h:H a=some o)(h':H b=none):a≠b:=by
 intro e;subst e;rw[h]at h';cases h'
section
variable (P:Program)(w:World)
def dD (H:Hp)(h:Heap)(a:Addr):HO->Prop
 | .lst xs=>xs.length<=sizeLine/\∃ (its:List Value) (n:Nat),bU xs its/\h.get? a=some { cls:=.type "list",data:=.seq its.toArray n }
 | .tup xs=>xs.length<=sizeLine/\∃ its:List Value,bU xs its/\IsTup h a its.toArray
 | .dK kvs=>kvs.length<=sizeLine/\(a==sysModules)=false/\∃ vs,KV kvs vs/\h.DictOf (cF P w) a vs
 | .dT kvs=>kvs.length<=sizeLine/\(a==sysModules)=false/\∃ xs:List (List Key×Addr×Value),
  Paired (fun (p:List Key×V) (q:List Key×Addr×Value)=>p.1=q.1/\H q.2.1=some (.tup (p.1.map kV))/\bZ p.2 q.2.2) kvs xs /\
  ∃ o es ep,h.get? a=some o/\o.ExactDict/\o.data=.dict es ep/\es.toList=xs.map (entryOfKey (tupleKind (cF P w)))/\(xs.map (·.1)).Nodup
 | .set S n=>h.SetOf (intKind P w) a S n
 | .ins C dx fs=>H dx=some (.own a)/\fs.length<=1000/\dx≠a/\h.get? a=some (Dx C dx) /\
  ∃ mA,h.Ns1 dx mA/\(∀ f,tH (fs.lookup f) (mA f))/\PySem.Within mA (fs.map (·.1))
 | .own _=>∃ o,h.get? a=some o
 | .xd fs=>∃ mA,h.Ns1 a mA/\∀ f,tH (fs.lookup f) (mA f)
 | .rng lo hi=>∃ t u v,h.get? a=some { cls:=.type "range",data:=.fields #[.int lo t,.int hi u,.int 1 v] }
 | .frz o u=>h.get? a=some o/\dD H h a u
 | .tbl ps=>h.get? a=some { cls:=.none,data:=.fields ps }
 | .met f x=>h.get? a=some (Gg (.ref f) (.ref x))
 | .ext φ=>φ h/\(∃ o,h.get? a=some o)/\∀ h1 h2:Heap,φ h1->(∀ o,h1.get? a=some o->h2.get? a=some o)->φ h2
def HOk (H:Hp)(h:Heap):Prop:=∀ a o,H a=some o->dD P w H h a o
end
section
variable {P:Program}{w:World}{H H':Hp}{h h':Heap}{a:Addr}{o:HO}
theorem dD.lt (x:dD P w H h a o):a<h.objs.size:=by
 cases o with
 | lst xs=>obtain⟨_,_,_,_,e⟩:=x;exact Ae e
 | tup xs=>obtain⟨_,_,_,p⟩:=x;exact p.lt
 | dK kvs=>obtain⟨_,_,_,_,o,_,_,e,_⟩:=x;exact Ae e
 | dT kvs=>obtain⟨_,_,_,_,o,_,_,e,_⟩:=x;exact Ae e
 | set S n=>obtain⟨o,_,_,_,e,_⟩:=x;exact Ae e
 | ins C dx fs=>obtain⟨_,_,_,e,_⟩:=x;exact Ae e
 | own y=>obtain⟨_,e⟩:=x;exact Ae e
 | xd fs=>obtain⟨_,⟨_,_,_,e,_⟩,_⟩:=x;exact Ae e
 | rng lo hi=>obtain⟨_,_,_,e⟩:=x;exact Ae e
 | frz ob u=>obtain⟨e,_⟩:=x;exact Ae e
 | tbl ps=>exact Ae (show h.get? a=some _ from x)
 | met f y=>exact Ae (show h.get? a=some _ from x)
 | ext φ=>obtain⟨_,⟨_,e⟩,_⟩:=x;exact Ae e
theorem Paired.mapP {α β:Type}{F G:α->β->Prop}:∀ {l₁:List α} {l₂:List β},Paired F l₁ l₂->(∀ a b,F a b->G a b)->Paired G l₁ l₂
 | _,_,.nil,_=>.nil
 | _,_,.cons r t,f=>.cons (f _ _ r) (Paired.mapP t f)
theorem dD.stay (x:dD P w H h a o)(k:∀ b u,(b=a\/H b=some (.own a))->h.get? b=some u->h'.get? b=some u)
 (ho:∀ b,H b=some (.own a)->H' b=some (.own a)) (ht:∀ b xs,H b=some (.tup xs)->H' b=some (.tup xs)):dD P w H' h' a o:=by
 induction o with
 | lst xs=>obtain⟨z,its,n,r,e⟩:=x;exact⟨z,its,n,r,k _ _ (.inl rfl) e⟩
 | tup xs=>obtain⟨z,its,r,ob,e,c⟩:=x;exact⟨z,its,r,ob,k _ _ (.inl rfl) e,c⟩
 | dK kvs=>obtain⟨z,y,vs,r,ob,es,ep,e,c⟩:=x;exact⟨z,y,vs,r,ob,es,ep,k _ _ (.inl rfl) e,c⟩
 | dT kvs =>
  obtain⟨z,y,xs,r,ob,es,ep,e,c⟩:=x;exact⟨z,y,xs,Paired.mapP r fun p q z=>⟨z.1,ht _ _ z.2.1,z.2.2⟩,ob,es,ep,k _ _ (.inl rfl) e,c⟩
 | set S n=>obtain⟨ob,es,ep,t,e,c⟩:=x;exact⟨ob,es,ep,t,k _ _ (.inl rfl) e,c⟩
 | ins C dx fs =>
  obtain⟨d,z,ne,e,mA,⟨od,es,ep,e2,c⟩,r⟩:=x;exact⟨ho _ d,z,ne,k _ _ (.inl rfl) e,mA,⟨od,es,ep,k _ _ (.inr d) e2,c⟩,r⟩
 | own y=>obtain⟨ob,e⟩:=x;exact⟨ob,k _ _ (.inl rfl) e⟩
 | xd fs=>obtain⟨mA,⟨od,es,ep,e,c⟩,r⟩:=x;exact⟨mA,⟨od,es,ep,k _ _ (.inl rfl) e,c⟩,r⟩
 | rng lo hi=>obtain⟨t,u,v,e⟩:=x;exact⟨t,u,v,k _ _ (.inl rfl) e⟩
 | frz ob u ih=>obtain⟨e,q⟩:=x;exact⟨k _ _ (.inl rfl) e,ih q⟩
 | tbl ps =>
  have e:h.get? a=some { cls:=.none,data:=.fields ps }:=x;show h'.get? a=some { cls:=.none,data:=.fields ps }
  exact k a _ (.inl rfl) e
 | met f y =>
  have e:h.get? a=some (Gg (.ref f) (.ref y)):=x;show h'.get? a=some (Gg (.ref f) (.ref y))
  exact k a _ (.inl rfl) e
 | ext φ=>obtain⟨p,⟨o,e⟩,st⟩:=x;exact⟨st _ _ p fun o q=>k _ _ (.inl rfl) q,⟨o,k _ _ (.inl rfl) e⟩,st⟩
theorem HOk.lt (x:HOk P w H h)(e:H a=some o):a<h.objs.size:=(x a o e).lt
theorem HOk.fresh (x:HOk P w H h)(e:h.objs.size<=a):H a=none:=by
 cases q:H a with
 | none=>rfl
 | some u=>exact absurd (Av (x.lt q) e) (Dv _)
theorem HOk.kept (x:HOk P w H h)(k:∀ b u,h.get? b=some u->h'.get? b=some u):HOk P w H h':=fun a o e =>
 (x a o e).stay (fun b u _ q=>k b u q) (fun _ q=>q) fun _ _ q=>q
theorem HOk.laid (x:HOk P w H h)(k:∀ b u,h.get? b=some u->h'.get? b=some u)(hp:h.objs.size<=a)(new:dD P w (upd H a o) h' a o):HOk P w (upd H a o) h':=fun b u e=>by
 have hn:=x.fresh hp;by_cases hb:b=a
 · subst hb;rw[bL]at e;cases e;exact new
 · rw[aR hb]at e
   exact(x b u e).stay (fun c v _ q=>k c v q) (fun c q=>by rw[aR (bO q hn)];exact q) fun c xs q=>by rw[aR (bO q hn)];exact q
end
def Rd (H:Hp)(a:Addr)(u:HO):Prop:=H a=some u\/∃ o,H a=some (.frz o u)
theorem Rd.of {H:Hp}{a:Addr}{u:HO}(h:H a=some u):Rd H a u:=.inl h
theorem Rd.ok {P:Program}{w:World}{H:Hp}{h:Heap}{a:Addr}{u:HO}(r:Rd H a u)(x:HOk P w H h):dD P w H h a u:=by
 rcases r with r | ⟨o,r⟩
 · exact x a u r
 · obtain⟨_,q⟩:=x a _ r
   exact q
def Mut:Option HO->Prop
 | some (.lst _)=>True
 | some (.dK _)=>True
 | some (.dT _)=>True
 | some (.set _ _)=>True
 | some (.ins _ _ _)=>True
 | some (.ext _)=>True
 | _=>False
section
variable {P:Program}{w:World}{H:Hp}{h h':Heap}{x e:Addr}{o':HO}
theorem HOk.write (ok:HOk P w H h)(mu:Mut (H x))(he:e=x\/H e=some (.own x))(k:∀ b u,b≠e->h.get? b=some u->h'.get? b=some u)(heo:∃ u,h'.get? e=some u)
 (new:dD P w (upd H x o') h' x o'):HOk P w (upd H x o') h':=fun b u q=>by
 have nown:∀ c y,H c=some (.own y)->c≠x:=fun c y r z=>by subst z;rw[r]at mu;exact mu
 have ntup:∀ c xs,H c=some (.tup xs)->c≠x:=fun c xs r z=>by subst z;rw[r]at mu;exact mu
 by_cases hb:b=x
 · subst hb;rw[bL]at q;cases q;exact new
 · rw[aR hb]at q
   by_cases hbe:b=e
   · have q':H b=some (.own x):=by
      rcases he with z | z
      · exact absurd (hbe.trans z) hb
      · rw[hbe];exact z
     rw[q]at q';cases q';obtain⟨v,hv⟩:=heo;exact⟨v,by rw[hbe];exact hv⟩
   · refine(ok b u q).stay (fun c v hc r=>k c v ?_ r) (fun c r=>by rw[aR (nown c b r)];exact r) fun c xs r=>by rw[aR (ntup c xs r)];exact r
     rcases hc with rfl | hc
     · exact hbe
     · rintro rfl
       rcases he with z | z
       · exact nown c b hc z
       · rw[hc]at z;cases z;exact hb rfl
end
structure Un (fs ex:List Addr)(H H':Hp)(h h':Heap):Prop where
 keep:∀ b o,h.get? b=some o->H b=none->b∉fs->b∉ex->h'.get? b=some o
 slot:∀ b o,h.get? b=some o->H b=none->b∈fs->b∉ex->∃ sl,h'.get? b=some { o with slots:=sl }
 free:∀ b o,h.get? b=some o->H b=none->b∉ex->H' b=none
 there:∀ b o,h.get? b=some o->b∉ex->∃ o',h'.get? b=some o'
 tups:∀ b xs,H b=some (.tup xs)->H' b=some (.tup xs)
 frzs:∀ b o u,H b=some (.frz o u)->H' b=some (.frz o u)
 tbls:∀ b ps,H b=some (.tbl ps)->∃ more,H' b=some (.tbl (ps++more))
section
variable {fs fs' ex ex':List Addr}{H H1 H2:Hp}{h h1 h2 h':Heap}{a x e:Addr}{o:HO}
theorem Un.any (u:Un fs ex H H1 h h1){b:Addr}{ob:Obj}(q:h.get? b=some ob)(n:H b=none)(hx:b∉ex):∃ sl,h1.get? b=some { ob with slots:=sl }:=by
 by_cases hb:b∈fs
 · exact u.slot b ob q n hb hx
 · exact⟨ob.slots,u.keep b ob q n hb hx⟩
theorem Un.trans (a:Un fs ex H H1 h h1)(b:Un fs ex H1 H2 h1 h2):Un fs ex H H2 h h2 where
 keep:=fun c ob q n hc hx=>b.keep c ob (a.keep c ob q n hc hx) (a.free c ob q n hx) hc hx
 slot:=fun c ob q n hc hx=>by
  obtain⟨sl,e1⟩:=a.slot c ob q n hc hx;obtain⟨sl',e2⟩:=b.slot c _ e1 (a.free c ob q n hx) hc hx;exact⟨sl',e2⟩
 free:=fun c ob q n hx=>by
  obtain⟨o',e1⟩:=a.there c ob q hx;exact b.free c o' e1 (a.free c ob q n hx) hx
 there:=fun c ob q hx=>by
  obtain⟨o',e1⟩:=a.there c ob q hx;exact b.there c o' e1 hx
 tups:=fun c xs q=>b.tups c xs (a.tups c xs q)
 frzs:=fun c ob xs q=>b.frzs c ob xs (a.frzs c ob xs q)
 tbls:=fun c ps q=>by
  obtain⟨m1,e1⟩:=a.tbls c ps q;obtain⟨m2,e2⟩:=b.tbls c _ e1;exact⟨m1++m2,by rw[e2,Array.append_assoc]⟩
theorem Un.kept (k:∀ b u,h.get? b=some u->h'.get? b=some u):Un fs ex H H h h' :=
 ⟨fun b ob q _ _ _=>k b ob q,fun b ob q _ _ _=>⟨ob.slots,k b ob q⟩,fun _ _ _ n _=>n,fun b ob q _=>⟨ob,k b ob q⟩,fun _ _ q=>q,fun _ _ _ q=>q,fun _ ps q=>⟨#[],by rw[q];simp⟩⟩
theorem Un.refl:Un fs ex H H h h:=Un.kept fun _ _ q=>q
theorem Un.laid (k:∀ b u,h.get? b=some u->h'.get? b=some u)(hp:h.objs.size<=a)(hn:H a=none):Un fs ex H (upd H a o) h h' where
 keep:=fun b u q _ _ _=>k b u q
 slot:=fun b u q _ _ _=>⟨u.slots,k b u q⟩
 free:=fun b u q n _=>by rw[aR (Ay (Av (Ae q) hp))];exact n
 there:=fun b u q _=>⟨u,k b u q⟩
 tups:=fun b xs q=>by rw[aR (bO q hn)];exact q
 frzs:=fun b u xs q=>by rw[aR (bO q hn)];exact q
 tbls:=fun b ps q=>⟨#[],by rw[aR (bO q hn),q];simp⟩
theorem Un.write (mu:Mut (H x))(he:e=x\/H e=some (.own x))(k:∀ b u,b≠e->h.get? b=some u->h'.get? b=some u)(heo:∃ u,h'.get? e=some u):Un fs ex H (upd H x o) h h':=by
 have hx:∀ b,H b=none->b≠x:=fun b n z=>by subst z;rw[n]at mu;exact mu
 have hb:∀ b,H b=none->b≠e:=fun b n z=>by
  subst z;rcases he with r | r
  · exact hx b n r
  · rw[n]at r;cases r
 have hm:∀ b u,H b=some u->¬ Mut (some u)->b≠x:=fun b u q nm z=>by subst z;rw[q]at mu;exact nm mu
 refine⟨fun b u q n _ _=>k b u (hb b n) q,fun b u q n _ _=>⟨u.slots,k b u (hb b n) q⟩,fun b u q n _=>by rw[aR (hx b n)];exact n,fun b u q _=>?_,
  fun b xs q=>by rw[aR (hm b _ q fun z=>z)];exact q,fun b u xs q=>by rw[aR (hm b _ q fun z=>z)];exact q,fun b ps q=>⟨#[],by rw[aR (hm b _ q fun z=>z),q];simp⟩⟩
 by_cases hbe:b=e
 · subst hbe;exact heo
 · exact⟨u,k b u hbe q⟩
end
def trk (h:Heap)(H:Hp):List Addr:=(Ao h.objs.size).filter fun a=>(H a).isSome
def aA4 (h:Heap)(H:Hp):Heap:=PySem.W.hideAll h (trk h H)
theorem aHu (h:Heap)(H:Hp):(aA4 h H).objs.size=h.objs.size:=PySem.W.hideAll_size _ _
theorem aL8 {h:Heap}{H:Hp}{b:Addr}{o:Obj}(e:h.get? b=some o)(n:H b=none):(aA4 h H).get? b=some o :=
 PySem.W.hideAll_get _ e fun hm=>by
  have q:(H b).isSome=true:=(Ds.mp hm).2;rw[n]at q;simp at q
theorem aPv {h:Heap}{H:Hp}{b:Addr}{o:Obj}(e:(aA4 h H).get? b=some o):h.get? b=some o/\H b=none:=by
 have e':h.get? b=some o:=PySem.W.of_hideAll (trk h H) e;refine⟨e',?_⟩
 cases q:H b with
 | none=>rfl
 | some x =>
  have hm:b∈trk h H:=Ds.mpr ⟨Bi.mpr (Ae e'),by simp[q]⟩
  have z:(aA4 h H).get? b=none:=PySem.W.hideAll_none (trk h H) hm;rw[z]at e;cases e
end L2
namespace L2
open PySem PySem.Spec PyProof.Rows
structure Mod (K:PySem.W.Frag)(mg:Str->Option Value)(base:Heap):Prop where
 kin:K.In base
 glob:base.Ns mainGlobals mg
 blt:∃ mb,base.Ns builtinsNs mb/\∀ x:Str,x ≠ "__name__"->mb x=bootBuiltins x
 nolimit:base.NoLimit
structure Cx where
 prog:Program
 w:World
 K:PySem.W.Frag
 mg:Str->Option Value
 base:Heap
 A:Around
 N:List Str
 s₀:Shared
 H₀:Hp
 env:Env
 outer:List Env
 stack:List Env
 ex:List Addr
 fn:Str->Bool
 calm:Bool
 pn:List (Addr×Obj)
 xe:Value->Shared->Prop
def frs (l:List Env):List Addr:=l.filterMap (·.frame)
abbrev Cx.fs (X:Cx):List Addr:=frs X.outer
def Vis (sc:Scope)(x:Str):Prop:=sc.names.lookup x=some .local\/sc.names.lookup x=some .cell\/sc.names.lookup x=some .free
def Loc (sc:Scope)(x:Str):Prop:=sc.names.lookup x=some .local\/sc.names.lookup x=some .cell
def aWg (env:Env)(h:Heap)(m:Str->Option Value)(x:Str)(u:Value):Prop :=
 (env.kindOf x=some .local/\m x=some u)\/((env.kindOf x=some .cell\/env.kindOf x=some .free)/\∃ c,env.cells.lookup x=some c/\h.IsCell c (some u))
structure Cx.Ok (X:Cx):Prop where
 mod:Mod X.K X.mg X.base
 kind:X.env.scope.kind=.function
 glob:X.env.globals=mainGlobals
 blt:X.env.builtins=builtinsNs
 above:X.s₀.heap.objs.size<=X.env.locals
 inj:∀ x y c,X.env.cells.lookup x=some c->X.env.cells.lookup y=some c->x=y
 has:∀ x,(X.env.kindOf x=some .cell\/X.env.kindOf x=some .free)->∃ c,X.env.cells.lookup x=some c
 cab:∀ x c,X.fn x=true->X.env.cells.lookup x=some c->X.s₀.heap.objs.size<=c
 hd:X.calm=true->X.A.handled=none
 frames:X.A.frames=some X.stack
 stk:X.stack=X.outer\/(X.stack=X.env :: X.outer/\X.env.frame=some X.env.locals)
 exf:∀ b∈X.ex,b≠X.env.locals/\∀ x c,X.env.cells.lookup x=some c->c≠b
 bs:∀ b o,X.base.get? b=some o->X.s₀.heap.get? b=some o/\X.H₀ b=none
 bsz:X.base.objs.size<=X.s₀.heap.objs.size
 noex:∀ b o,X.base.get? b=some o->b∉X.ex
 exfs:∀ b∈X.ex,b∉X.fs
 funs:X.s₀.heap.FunFrames X.base X.outer
 frf:∀ b∈X.fs,X.H₀ b=none
structure Inv (X:Cx)(pins:List (Addr×Obj))(σ:List (Option V))(H:Hp)(s:Shared):Prop where
 ok:X.Ok
 os:s.os=X.s₀.os
 bare:AllBare s.gens
 base:Un X.fs X.ex X.H₀ H X.s₀.heap s.heap
 loc:∃ m,s.heap.Ns X.env.locals m/\∀ (i:Nat) (x:Str) (v:V),X.N[i]?=some x->σ[i]?=some (some v)->Vis X.env.scope x->∃ u,bZ v u/\aWg X.env s.heap m x u
 cell:∀ x c,X.env.cells.lookup x=some c->∃ v,s.heap.IsCell c v
 free:H X.env.locals=none
 freeC:∀ x c,X.env.cells.lookup x=some c->H c=none
 pin:∀ p∈X.pn++pins,s.heap.get? p.1=some p.2/\H p.1=none/\p.1≠X.env.locals/\p.1∉X.fs/\∀ v,p.2.data≠.cell v
 hok:HOk X.prog X.w H s.heap
 len:σ.length=X.N.length
section
variable {X:Cx}{pins:List (Addr×Obj)}{σ:List (Option V)}{H H':Hp}{s:Shared}{h':Heap}
theorem Cx.Ok.nofr (ok:X.Ok){b:Addr}{o:Obj}(e:X.base.get? b=some o):b∉X.fs:=fun hb=>by
 have:=(ok.funs.mem hb).1
 rw[e]at this;cases this
theorem Inv.bs (I:Inv X pins σ H s):∀ b o,X.base.get? b=some o->s.heap.get? b=some o/\H b=none:=fun b o e =>
 ⟨I.base.keep b o (I.ok.bs b o e).1 (I.ok.bs b o e).2 (I.ok.nofr e) (I.ok.noex b o e),I.base.free b o (I.ok.bs b o e).1 (I.ok.bs b o e).2 (I.ok.noex b o e)⟩
theorem Inv.bk (I:Inv X pins σ H s):∀ b o,X.base.get? b=some o->s.heap.get? b=some o:=fun b o e=>(I.bs b o e).1
theorem Inv.mod (I:Inv X pins σ H s):Mod X.K X.mg X.base:=I.ok.mod
theorem Inv.kIn (I:Inv X pins σ H s):X.K.In s.heap:=I.ok.mod.kin.keeps I.bk
theorem Inv.fr (I:Inv X pins σ H s):∃ m,Fr X.base X.env.locals s.heap m :=
 let ⟨m,hn,_⟩:=I.loc
 ⟨m,hn,I.bk,Ah I.ok.bsz I.ok.above⟩
theorem Inv.lt (I:Inv X pins σ H s):X.env.locals<s.heap.objs.size:=let ⟨_,hn,_⟩:=I.loc;hn.lt
theorem Inv.sz (I:Inv X pins σ H s):X.s₀.heap.objs.size<=s.heap.objs.size:=Ah I.ok.above (Eh I.lt)
theorem Inv.nofs (I:Inv X pins σ H s){a:Addr}(h:s.heap.objs.size<=a):a∉X.fs:=fun hb=>by
 obtain⟨_,o,ho,_⟩:=I.ok.funs.mem hb;exact absurd (Av (Ae ho) (Ah I.sz h)) (Dv _)
theorem Inv.cne (I:Inv X pins σ H s):∀ x c,X.env.cells.lookup x=some c->c≠X.env.locals:=fun x c e z=>by
 obtain⟨v,o,ho,hd⟩:=I.cell x c e;obtain⟨m,⟨o',es,ep,ho',hd',_⟩,_⟩:=I.loc;rw[z,ho']at ho;cases ho;rw[hd']at hd;cases hd
theorem Inv.funs (I:Inv X pins σ H s):s.heap.FunFrames X.base X.outer:=by
 have all:∀ (l:List Env),(∀ b∈frs l,b∈X.fs)->X.s₀.heap.FunFrames X.base l->s.heap.FunFrames X.base l:=by
  intro l;induction l with
  | nil=>intro _ _;trivial
  | cons env r ih =>
   intro hs hl;obtain⟨hk,⟨L,o,hf,hn,ho,hd⟩,hr⟩:=hl;have hL:L∈X.fs:=hs L (by unfold frs;rw[Ey,hf];exact Ab)
   obtain⟨sl,e⟩:=I.base.slot L o ho (I.ok.frf L hL) hL fun z=>I.ok.exfs L z hL;exact⟨hk,⟨L,_,hf,hn,e,hd⟩,ih (fun b hb=>hs b (by unfold frs;rw[Ey,hf];exact Ad _ hb)) hr⟩
 exact all X.outer (fun _ hb=>hb) I.ok.funs
theorem Inv.stack (I:Inv X pins σ H s):s.heap.FunFrames X.base X.stack:=by
 rcases I.ok.stk with e | ⟨e,hf⟩
 · rw[e];exact I.funs
 · rw[e]
   obtain⟨m,hn,_⟩:=I.loc;refine .cons (by rw[I.ok.kind];decide) hf hn ?_ I.funs
   exact Heap.get?_none_of_le (Ah I.ok.bsz I.ok.above)
theorem Inv.stkSub (I:Inv X pins σ H s):∀ b∈frs X.stack,b∈X.env.locals :: X.fs:=fun b hb=>by
 rcases I.ok.stk with e | ⟨e,hf⟩
 · rw[e]at hb;exact Ad _ hb
 · rw[e]at hb
   unfold frs at hb;rw[Ey,hf]at hb;exact hb
theorem Inv.stkFree (I:Inv X pins σ H s):∀ b∈frs X.stack,H b=none:=fun b hb=>by
 rcases An.mp (I.stkSub b hb) with e | hb
 · rw[e];exact I.free
 · obtain⟨_,o,ho,_⟩:=I.ok.funs.mem hb
   exact I.base.free b o ho (I.ok.frf b hb) fun z=>I.ok.exfs b z hb
theorem Inv.step {g':Array GenState}{t':Nat}{d':Drawn}{ch:List Addr}(I:Inv X pins σ H s)
 (hch:∀ b∈ch,(b∈X.ex\/X.s₀.heap.objs.size<=b)/\b≠X.env.locals/\(∀ x c,X.env.cells.lookup x=some c->c≠b)/\∀ p∈X.pn++pins,p.1≠b)
 (keep:∀ b o,b≠X.env.locals->b∉X.fs->b∉ch->s.heap.get? b=some o->H b=none->h'.get? b=some o)
 (slot:∀ b o,b≠X.env.locals->b∈X.fs->b∉ch->s.heap.get? b=some o->H b=none->∃ sl,h'.get? b=some { o with slots:=sl }) (free:∀ b o,b∉ch->s.heap.get? b=some o->H b=none->H' b=none)
 (there:∀ b o,b∉ch->s.heap.get? b=some o->∃ o',h'.get? b=some o')
 (tups:∀ b xs,H b=some (.tup xs)->H' b=some (.tup xs)) (frzs:∀ b o u,H b=some (.frz o u)->H' b=some (.frz o u)) (tbls:∀ b ps,H b=some (.tbl ps)->∃ more,H' b=some (.tbl (ps++more)))
 (ns:∀ m,s.heap.Ns X.env.locals m->h'.Ns X.env.locals m) (hok:HOk X.prog X.w H' h') (hg:AllBare g') :
 Inv X pins σ H' { s with heap:=h',gens:=g',drawn:=d',toks:=t' }:=by
 have neL:∀ b o,X.s₀.heap.get? b=some o->b≠X.env.locals:=fun b o e=>Ay (Av (Ae e) I.ok.above)
 have neC:∀ b o,X.s₀.heap.get? b=some o->b∉X.ex->b∉ch:=fun b o e hx hb=>by
  rcases (hch b hb).1 with z | z
  · exact hx z
  · exact absurd (Av (Ae e) z) (Dv _)
 have cellK:∀ x c,X.env.cells.lookup x=some c->∀ v,s.heap.IsCell c v->h'.IsCell c v:=fun x c e v ⟨o,ho,hd⟩=>by
  have nch:c∉ch:=fun z=>(hch c z).2.2.1 x c e rfl;by_cases hc:c∈X.fs
  · obtain⟨sl,q⟩:=slot c o (I.cne x c e) hc nch ho (I.freeC x c e)
    exact⟨_,q,hd⟩
  · exact⟨o,keep c o (I.cne x c e) hc nch ho (I.freeC x c e),hd⟩
 refine⟨I.ok,I.os,hg,⟨fun b o e n hb hx=>?_,fun b o e n hb hx=>?_,fun b o e n hx=>?_,fun b o e hx=>?_,fun b xs e=>tups b xs (I.base.tups b xs e),fun b o xs e=>frzs b o xs (I.base.frzs b o xs e),fun b ps e=>?_⟩,?_,fun x c e=>?_,?_,fun x c e=>?_,fun p hp=>?_,hok,I.len⟩
 · exact keep b o (neL b o e) hb (neC b o e hx) (I.base.keep b o e n hb hx) (I.base.free b o e n hx)
 · obtain⟨sl,e1⟩:=I.base.slot b o e n hb hx
   obtain⟨sl',e2⟩:=slot b _ (neL b o e) hb (neC b o e hx) e1 (I.base.free b o e n hx);exact⟨sl',e2⟩
 · obtain⟨o',e1⟩:=I.base.there b o e hx
   exact free b o' (neC b o e hx) e1 (I.base.free b o e n hx)
 · obtain⟨o',e1⟩:=I.base.there b o e hx
   exact there b o' (neC b o e hx) e1
 · obtain⟨m1,e1⟩:=I.base.tbls b ps e
   obtain⟨m2,e2⟩:=tbls b _ e1;exact⟨m1++m2,by rw[e2,Array.append_assoc]⟩
 · obtain⟨m,hn,hl⟩:=I.loc
   refine⟨m,ns m hn,fun i x v e1 e2 e3=>?_⟩
   obtain⟨u,r,l⟩:=hl i x v e1 e2 e3;refine⟨u,r,?_⟩
   rcases l with l | ⟨k,c,e,z⟩
   · exact .inl l
   · exact .inr ⟨k,c,e,cellK x c e _ z⟩
 · obtain⟨v,z⟩:=I.cell x c e
   exact⟨v,cellK x c e v z⟩
 · obtain⟨m,⟨o,_,_,ho,_⟩,_⟩:=I.loc
   exact free _ o (fun z=>(hch _ z).2.1 rfl) ho I.free
 · obtain⟨v,o,ho,hd⟩:=I.cell x c e
   exact free c o (fun z=>(hch c z).2.2.1 x c e rfl) ho (I.freeC x c e)
 · obtain⟨e,n,ne,nf,d⟩:=I.pin p hp
   have nch:p.1∉ch:=fun z=>(hch p.1 z).2.2.2 p hp rfl;exact⟨keep p.1 p.2 ne nf nch e n,free p.1 p.2 nch e n,ne,nf,d⟩
theorem Inv.un {t':Nat}(I:Inv X pins σ H s)(u:Un X.fs [] H H' s.heap h')(hok:HOk X.prog X.w H' h'):Inv X pins σ H' { s with heap:=h',toks:=t' }:=by
 obtain⟨m,⟨o,es,ep,ho,r⟩,_⟩:=id I.loc;obtain⟨sl,hL⟩:=u.any ho I.free (by simp)
 exact I.step (g':=s.gens) (d':=s.drawn) (ch:=[]) (fun _ z=>nomatch z) (fun b o _ hb _ e n=>u.keep b o e n hb (by simp)) (fun b o _ hb _ e n=>u.slot b o e n hb (by simp)) (fun b o _ e n=>u.free b o e n (by simp)) (fun b o _ e=>u.there b o e (by simp)) u.tups u.frzs u.tbls (fun m' hm=>by
  obtain⟨o',es',ep',ho',r'⟩:=hm;rw[ho]at ho';cases ho'
  exact⟨_,es',ep',hL,r'⟩) hok I.bare
theorem Inv.call {g':Array GenState}{t':Nat}{d':Drawn}{ch:List Addr}(I:Inv X pins σ H s)(u:Un (frs X.stack) ch H H' s.heap h')(hok:HOk X.prog X.w H' h')(hg:AllBare g')
 (hch:∀ b∈ch,(b∈X.ex\/X.s₀.heap.objs.size<=b)/\b≠X.env.locals/\(∀ x c,X.env.cells.lookup x=some c->c≠b)/\∀ p∈X.pn++pins,p.1≠b) :
 Inv X pins σ H' { s with heap:=h',gens:=g',drawn:=d',toks:=t' }:=by
 obtain⟨m,⟨o,es,ep,ho,r⟩,_⟩:=id I.loc;obtain⟨sl,hL⟩:=u.any ho I.free fun z=>(hch _ z).2.1 rfl
 exact I.step (ch:=ch) hch (fun b o hL hb hc e n=>u.keep b o e n (fun z=>(An.mp (I.stkSub b z)).elim hL hb) hc) (fun b o _ _ hc e n=>u.any e n hc) (fun b o hc e n=>u.free b o e n hc) (fun b o hc e=>u.there b o e hc) u.tups u.frzs u.tbls (fun m' hm=>by
  obtain⟨o',es',ep',ho',r'⟩:=hm;rw[ho]at ho';cases ho'
  exact⟨_,es',ep',hL,r'⟩) hok hg
theorem Inv.turned {t':Nat}{it:Addr}(I:Inv X pins σ H s)(k:∀ b o,b≠it->s.heap.get? b=some o->h'.get? b=some o)(hn:H it=none)(hL:it≠X.env.locals)
 (h1:it∈X.ex\/X.s₀.heap.objs.size<=it) (h2:∀ x c,X.env.cells.lookup x=some c->c≠it) (h3:∀ p∈X.pn++pins,p.1≠it):Inv X pins σ H { s with heap:=h',toks:=t' }:=by
 have nit:∀ b u,H b=some u->b≠it:=fun b u e z=>by rw[z,hn]at e;cases e
 refine I.step (g':=s.gens) (d':=s.drawn) (ch:=[it]) (fun b hb=>?_) (fun b o _ _ hc e _=>k b o (fun z=>hc (by simp[z])) e) (fun b o _ _ hc e _=>⟨o.slots,k b o (fun z=>hc (by simp[z])) e⟩) (fun _ _ _ _ n=>n)
  (fun b o hc e=>⟨o,k b o (fun z=>hc (by simp[z])) e⟩) (fun _ _ e=>e) (fun _ _ _ e=>e) (fun b ps e=>⟨#[],by rw[e];simp⟩) (fun m hm=>?_) (fun b u e=>?_) I.bare
 · have e:b=it:=by simpa using hb
   subst e;exact⟨h1,hL,h2,h3⟩
 · obtain⟨o,es,ep,ho,r⟩:=hm
   exact⟨o,es,ep,k _ o (Ne.symm hL) ho,r⟩
 · refine(I.hok b u e).stay (fun c v hc q=>k c v ?_ q) (fun _ q=>q) fun _ _ q=>q
   rcases hc with z | z
   · rw[z];exact nit b u e
   · exact nit c _ z
theorem Inv.tok (I:Inv X pins σ H s)(t:Nat):Inv X pins σ H { s with toks:=t }:=I.un (h':=s.heap) (t':=t) Un.refl I.hok
theorem Inv.kept {t':Nat}(I:Inv X pins σ H s)(k:∀ b u,s.heap.get? b=some u->h'.get? b=some u):Inv X pins σ H { s with heap:=h',toks:=t' }:=I.un (Un.kept k) (I.hok.kept k)
theorem Inv.laid {a:Addr}{o:HO}{t':Nat}(I:Inv X pins σ H s)(k:∀ b u,s.heap.get? b=some u->h'.get? b=some u)(hp:s.heap.objs.size<=a)(new:dD X.prog X.w (upd H a o) h' a o) :
 Inv X pins σ (upd H a o) { s with heap:=h',toks:=t' }:=I.un (Un.laid k hp (I.hok.fresh hp)) (I.hok.laid k hp new)
theorem Inv.write {x e:Addr}{o:HO}{t':Nat}(I:Inv X pins σ H s)(mu:Mut (H x))(he:e=x\/H e=some (.own x))(k:∀ b u,b≠e->s.heap.get? b=some u->h'.get? b=some u)(heo:∃ u,h'.get? e=some u)
 (new:dD X.prog X.w (upd H x o) h' x o):Inv X pins σ (upd H x o) { s with heap:=h',toks:=t' }:=I.un (Un.write mu he k heo) (I.hok.write mu he k heo new)
theorem Inv.weak {σ':List (Option V)}(I:Inv X pins σ H s)(hl:σ'.length=σ.length)(w:∀ (i:Nat) v,σ'[i]?=some (some v)->σ[i]?=some (some v)):Inv X pins σ' H s :=
 ⟨I.ok,I.os,I.bare,I.base,let ⟨m,hn,hl'⟩:=I.loc;⟨m,hn,fun i x v e1 e2 e3=>hl' i x v e1 (w i v e2) e3⟩,I.cell,I.free,I.freeC,I.pin,I.hok,hl.trans I.len⟩
theorem Inv.pins_of {pins':List (Addr×Obj)}(I:Inv X pins σ H s)(h:∀ p∈pins',s.heap.get? p.1=some p.2/\H p.1=none/\p.1≠X.env.locals/\p.1∉X.fs/\∀ v,p.2.data≠.cell v):Inv X pins' σ H s :=
 ⟨I.ok,I.os,I.bare,I.base,I.loc,I.cell,I.free,I.freeC,fun p hp=>(Bf.mp hp).elim (fun z=>I.pin p (Es _ z)) (h p),I.hok,I.len⟩
theorem aCs {N:List Str}(hN:N.Nodup){i j:Nat}{x:Str}(a:N[i]?=some x)(b:N[j]?=some x):i=j:=by
 obtain⟨h1,e1⟩:=Au.mp a;obtain⟨h2,e2⟩:=Au.mp b;exact(List.getElem_inj hN).mp (e1.trans e2.symm)
theorem aH3 {M:Model}{A:Around}{E:Value->Shared->Prop}{i:Nat}{x:Str}{v:V}{u:Value}{Q:Unit->Shared->Prop}(I:Inv X pins σ H s)(hN:X.N.Nodup)(hi:X.N[i]?=some x)(hx:Loc X.env.scope x)(r:bZ v u)
 (h:∀ s',Inv X pins (σ.set i (some v)) H s'->(∃ a,Heap.SameBut a s.heap s'.heap/\(a=X.env.locals\/X.env.cells.lookup x=some a))->Q () s') (hf:X.fn x=true\/X.env.scope.names.lookup x=some .local:=by first | exact .inl rfl | exact .inr rfl | assumption):wpAny M A (storeName X.env x u) Q E s:=by
 obtain⟨m,hn,hl⟩:=id I.loc;have hcls:(X.env.scope.kind==.class||(X.env.scope.kind==.module&&X.env.locals != X.env.globals))=false:=by rw[I.ok.kind];rfl
 have hiσ:i<σ.length:=by rw[I.len];exact(Au.mp hi).1
 have cne:=I.cne
 have tracked:∀ {a:Addr} {h':Heap},(∃ o,s.heap.get? a=some o/\H a=none)->Heap.SameBut a s.heap h'->HOk X.prog X.w H h':=fun {a h'} ha hs b ob e=>by
  obtain⟨_,_,hfree⟩:=ha;refine(I.hok b ob e).stay (fun c w' hc q=>(hs.2 c ?_).trans q) (fun _ q=>q) fun _ _ q=>q
  rintro rfl
  rcases hc with rfl | hc
  · rw[hfree]at e;cases e
  · rw[hfree]at hc;cases hc
 rcases hx with hk | hk
 · refine wpAny_storeName_local hk hn (fun h' hn' hs=>?_) hcls
   obtain⟨oL,_,_,hoL,_⟩:=id hn;refine h _ ⟨I.ok,I.os,I.bare,⟨fun b o e n hb hx=>?_,fun b o e n hb hx=>?_,I.base.free,fun b o e hx=>?_,I.base.tups,I.base.frzs,I.base.tbls⟩,⟨_,hn',fun j y v' e1 e2 e3=>?_⟩,fun y c e=>?_,I.free,I.freeC,fun p hp=>?_,tracked ⟨oL,hoL,I.free⟩ hs,by simpa using I.len⟩ ⟨_,hs,.inl rfl⟩
   · exact(hs.2 b (Ay (Av (Ae e) I.ok.above))).trans (I.base.keep b o e n hb hx)
   · obtain⟨sl,e1⟩:=I.base.slot b o e n hb hx
     exact⟨sl,(hs.2 b (Ay (Av (Ae e) I.ok.above))).trans e1⟩
   · obtain⟨o',e1⟩:=I.base.there b o e hx
     exact⟨o',(hs.2 b (Ay (Av (Ae e) I.ok.above))).trans e1⟩
   · by_cases hj:j=i
     · subst hj
       rw[hi]at e1;cases e1;rw[Bc hiσ]at e2;cases e2;exact⟨u,r,.inl ⟨hk,by simp⟩⟩
     · rw[Ax (Ne.symm hj)]at e2
       obtain⟨u',r',q⟩:=hl j y v' e1 e2 e3;refine⟨u',r',?_⟩
       rcases q with ⟨k,e⟩ | ⟨k,c,e,z⟩
       · refine .inl ⟨k,?_⟩
         have:y≠x:=fun e=>hj (aCs hN e1 (e▸hi))
         simp[this,e]
       · exact .inr ⟨k,c,e,z.sameBut hs (cne y c e)⟩
   · obtain⟨w',z⟩:=I.cell y c e
     exact⟨w',z.sameBut hs (cne y c e)⟩
   · obtain⟨e,n,ne,nf,d⟩:=I.pin p hp
     exact⟨(hs.2 p.1 ne).trans e,n,ne,nf,d⟩
 · have hfn:X.fn x=true:=by
    rcases hf with z | z
    · exact z
    · rw[z]at hk;cases hk
   obtain⟨c,hc⟩:=I.ok.has x (.inl hk);obtain⟨w',z⟩:=I.cell x c hc;refine wpAny_storeName_cell I.ok.kind hk hc z (fun h' hc' hs=>?_)
   obtain⟨oc,hoc,hocd⟩:=id z;refine h { s with heap:=h' } ⟨I.ok,I.os,I.bare,⟨fun b o e n hb hx=>?_,fun b o e n hb hx=>?_,I.base.free,fun b o e hx=>?_,I.base.tups,I.base.frzs,I.base.tbls⟩,⟨m,hn.sameBut hs (Ne.symm (cne x c hc)),fun j y v' e1 e2 e3=>?_⟩,fun y c' e=>?_,I.free,I.freeC,fun p hp=>?_,tracked ⟨oc,hoc,I.freeC x c hc⟩ hs,by simpa using I.len⟩ ⟨c,hs,.inr hc⟩
   · exact(hs.2 b (Ay (Av (Ae e) (I.ok.cab x c hfn hc)))).trans (I.base.keep b o e n hb hx)
   · obtain⟨sl,e1⟩:=I.base.slot b o e n hb hx
     exact⟨sl,(hs.2 b (Ay (Av (Ae e) (I.ok.cab x c hfn hc)))).trans e1⟩
   · obtain⟨o',e1⟩:=I.base.there b o e hx
     exact⟨o',(hs.2 b (Ay (Av (Ae e) (I.ok.cab x c hfn hc)))).trans e1⟩
   · by_cases hj:j=i
     · subst hj
       rw[hi]at e1;cases e1;rw[Bc hiσ]at e2;cases e2;exact⟨u,r,.inr ⟨.inl hk,c,hc,hc'⟩⟩
     · rw[Ax (Ne.symm hj)]at e2
       obtain⟨u',r',q⟩:=hl j y v' e1 e2 e3;refine⟨u',r',?_⟩
       rcases q with q | ⟨k,c',e,z'⟩
       · exact .inl q
       · refine .inr ⟨k,c',e,z'.sameBut hs ?_⟩
         rintro rfl
         exact hj (aCs hN e1 (I.ok.inj _ _ _ e hc▸hi))
   · by_cases hcc:c'=c
     · subst hcc;exact⟨_,hc'⟩
     · obtain⟨w2,z2⟩:=I.cell y c' e
       exact⟨w2,z2.sameBut hs hcc⟩
   · obtain⟨e,n,ne,nf,d⟩:=I.pin p hp
     refine⟨(hs.2 p.1 ?_).trans e,n,ne,nf,d⟩
     intro q;rw[q,hoc]at e;have q':oc=p.2:=Db.inj e;exact d w' (by rw[←q'];exact hocd)
theorem rQ {M:Model}{A:Around}{E:Value->Shared->Prop}{i:Nat}{x:Str}{v:V}{u:Value}{Q:Unit->Shared->Prop}(I:Inv X pins σ H s)(hN:X.N.Nodup)(hi:X.N[i]?=some x)(hx:Loc X.env.scope x)(r:bZ v u)
 (h:∀ s',Inv X pins (σ.set i (some v)) H s'->Q () s') (hf:X.fn x=true\/X.env.scope.names.lookup x=some .local:=by first | exact .inl rfl | exact .inr rfl | assumption):wpAny M A (storeName X.env x u) Q E s :=
 aH3 I hN hi hx r (fun s' I' _=>h s' I') hf
theorem Inv.call' {s':Shared}{ch:List Addr}(I:Inv X pins σ H s)(ho:s'.os=s.os)(u:Un (frs X.stack) ch H H' s.heap s'.heap)(hok:HOk X.prog X.w H' s'.heap)(hg:AllBare s'.gens)
 (hch:∀ b∈ch,(b∈X.ex\/X.s₀.heap.objs.size<=b)/\b≠X.env.locals/\(∀ x c,X.env.cells.lookup x=some c->c≠b)/\∀ p∈X.pn++pins,p.1≠b):Inv X pins σ H' s':=by
 obtain⟨h',g',d',t',o'⟩:=s';have e:o'=s.os:=ho;subst e;exact I.call (g':=g') (t':=t') (d':=d') u hok hg hch
end
abbrev XK:=Value->Option Addr->Hp->Prop
abbrev St:=List (Option V)
abbrev VK:=V->Hp->Prop
abbrev TE:=St->Hp->VK->Prop
abbrev TT:=St->Hp->(Bool->Hp->Prop)->Prop
abbrev TA:=St->Hp->(List V->Hp->Prop)->Prop
structure Ends where
 nx:St->Hp->Prop
 rt:VK
 bk:St->Hp->Prop:=fun _ _=>False
 ct:St->Hp->Prop:=fun _ _=>False
abbrev TS:=Ends->St->Hp->Prop
def EP (X:Cx)(pins:List (Addr×Obj))(σ:St)(Q:VK)(u:Value)(s':Shared):Prop:=∃ v H',Inv X pins σ H' s'/\bZ v u/\Q v H'
def TP (X:Cx)(pins:List (Addr×Obj))(σ:St)(Q:Bool->Hp->Prop)(b:Bool)(s':Shared):Prop:=∃ H',Inv X pins σ H' s'/\Q b H'
def AP (X:Cx)(pins:List (Addr×Obj))(σ:St)(Q:List V->Hp->Prop)(us:List Value)(s':Shared):Prop:=∃ vs H',Inv X pins σ H' s'/\bU vs us/\Q vs H'
def SP (X:Cx)(pins:List (Addr×Obj))(D:Ends)(f:Flow)(s':Shared):Prop :=
 match f with
 | .next=>∃ σ' H',Inv X pins σ' H' s'/\D.nx σ' H'
 | .brk=>∃ σ' H',Inv X pins σ' H' s'/\D.bk σ' H'
 | .cont=>∃ σ' H',Inv X pins σ' H' s'/\D.ct σ' H'
 | .ret u=>∃ v σ' H',Inv X pins σ' H' s'/\bZ v u/\D.rt v H'
def PE (X:Cx)(e:Expr)(t:TE):Prop :=
 ∀ (pins:List (Addr×Obj)) (s:Shared) (σ:St) (H:Hp) (Q:VK),Inv X pins σ H s->t σ H Q->wpAny (model X.prog X.w) X.A (eval e X.env) (EP X pins σ Q) X.xe s
def PT (X:Cx)(e:Expr)(t:TT):Prop :=
 ∀ (pins:List (Addr×Obj)) (s:Shared) (σ:St) (H:Hp) (Q:Bool->Hp->Prop),Inv X pins σ H s->t σ H Q->wpAny (model X.prog X.w) X.A (isTrue e X.env (eval e X.env)) (TP X pins σ Q) X.xe s
def PW (X:Cx)(e:Expr)(t:TT):Prop :=
 ∀ (whole:Sem Value) (pins:List (Addr×Obj)) (s:Shared) (σ:St) (H:Hp) (Q:Bool->Hp->Prop),Inv X pins σ H s->t σ H Q->wpAny (model X.prog X.w) X.A (isTrue e X.env whole) (TP X pins σ Q) X.xe s
theorem PW.pt {X:Cx}{e:Expr}{t:TT}(h:PW X e t):PT X e t:=h _
def PA (X:Cx)(es:List Expr)(t:TA):Prop :=
 ∀ (pos:Pos) (pins:List (Addr×Obj)) (s:Shared) (σ:St) (H:Hp) (Q:List V->Hp->Prop),Inv X pins σ H s->t σ H Q->wpAny (model X.prog X.w) X.A (spliced (backTo pos (starEach es X.env))) (AP X pins σ Q) X.xe s
def PS (X:Cx)(st:Stmt)(t:TS):Prop :=
 ∀ (pins:List (Addr×Obj)) (s:Shared) (σ:St) (H:Hp) (D:Ends),Inv X pins σ H s->t D σ H->wpAny (model X.prog X.w) X.A (exec st X.env) (SP X pins D) X.xe s
def PSs (X:Cx)(st:List Stmt)(t:TS):Prop :=
 ∀ (pins:List (Addr×Obj)) (s:Shared) (σ:St) (H:Hp) (D:Ends),Inv X pins σ H s->t D σ H->wpAny (model X.prog X.w) X.A (execs st X.env) (SP X pins D) X.xe s
theorem thn {α:Type}{t:Sem α}{Q Q':α->Shared->Prop}{M:Model}{A:Around}{E:Value->Shared->Prop}{s:Shared}(h:wpAny M A t Q E s)(hQ:∀ a s,Q a s->Q' a s):wpAny M A t Q' E s:=wpAny_mono h hQ fun _ _ x=>x
end L2
namespace L2
open PySem PySem.Spec PyProof.Rows
section
variable {X:Cx}
theorem bin {a b:Expr}{ta tb:TE}(ha:PE X a ta)(hb:PE X b tb){pins:List (Addr×Obj)}{s:Shared}{σ:St}{H:Hp}{R:V->V->Hp->Prop}(I:Inv X pins σ H s)(h:ta σ H fun x H1=>tb σ H1 fun y H2=>R x y H2)
 {α:Type} {Q:α->Shared->Prop} {f:Value->Value->Sem α}
 (hf:∀ v u s2 x y H2,Inv X pins σ H2 s2->bZ x v->bZ y u->R x y H2->wpAny (model X.prog X.w) X.A (f v u) Q X.xe s2) :
 wpAny (model X.prog X.w) X.A (eval a X.env) (fun v s₁=>wpAny (model X.prog X.w) X.A (eval b X.env) (fun u s₂=>wpAny (model X.prog X.w) X.A (f v u) Q X.xe s₂) X.xe s₁) X.xe s:=by
 refine thn (ha pins s σ H _ I h) fun v s1 ⟨x,H1,I1,r1,q1⟩=>?_
 refine thn (hb pins s1 σ H1 _ I1 q1) fun u s2 ⟨y,H2,I2,r2,q2⟩=>?_
 exact hf v u s2 x y H2 I2 r1 r2 q2
def aWe (i:Nat):TE:=fun σ H Q=>∃ v,σ[i]?=some (some v)/\Q v H
def tC (v:V):TE:=fun _ H Q=>Q v H
theorem rW {i:Nat}{x:Str}{pos:Pos}(hN:X.N[i]?=some x)(hv:Vis X.env.scope x)(hd:(x==("__debug__":Str))=false:=by decide)(hcd:(x==("__classdict__":Str))=false:=by decide):PE X (.Name x pos) (aWe i):=by
 intro pins s σ H Q I h;obtain⟨v,e,h⟩:=h;obtain⟨m,hn,hl⟩:=I.loc;obtain⟨u,r,l⟩:=hl i x v hN e hv;have fin:EP X pins σ Q u s:=⟨v,H,I,r,h⟩;rcases l with ⟨hk,hm⟩ | ⟨hk,c,hc,hcell⟩
 · exact wpAny_Name (wpAny_loadName_local I.ok.kind hk hn hm fin) hd
 · rcases hk with hk | hk
   · exact wpAny_Name (wpAny_loadName_cell I.ok.kind hk hc hcell fin) hd
   · exact wpAny_Name (wpAny_loadName_free I.ok.kind hk hc hcell fin hcd) hd
theorem aRy {i j pos}:PE X (.Constant (.int i) j pos) (tC (.int i)):=fun _ _ _ H _ I h=>wpAny_Constant_int ⟨.int i,H,I.tok _,⟨_,rfl⟩,h⟩
theorem aUp {b j pos}:PE X (.Constant (.bool b) j pos) (tC (.bl b)):=fun _ _ _ H _ I h=>Constant_bool ⟨.bl b,H,I,rfl,h⟩
def Gl (X:Cx)(x:Str):Prop:=X.env.kindOf x=some .globalImplicit
theorem aFd {E:Value->Shared->Prop}{pins:List (Addr×Obj)}{s:Shared}{σ:St}{H:Hp}{x:Str}{u:Value}{pos:Pos}{Q:Value->Shared->Prop}(I:Inv X pins σ H s)(hg:Gl X x)(hm:X.mg x=some u)(h:Q u s)
 (hd:(x==("__debug__":Str))=false:=by decide):wpAny (model X.prog X.w) X.A (eval (.Name x pos) X.env) Q E s :=
 Calls.Name_function_global I.ok.kind hg (Calls.loadGlobal_global (by rw[I.ok.glob];exact I.mod.glob.keeps I.bk) hm h) hd
theorem oD {E:Value->Shared->Prop}{pins:List (Addr×Obj)}{s:Shared}{σ:St}{H:Hp}{x:Str}{u:Value}{pos:Pos}{Q:Value->Shared->Prop}(I:Inv X pins σ H s)(hg:Gl X x)(hm:X.mg x=none)(hv:bootBuiltins x=some u)(h:Q u s)
 (hn:x ≠ "__name__":=by decide) (hd:(x==("__debug__":Str))=false:=by decide):wpAny (model X.prog X.w) X.A (eval (.Name x pos) X.env) Q E s:=by
 obtain⟨mb,h1,h2⟩:=I.mod.blt;exact Calls.Name_function_global I.ok.kind hg (Calls.loadGlobal_builtin (by rw[I.ok.glob];exact I.mod.glob.keeps I.bk) hm (by rw[I.ok.blt];exact h1.keeps I.bk) ((h2 x hn).trans hv) h) hd
theorem aO9 {x:Str}{v:V}{u:Value}{pos:Pos}(hg:Gl X x)(hm:X.mg x=some u)(r:bZ v u)(hd:(x==("__debug__":Str))=false:=by decide):PE X (.Name x pos) (tC v) :=
 fun _ _ _ H _ I h=>aFd I hg hm ⟨v,H,I,r,h⟩ hd
variable {a b:Expr}{ta tb:TE}{pos:Pos}
def PC (X:Cx)(op:CmpOp)(a b:Expr)(t:TE):Prop :=
 ∀ (pins:List (Addr×Obj)) (s:Shared) (σ:St) (H:Hp) (Q:VK),Inv X pins σ H s->t σ H Q ->
  wpAny (model X.prog X.w) X.A (eval a X.env) (fun v s₁=>wpAny (model X.prog X.w) X.A (eval b X.env) (fun u s₂=>wpAny (model X.prog X.w) X.A (compareOp op v u) (EP X pins σ Q) X.xe s₂) X.xe s₁) X.xe s
def tB (t:TE):TT:=fun σ H Q=>t σ H fun x H1=>∃ c,x=.bl c/\Q c H1
theorem aXc {op:CmpOp}{t:TE}(h:PC X op a b t)(h1:behindInMarks op b=false:=by first | exact nobehind _ (by decide) (by decide) | rfl):PT X (.Compare a [op] [b] pos) (tB t):=by
 intro pins s σ H Q I hw;refine wpAny_isTrue_Compare1 (thn (h pins s σ H _ I hw) fun v s1 h1=>thn h1 fun u s2 h2=>thn h2 fun c s3 ⟨x,H1,I1,r1,q1⟩=>?_) h1
 obtain⟨d,rfl,q⟩:=q1;cases r1;exact wpAny_truthy_bool ⟨H1,I1,q⟩
theorem aTf {e:Expr}{t:TE}(h:PE X e t)(he:∀ whole,isTrue e X.env whole=(do let v ← whole;standAt e.pos;holding [v] (truthy v)):=by intro _;rfl):PT X e (tB t):=by
 intro pins s σ H Q I hw;refine isTrue_plain (thn (h pins s σ H _ I hw) fun v s1 ⟨x,H1,I1,r1,q1⟩=>?_) (he _)
 obtain⟨d,rfl,q⟩:=q1;cases r1;exact wpAny_truthy_bool ⟨H1,I1,q⟩
variable {tA tB':TT}{rest:List Expr}
def tOr (t u:TT):TT:=fun σ H Q=>t σ H fun c H1=>if c=true then Q true H1 else u σ H1 Q
def aWz (t:TT):TT:=fun σ H Q=>t σ H fun c H1=>Q (!c) H1
theorem aRb (ha:PT X a tA):PW X (.BoolOp .Or [a] pos) tA:=by
 intro wh pins s σ H Q I h;refine isTrue_or (thn (ha pins s σ H Q I h) fun c s1 e=>?_)
 cases c with
 | false=>exact isTrue_or_nil e
 | true=>exact e
theorem aUt (ha:PT X a tA)(hb:PW X (.BoolOp .Or (b :: rest) pos) tB'):PW X (.BoolOp .Or (a :: b :: rest) pos) (tOr tA tB'):=by
 intro wh pins s σ H Q I h;refine isTrue_or (thn (ha pins s σ H _ I h) fun c s1 ⟨H1,I1,q1⟩=>?_)
 cases c with
 | true=>exact⟨H1,I1,q1⟩
 | false=>exact hb wh pins s1 σ H1 Q I1 q1
theorem aS0 (ha:PT X a tA):PT X (.UnaryOp .Not a pos) (aWz tA):=by
 intro pins s σ H Q I h;exact isTrue_not (ha pins s σ H (fun c H1=>Q (!c) H1) I h)
end
end L2
namespace L2
open PySem PySem.Spec PyProof.Rows
def SqL (K:PySem.W.Frag)(H:Hp)(a:Addr)(xs:List V):Prop :=
 Rd H a (.lst xs) \/
  ∃ (o:Obj) (its:Array Value) (n:Nat),K.lookup a=some o/\o.cls=.type "list"/\o.dict=none/\o.data=.seq its n/\its.size<=sizeLine/\bU xs its.toList
def SqT (K:PySem.W.Frag)(H:Hp)(a:Addr)(xs:List V):Prop :=
 Rd H a (.tup xs) \/
  ∃ (o:Obj) (its:Array Value) (n:Nat),K.lookup a=some o/\o.cls=.type "tuple"/\o.data=.seq its n/\its.size<=sizeLine/\bU xs its.toList
def aWm:Value->Option V
 | .none=>some .non
 | .bool b=>some (.bl b)
 | .int i _=>some (.int i)
 | .str x _=>some (.str x)
 | .bytes b _=>some (.byt b)
 | .float b _=>some (.flt b)
 | .ref a=>some (.ref a)
 | .type n=>some (.ty n)
 | _=>none
theorem bZ.abs {x:V}{u:Value}(r:bZ x u):aWm u=some x:=by
 cases x with
 | non=>cases r;rfl
 | bl _=>cases r;rfl
 | int _=>obtain⟨t,rfl⟩:=r;rfl
 | str _=>obtain⟨t,rfl⟩:=r;rfl
 | byt _=>obtain⟨t,rfl⟩:=r;rfl
 | flt _=>obtain⟨t,rfl⟩:=r;rfl
 | ref _=>cases r;rfl
 | ty _=>cases r;rfl
theorem bZ.inj {x y:V}{u:Value}(r:bZ x u)(q:bZ y u):x=y:=Db.inj (r.abs.symm.trans q.abs)
theorem bU.inj:∀ {xs ys:List V} {us:List Value},bU xs us->bU ys us->xs=ys
 | _,_,_,.nil,.nil=>rfl
 | _,_,_,.cons r t,.cons r' t'=>by rw[r.inj r',bU.inj t t']
section
variable {X:Cx}{pins:List (Addr×Obj)}{σ:St}{H:Hp}{s:Shared}{a:Addr}{xs ys:List V}
theorem SqL.of {K:PySem.W.Frag}(h:H a=some (.lst xs)):SqL K H a xs:=.inl (.inl h)
theorem SqT.of {K:PySem.W.Frag}(h:H a=some (.tup xs)):SqT K H a xs:=.inl (.inl h)
theorem Inv.list (I:Inv X pins σ H s)(h:SqL X.K H a xs):∃ its:List Value,bU xs its/\PlainL s.heap a its.toArray/\xs.length<=sizeLine:=by
 rcases h with h | ⟨o,its,n,hk,hc,hd,hs,hz,r⟩
 · obtain⟨z,its,n,r,e⟩:=h.ok I.hok
   exact⟨its,r,⟨_,n,e,rfl,rfl,rfl⟩,z⟩
 · refine⟨its.toList,r,⟨o,n,I.kIn a o hk,hc,hd,by simpa using hs⟩,?_⟩
   have e:=r.length;simp only[Array.length_toList]at e;omega
theorem Inv.tuple (I:Inv X pins σ H s)(h:SqT X.K H a xs):∃ its:List Value,bU xs its/\IsTup s.heap a its.toArray/\xs.length<=sizeLine:=by
 rcases h with h | ⟨o,its,n,hk,hc,hs,hz,r⟩
 · obtain⟨z,its,r,p⟩:=h.ok I.hok
   exact⟨its,r,p,z⟩
 · refine⟨its.toList,r,⟨o,I.kIn a o hk,hc,n,by simpa using hs⟩,?_⟩
   have e:=r.length;simp only[Array.length_toList]at e;omega
theorem Inv.list_inj (I:Inv X pins σ H s)(h:SqL X.K H a xs)(h':SqL X.K H a ys):xs=ys:=by
 obtain⟨its,r,⟨o,n,e,_,_,d⟩,_⟩:=I.list h;obtain⟨its',r',⟨o',n',e',_,_,d'⟩,_⟩:=I.list h';rw[e]at e';cases e';rw[d]at d';injection d' with d1 _
 have:its=its':=by simpa using congrArg Array.toList d1
 subst this;exact r.inj r'
theorem Inv.tuple_inj (I:Inv X pins σ H s)(h:SqT X.K H a xs)(h':SqT X.K H a ys):xs=ys:=by
 obtain⟨its,r,⟨o,e,_,n,d⟩,_⟩:=I.tuple h;obtain⟨its',r',⟨o',e',_,n',d'⟩,_⟩:=I.tuple h';rw[e]at e';cases e';rw[d]at d';injection d' with d1 _
 have:its=its':=by simpa using congrArg Array.toList d1
 subst this;exact r.inj r'
end
section
variable {X:Cx}{st:Stmt}{rest:List Stmt}{t u:TS}{e:Expr}{te:TE}{pos:Pos}
def aV3:TS:=fun D σ H=>D.nx σ H
def aUi (t u:TS):TS:=fun D σ H=>t { D with nx:=u D } σ H
theorem aP9:PSs X [] aV3:=fun _ _ σ H _ I h=>wpAny_execs_nil ⟨σ,H,I,h⟩
theorem aK8 (h1:PS X st t)(h2:PSs X rest u):PSs X (st :: rest) (aUi t u):=by
 intro pins s σ H D I h;refine wpAny_execs_cons (thn (h1 pins s σ H { D with nx:=u D } I h) fun f s1 q=>?_)
 cases f with
 | next =>
  obtain⟨σ',H',I',q⟩:=q;exact h2 pins s1 σ' H' D I' q
 | ret v=>exact q
 | brk=>exact q
 | cont=>exact q
theorem aN2 (h1:PS X st t):PSs X [st] t:=by
 intro pins s σ H D I h;refine wpAny_execs_cons (thn (h1 pins s σ H D I h) fun f s1 q=>?_)
 cases f with
 | next=>exact wpAny_execs_nil q
 | ret v=>exact q
 | brk=>exact q
 | cont=>exact q
theorem Inv.quiet {pins:List (Addr×Obj)}{σ:St}{H:Hp}{s:Shared}(I:Inv X pins σ H s):interactive X.env=false:=by simp[interactive,I.ok.kind]
def aT9 (te:TE):TS:=fun D σ H=>te σ H fun _ H1=>D.nx σ H1
theorem uH (he:PE X e te)(hs:swapsWith e none pos.line X.env=pure false:=by rfl):PS X (.Expr e pos) (aT9 te):=by
 intro pins s σ H D I h;exact wpAny_Expr_any (thn (he pins s σ H _ I h) fun v s1 ⟨x,H1,I1,r1,q1⟩=>⟨σ,H1,I1,q1⟩) I.quiet hs
def aW7 (te:TE):TS:=fun D σ H=>te σ H D.rt
theorem aSs (he:PE X e te):PS X (.Return (some e) pos) (aW7 te):=by
 intro pins s σ H D I h;exact wpAny_Return_some (thn (he pins s σ H _ I h) fun v s1 ⟨x,H1,I1,r1,q1⟩=>⟨x,σ,H1,I1,r1,q1⟩)
def aV7 (c:TT)(t u:TS):TS:=fun D σ H=>c σ H fun b H1=>if b=true then t D σ H1 else u D σ H1
theorem aUc {c:Expr}{a b:List Stmt}{tc:TT}(hc:PT X c tc)(ha:PSs X a t)(hb:PSs X b u):PS X (.If c a b pos) (aV7 tc t u):=by
 intro pins s σ H D I h;refine wpAny_If (thn (hc pins s σ H _ I h) fun d s1 ⟨H1,I1,q1⟩=>?_)
 cases d with
 | true=>exact ha pins s1 σ H1 D I1 q1
 | false=>exact hb pins s1 σ H1 D I1 q1
def aSz:TS:=fun _ _ _=>False
theorem aI7:PS X st aSz:=fun _ _ _ _ _ _ h=>h.elim
end
abbrev TG:=V->St->Hp->(St->Hp->Prop)->Prop
abbrev TGs:=List V->St->Hp->(St->Hp->Prop)->Prop
def PG (X:Cx)(target:Expr)(t:TG):Prop :=
 ∀ (pins:List (Addr×Obj)) (s:Shared) (σ:St) (H:Hp) (v:V) (u:Value) (Q:St->Hp->Prop),Inv X pins σ H s->bZ v u->t v σ H Q ->
  wpAny (model X.prog X.w) X.A (assign target X.env u) (fun _ s'=>∃ σ' H',Inv X pins σ' H' s'/\Q σ' H') X.xe s
def PGs (X:Cx)(ts:List Expr)(t:TGs):Prop :=
 ∀ (pins:List (Addr×Obj)) (s:Shared) (σ:St) (H:Hp) (vs:List V) (us:List Value) (Q:St->Hp->Prop),Inv X pins σ H s->bU vs us->t vs σ H Q ->
  wpAny (model X.prog X.w) X.A (assignInOrder ((assignEach ts X.env).map (·.2)) us) (fun _ s'=>∃ σ' H',Inv X pins σ' H' s'/\Q σ' H') X.xe s
abbrev TIp:=V->V->Hp->VK->Prop
def PIp (X:Cx)(op:Operator)(t:TIp):Prop :=
 ∀ (pins:List (Addr×Obj)) (s:Shared) (σ:St) (H:Hp) (x y:V) (v u:Value) (Q:VK),Inv X pins σ H s->bZ x v->bZ y u->t x y H Q ->
  wpAny (model X.prog X.w) X.A (inplaceOp op v u) (EP X pins σ Q) X.xe s
section
variable {X:Cx}{pos:Pos}
def aCb (i:Nat):TG:=fun v σ H Q=>Q (σ.set i (some v)) H
theorem aN9 {i:Nat}{x:Str}(hN:X.N.Nodup)(hi:X.N[i]?=some x)(hx:Loc X.env.scope x)(hf:X.fn x=true\/X.env.scope.names.lookup x=some .local:=by first | exact .inl rfl | exact .inr rfl | assumption):PG X (.Name x pos) (aCb i):=by
 intro pins s σ H v u Q I r h;exact wpAny_assign_Name (rQ I hN hi hx r (fun s' I'=>⟨_,H,I',h⟩) hf)
def aPi:TGs:=fun vs σ H Q=>vs=[]/\Q σ H
def aFs (t:TG)(u:TGs):TGs:=fun vs σ H Q=>∃ v r,vs=v :: r/\t v σ H fun σ' H'=>u r σ' H' Q
theorem aNe:PGs X [] aPi:=by
 intro pins s σ H vs us Q I r h;obtain⟨e,h⟩:=h;subst e;cases r;exact assignInOrder_nil ⟨σ,H,I,h⟩
theorem aLw {e:Expr}{es:List Expr}{t:TG}{u:TGs}(h1:PG X e t)(h2:PGs X es u)
 (hs:(assignEach (e :: es) X.env).map (·.2)=assign e X.env :: (assignEach es X.env).map (·.2):=by rfl):PGs X (e :: es) (aFs t u):=by
 intro pins s σ H vs us Q I r h;obtain⟨v,vr,e1,h⟩:=h;subst e1;cases r with
 | cons r rr =>
  rw[hs];refine assignInOrder_cons (thn (h1 pins s σ H _ _ _ I r h) fun _ s1 ⟨σ1,H1,I1,q1⟩=>?_)
  exact h2 pins s1 σ1 H1 _ _ Q I1 rr q1
def aNg (K:PySem.W.Frag)(n:Nat)(t:TGs):TG:=fun v σ H Q=>∃ a xs,v=.ref a/\SqT K H a xs/\xs.length=n/\t xs σ H Q
theorem aSx {es:List Expr}{k:Nat}{t:TGs}{n:Nat}(hc:X.calm=true)(h:PGs X es t)
 (hn:(assignEach es X.env).length=n:=by rfl) (hst:(assignEach es X.env).findIdx? (·.1)=none:=by rfl):PG X (.Tuple es k pos) (aNg X.K n t):=by
 intro pins s σ H v u Q I r hw;obtain⟨a,xs,e1,hq,hl,hw⟩:=hw;subst e1;cases r;obtain⟨its,rv,ht,hz⟩:=I.tuple hq;refine assign_Tuple_tuple (I.ok.hd hc) ht (by simp[hn,←hl,rv.length]) hst fun h' hx=>?_
 have I1:Inv X pins σ H { s with heap:=h' }:=I.kept (t':=s.toks) fun b o e=>hx b o (Ay (Ae e)) e
 exact h pins _ σ H xs _ Q I1 (by simpa using rv) hw
def aWx (te:TE)(g:TG):TS:=fun D σ H=>te σ H fun x H1=>g x σ H1 D.nx
theorem aSy {i:Nat}{x:Str}{e:Expr}{te:TE}{pos':Pos}(hN:X.N.Nodup)(hi:X.N[i]?=some x)(hx:Loc X.env.scope x)(he:PE X e te)(hs:swapsWith e (some (.Name x pos')) pos.line X.env=pure false:=by rfl)(hf:X.fn x=true\/X.env.scope.names.lookup x=some .local:=by first | exact .inl rfl | exact .inr rfl | assumption) :
 PS X (.Assign [.Name x pos'] e pos) (aWx te (aCb i)):=by
 intro pins s σ H D I h;refine wpAny_Assign_Name (thn (he pins s σ H _ I h) fun v s1 ⟨y,H1,I1,r1,q1⟩=>?_) hs
 exact rQ I1 hN hi hx r1 (fun s2 I2=>⟨_,H1,I2,q1⟩) hf
def aW9 (i:Nat)(te:TE)(ti:TIp):TS:=fun D σ H=>∃ x,σ[i]?=some (some x)/\te σ H fun y H1=>ti x y H1 fun z H2=>D.nx (σ.set i (some z)) H2
theorem aSl {i:Nat}{x:Str}{e:Expr}{te:TE}{op:Operator}{ti:TIp}{pos':Pos}(hN:X.N.Nodup)(hi:X.N[i]?=some x)(hx:Loc X.env.scope x)(he:PE X e te)(ho:PIp X op ti)(hf:X.fn x=true\/X.env.scope.names.lookup x=some .local:=by first | exact .inl rfl | exact .inr rfl | assumption) :
 PS X (.AugAssign (.Name x pos') op e pos) (aW9 i te ti):=by
 intro pins s σ H D I h;obtain⟨v,e1,h⟩:=h;obtain⟨m,hn,hl⟩:=I.loc;have vis:Vis X.env.scope x:=by rcases hx with k | k;exact .inl k;exact .inr (.inl k)
 obtain⟨u,r,l⟩:=hl i x v hi e1 vis;refine wpAny_AugAssign_Name ?_
 have go:wpAny (model X.prog X.w) X.A (eval e X.env) (fun w s₂=>wpAny (model X.prog X.w) X.A (inplaceOp op u w) (fun r s₃=>wpAny (model X.prog X.w) X.A (storeName X.env x r) (fun _=>SP X pins D .next) X.xe s₃) X.xe s₂) X.xe s:=by
  refine thn (he pins s σ H _ I h) fun w s1 ⟨y,H1,I1,r1,q1⟩=>?_
  refine thn (ho pins s1 σ H1 v y u w _ I1 r r1 q1) fun z s2 ⟨zv,H2,I2,r2,q2⟩=>?_
  exact rQ I2 hN hi hx r2 (fun s3 I3=>⟨_,H2,I3,q2⟩) hf
 rcases l with ⟨hk,hm⟩ | ⟨hk,c,hc,hcell⟩
 · exact wpAny_loadName_local I.ok.kind hk hn hm go
 · rcases hk with hk | hk
   · exact wpAny_loadName_cell I.ok.kind hk hc hcell go
   · rcases hx with k | k
     · have:X.env.scope.names.lookup x=some .free:=hk
       rw[k]at this;cases this
     · have:X.env.scope.names.lookup x=some .free:=hk
       rw[k]at this;cases this
def ipI (f:Int->Int->Int):TIp:=fun x y H Q=>∃ i j,x=.int i/\y=.int j/\Q (.int (f i j)) H
theorem aR8:PIp X .Add (ipI fun i j=>i+j):=by
 intro pins s σ H x y v u Q I r1 r2 h;obtain⟨i,j,e1,e2,q⟩:=h;subst e1;subst e2;obtain⟨t,rfl⟩:=r1;obtain⟨t',rfl⟩:=r2;exact iadd_int ⟨.int _,H,I.tok _,⟨_,rfl⟩,q⟩
end
structure It where
 go:Nat->Hp->Prop
 yld:Nat->Hp->V->Hp->Prop
 stop:Nat->Hp->Prop
def qA (X:Cx)(pins:List (Addr×Obj))(H:Hp)(b:Addr):Prop :=
 H b=none/\b≠X.env.locals/\b∉X.fs/\(b∈X.ex\/X.s₀.heap.objs.size<=b)/\(∀ x c,X.env.cells.lookup x=some c->c≠b)/\∀ p∈X.pn++pins,p.1≠b
theorem Inv.fpOk {X:Cx}{pins:List (Addr×Obj)}{σ:St}{H H':Hp}{s:Shared}{b:Addr}(I:Inv X pins σ H s)(hb:s.heap.objs.size<=b)(hn:H' b=none):qA X pins H' b:=by
 refine⟨hn,De (Av I.lt hb),I.nofs hb,.inr (Ah I.sz hb),fun x c e z=>?_,fun p hp z=>?_⟩
 · obtain⟨v,q⟩:=I.cell x c e
   exact absurd (Av q.lt (by rw[z];exact hb)) (Dv _)
 · exact absurd (Av (Ae (I.pin p hp).1) (by rw[z];exact hb)) (Dv _)
structure Turn (P:Program)(w:World)(K:PySem.W.Frag)(tg:Expr)(J:It)(fp:List Addr)(it:Addr)(tn:Nat->Heap->Prop):Prop where
 mem:it∈fp
 obj:∀ i h,tn i h->∀ b∈fp,∃ o,h.get? b=some o/\∀ v,o.data≠.cell v
 keep:∀ i h h',tn i h->(∀ b∈fp,∀ o,h.get? b=some o->h'.get? b=some o)->tn i h'
 item:∀ (X:Cx),X.prog=P->X.w=w->X.K=K->X.calm=true->∀ (i:Nat) (pins:List (Addr×Obj)) (s:Shared) (σ:St) (H:Hp) (E:Value->Shared->Prop),Inv X pins σ H s->(∀ b∈fp,qA X pins H b)->tn i s.heap->J.go i H ->
  wpAny (model P w) X.A (pyNext (.ref it)) (fun r s1=>∃ u,r=some u /\
   wpAny (model P w) X.A (letOwnedTupleGo tg (.ref it) u) (fun _ s2=>∃ x H',Inv X pins σ H' s2/\bZ x u/\J.yld i H x H'/\tn (i+1) s2.heap/\∀ b∈fp,H' b=none) E s1) E s
 done:∀ (X:Cx),X.prog=P->X.w=w->X.K=K->X.calm=true->∀ (i:Nat) (pins:List (Addr×Obj)) (s:Shared) (σ:St) (H:Hp) (E:Value->Shared->Prop),Inv X pins σ H s->(∀ b∈fp,qA X pins H b)->tn i s.heap->J.stop i H ->
  wpAny (model P w) X.A (pyNext (.ref it)) (fun r s1=>r=none/\Inv X pins σ H s1) E s
 self:∀ (A:Around) (i:Nat) (s:Shared) (Q:Value->Shared->Prop) (E:Value->Shared->Prop),tn i s.heap->Q (.ref it) s->wpAny (model P w) A (pyIter (.ref it)) Q E s
abbrev TI:=St->Hp->(It->Hp->Prop)->Prop
def PIE (X:Cx)(pins:List (Addr×Obj))(σ:St)(tg:Expr)(R:It->Hp->Prop)(itv:Value)(s2:Shared):Prop :=
 ∃ (it:Addr) (fp:List Addr) (tn:Nat->Heap->Prop) (J:It) (H':Hp),itv=.ref it/\Inv X pins σ H' s2/\Turn X.prog X.w X.K tg J fp it tn/\tn 0 s2.heap/\(∀ b∈fp,qA X pins H' b)/\R J H'
def PI (X:Cx)(tg iter:Expr)(wi:TI):Prop :=
 ∀ (pins:List (Addr×Obj)) (s:Shared) (σ:St) (H:Hp) (R:It->Hp->Prop),Inv X pins σ H s->wi σ H R ->
  wpAny (model X.prog X.w) X.A (eval iter X.env) (fun v s1=>wpAny (model X.prog X.w) X.A (pyIter v) (PIE X pins σ tg R) X.xe s1) X.xe s
theorem aJ8 {M:Model}{A:Around}{E:Value->Shared->Prop}{s:Shared}{tg:Expr}{it:Addr}{u:Value}{o:Obj}{n:String}{vs:Array Value}{Q:Unit->Shared->Prop}(ho:s.heap.get? it=some o)(hc:o.cls=.type n)(hd:o.data=.fields vs)
    (hn:["enumerate","zip","dict_itemiterator","dict_reverseitemiterator","odict_iterator","itertools.zip_longest","itertools.pairwise"].contains n=false) (hQ:Q () s):wpAny M A (letOwnedTupleGo tg (.ref it) u) Q E s:=by
  unfold letOwnedTupleGo
  cases tg<;>first
    | exact wpAny_pure hQ
    | (cases u<;>first
        | exact wpAny_pure hQ
        | (refine wpAny_bind (wpAny_load ho ?_)
           rw[hc,hd];show wpAny M A (if (["enumerate","zip","dict_itemiterator","dict_reverseitemiterator","odict_iterator","itertools.zip_longest","itertools.pairwise"].contains n&&vs[0]?==some (rawInt _))=true then _ else _) Q E s
           rw[if_neg (by intro h;rw[hn,Bool.false_and]at h;cases h)]
           exact wpAny_pure hQ))
def Itl (K:PySem.W.Frag)(a:Addr):It :=
 ⟨fun i H=>∃ xs x,SqL K H a xs/\xs[i]?=some x,fun i H x H'=>H'=H/\∀ xs,SqL K H a xs->xs[i]?=some x,fun i H=>∃ xs,SqL K H a xs/\xs.length<=i⟩
def Itt (K:PySem.W.Frag)(a:Addr):It :=
 ⟨fun i H=>∃ xs x,SqT K H a xs/\xs[i]?=some x,fun i H x H'=>H'=H/\∀ xs,SqT K H a xs->xs[i]?=some x,fun i H=>∃ xs,SqT K H a xs/\xs.length<=i⟩
def Itr (lo:Int)(n:Nat):It:=⟨fun i _=>i<n,fun i H x H'=>H'=H/\x=.int (lo+i),fun i _=>n<=i⟩
theorem aG2 {P:Program}{w:World}{K:PySem.W.Frag}{tg:Expr}(a it:Addr):Turn P w K tg (Itl K a) [it] it (fun i h=>h.IsListIter it a i) where
 mem:=by simp
 obj:=fun i h st b hb=>by
  have e:b=it:=by simpa using hb
  subst e;obtain⟨o,e,c,d⟩:=st;exact⟨o,e,fun v z=>by rw[d]at z;cases z⟩
 keep:=fun i h h' st k=>st.at fun o e=>k it (by simp) o e
 item:=by
  intro X hP hw hK hc i pins s σ H E I hf st hg;subst hP hw hK;obtain⟨xs,x,hq,hx⟩:=hg;obtain⟨its,rv,p,hz⟩:=I.list hq;obtain⟨u,hu,ru⟩:=rv.get hx;obtain⟨f0,f1,f2,f3,f4,f5⟩:=hf it (by simp)
  refine wpAny_pyNext_list_item st p.isList (x:=u) (by simpa using hu) fun h' st' sb=>?_
  have I1:Inv X pins σ H { s with heap:=h' }:=I.turned (t':=s.toks) (fun b o hb e=>(sb.2 b hb).trans e) f0 f1 f3 f4 f5
  obtain⟨o,e,c,d⟩:=id st';exact⟨u,rfl,aJ8 (s:={ s with heap:=h' }) e c d (by decide) ⟨x,H,I1,ru,⟨rfl,fun ys hy=>by rw[I.list_inj hy hq];exact hx⟩,st',fun b hb=>(hf b hb).1⟩⟩
 done:=by
  intro X hP hw hK hc i pins s σ H E I hf st hg;subst hP hw hK;obtain⟨xs,hq,hx⟩:=hg;obtain⟨its,rv,p,hz⟩:=I.list hq;obtain⟨f0,f1,f2,f3,f4,f5⟩:=hf it (by simp)
  have hl:=rv.length;exact wpAny_pyNext_list_end (I.ok.hd hc) st p.isList (by simp;omega) fun h' eb=>⟨rfl,I.turned (t':=s.toks) (fun b o hb e=>eb b o hb e) f0 f1 f3 f4 f5⟩
 self:=fun _ _ _ _ _ st h=>wpAny_pyIter_listiter st h
theorem aEs {P:Program}{w:World}{K:PySem.W.Frag}{tg:Expr}(a it:Addr):Turn P w K tg (Itt K a) [it] it (fun i h=>h.IsTupleIter it a i) where
 mem:=by simp
 obj:=fun i h st b hb=>by
  have e:b=it:=by simpa using hb
  subst e;obtain⟨o,e,c,d⟩:=st;exact⟨o,e,fun v z=>by rw[d]at z;cases z⟩
 keep:=fun i h h' st k=>st.at fun o e=>k it (by simp) o e
 item:=by
  intro X hP hw hK hc i pins s σ H E I hf st hg;subst hP hw hK;obtain⟨xs,x,hq,hx⟩:=hg;obtain⟨its,rv,p,hz⟩:=I.tuple hq;obtain⟨u,hu,ru⟩:=rv.get hx;obtain⟨f0,f1,f2,f3,f4,f5⟩:=hf it (by simp)
  refine wpAny_pyNext_tuple_item st (show s.heap.IsTuple a its.toArray from p) (x:=u) (by simpa using hu) fun h' st' sb=>?_
  have I1:Inv X pins σ H { s with heap:=h' }:=I.turned (t':=s.toks) (fun b o hb e=>(sb.2 b hb).trans e) f0 f1 f3 f4 f5
  obtain⟨o,e,c,d⟩:=id st';exact⟨u,rfl,aJ8 (s:={ s with heap:=h' }) e c d (by decide) ⟨x,H,I1,ru,⟨rfl,fun ys hy=>by rw[I.tuple_inj hy hq];exact hx⟩,st',fun b hb=>(hf b hb).1⟩⟩
 done:=by
  intro X hP hw hK hc i pins s σ H E I hf st hg;subst hP hw hK;obtain⟨xs,hq,hx⟩:=hg;obtain⟨its,rv,p,hz⟩:=I.tuple hq;obtain⟨f0,f1,f2,f3,f4,f5⟩:=hf it (by simp)
  have hl:=rv.length;exact wpAny_pyNext_tuple_end (I.ok.hd hc) st (show s.heap.IsTuple a its.toArray from p) (by simp;omega) fun h' eb=>⟨rfl,I.turned (t':=s.toks) (fun b o hb e=>eb b o hb e) f0 f1 f3 f4 f5⟩
 self:=fun _ _ _ _ _ st h=>wpAny_pyIter_tupleiter st h
theorem aDs {P:Program}{w:World}{K:PySem.W.Frag}{tg:Expr}(it:Addr)(lo:Int)(n:Nat):Turn P w K tg (Itr lo n) [it] it (fun i h=>IsRangeIter h it (lo+(i:Nat)*1) ((n:Int)-(i:Nat)) 1) where
 mem:=by simp
 obj:=fun i h st b hb=>by
  have e:b=it:=by simpa using hb
  subst e
  exact⟨_,st,fun v z=>by
   have z':Data.fields _=Data.cell v:=z
   cases z'⟩
 keep:=fun i h h' st k=>k it (by simp) _ st
 item:=by
  intro X hP hw hK hc i pins s σ H E I hf st hg;subst hP hw hK;obtain⟨f0,f1,f2,f3,f4,f5⟩:=hf it (by simp)
  have W:=Walks.range (prog:=X.prog) (w:=X.w) (I.ok.hd hc) it lo 1 n;refine W.item i s _ _ hg st fun v h' tk hv st' kk=>?_
  obtain⟨t,rfl⟩:=hv;have I1:Inv X pins σ H { s with heap:=h',toks:=tk }:=I.turned (fun b o hb e=>kk b o (by simpa using hb) e) f0 f1 f3 f4 f5
  refine⟨_,rfl,aJ8 (s:={ s with heap:=h',toks:=tk }) (n:="range_iterator") st' rfl rfl (by decide) ⟨.int (lo+i),H,I1,⟨t,?_⟩,⟨rfl,rfl⟩,st',fun b hb=>(hf b hb).1⟩⟩
  rw[Int.mul_one]
 done:=by
  intro X hP hw hK hc i pins s σ H E I hf st hg;subst hP hw hK;obtain⟨f0,f1,f2,f3,f4,f5⟩:=hf it (by simp)
  exact wpAny_pyNext_range_end (I.ok.hd hc) st (by have:n<=i:=hg;omega) fun h' eb=>⟨rfl,I.turned (t':=s.toks) (fun b o hb e=>eb b o hb e) f0 f1 f3 f4 f5⟩
 self:=fun _ _ _ _ _ st h=>wpAny_pyIter_rangeiter st h
end L2
namespace L2
open PySem PySem.Spec PyProof.Rows
section
variable {X:Cx}{tg:Expr}
def aUe (K:PySem.W.Frag)(tl:TE):TI:=fun σ H R=>tl σ H fun x H1=>∃ a,x=.ref a/\(∃ xs,SqL K H1 a xs)/\R (Itl K a) H1
def aWs (K:PySem.W.Frag)(tl:TE):TI:=fun σ H R=>tl σ H fun x H1=>∃ a,x=.ref a/\(∃ xs,SqT K H1 a xs)/\R (Itt K a) H1
theorem aPq {l:Expr}{tl:TE}(hl:PE X l tl):PI X tg l (aUe X.K tl):=by
 intro pins s σ H R I h;refine thn (hl pins s σ H _ I h) fun v s1 ⟨x,H1,I1,r1,q1⟩=>?_
 obtain⟨a,e,⟨xs,hq⟩,q⟩:=q1;subst e;cases r1;obtain⟨its,rv,p,hz⟩:=I1.list hq;refine wpAny_pyIter_list p.isList ?_
 refine⟨s1.heap.objs.size,[s1.heap.objs.size],_,_,H1,rfl,I1.kept (t':=s1.toks) fun b o e=>Aa _ e,aG2 a _,⟨_,Ag _ rfl,rfl,rfl⟩,fun b hb=>?_,q⟩
 have e:b=s1.heap.objs.size:=by simpa using hb
 subst e;exact I1.fpOk (Af _) (I1.hok.fresh (Af _))
theorem aRc {l:Expr}{tl:TE}(hl:PE X l tl):PI X tg l (aWs X.K tl):=by
 intro pins s σ H R I h;refine thn (hl pins s σ H _ I h) fun v s1 ⟨x,H1,I1,r1,q1⟩=>?_
 obtain⟨a,e,⟨xs,hq⟩,q⟩:=q1;subst e;cases r1;obtain⟨its,rv,p,hz⟩:=I1.tuple hq;refine wpAny_pyIter_tuple (show s1.heap.IsTuple a its.toArray from p) ?_
 refine⟨s1.heap.objs.size,[s1.heap.objs.size],_,_,H1,rfl,I1.kept (t':=s1.toks) fun b o e=>Aa _ e,aEs a _,⟨_,Ag _ rfl,rfl,rfl⟩,fun b hb=>?_,q⟩
 have e:b=s1.heap.objs.size:=by simpa using hb
 subst e;exact I1.fpOk (Af _) (I1.hok.fresh (Af _))
theorem aBj {pins:List (Addr×Obj)}{σ:St}{H:Hp}{s:Shared}{R:It->Hp->Prop}{E:Value->Shared->Prop}{lo hi:Int}{t u v:Tok}{tk:Nat}(I:Inv X pins σ H s)(h1:-(2^62)<=lo)(h2:lo<2^62)(h3:-(2^62)<=hi)(h4:hi<2^62)
 (q:R (Itr lo (hi-lo).toNat) H):wpAny (model X.prog X.w) X.A (pyIter (.ref s.heap.objs.size)) (PIE X pins σ tg R) E { s with heap:=s.heap.push { cls:=.type "range",data:=.fields #[.int lo t,.int hi u,.int 1 v] },toks:=tk }:=by
 refine wpAny_pyIter_range (IsRange.new ..) (small_one h1 h2 h3 h4) ?_
 have I1:Inv X pins σ H { s with heap:=s.heap.push { cls:=.type "range",data:=.fields #[.int lo t,.int hi u,.int 1 v] },toks:=tk }:=I.kept fun b o e=>Aa _ e
 refine⟨(s.heap.push { cls:=.type "range",data:=.fields #[.int lo t,.int hi u,.int 1 v] }).objs.size,[(s.heap.push { cls:=.type "range",data:=.fields #[.int lo t,.int hi u,.int 1 v] }).objs.size],_,_,H,rfl,
  I1.kept (t':=tk) fun b o e=>Aa _ e,aDs _ lo (hi-lo).toNat,?_,fun b hb=>?_,q⟩
 · have e1:lo+((0:Nat):Int)*1=lo:=by simp
   have e2:(((hi-lo).toNat:Nat):Int)-((0:Nat):Int)=Builtin.Range.rangeSize lo hi 1:=by rw[rangeSize_one];split<;>omega
   show IsRangeIter _ _ (lo+((0:Nat):Int)*1) ((((hi-lo).toNat:Nat):Int)-((0:Nat):Int)) 1
   rw[e1,e2];exact Ag _ rfl
 · have e:b=(s.heap.push { cls:=.type "range",data:=.fields #[.int lo t,.int hi u,.int 1 v] }).objs.size:=by simpa using hb
   subst e;exact I1.fpOk (Af _) (I1.hok.fresh (Af _))
def aUo (ta:TA):TI:=fun σ H R=>ta σ H fun vs H1=>∃ j:Int,vs=[.int j]/\-(2^62)<=j/\j<2^62/\R (Itr 0 j.toNat) H1
def aVo (ta:TA):TI:=fun σ H R=>ta σ H fun vs H1=>∃ i j:Int,vs=[.int i,.int j]/\(-(2^62)<=i/\i<2^62/\-(2^62)<=j/\j<2^62)/\R (Itr i (j-i).toNat) H1
theorem aH5 {a:Expr}{ta:TA}{p pos:Pos}(hg:Gl X "range")(hm:X.mg "range" = none)(ha:PA X [a] ta)(hs:starEach [a] X.env=[(false,eval a X.env)]:=by rfl):PI X tg (.Call (.Name "range" p) [a] [] pos) (aUo ta):=by
 intro pins s σ H R I h;refine Call_ (oD I hg hm boot_range (Ce (thn (ha pos pins s σ H _ I h) fun us s1 ⟨vs,H1,I1,r1,q1⟩=>?_) hs rfl))
 obtain⟨j,e,q1,q2,q⟩:=q1;subst e;cases r1 with
 | cons r rr =>
  cases rr;obtain⟨t,rfl⟩:=r;exact call_range_1 (aBj I1 (by omega) (by omega) q1 q2 (by simpa using q))
theorem aHb {a b:Expr}{ta:TA}{p pos:Pos}(hg:Gl X "range")(hm:X.mg "range" = none)(ha:PA X [a,b] ta)(hs:starEach [a,b] X.env=[(false,eval a X.env),(false,eval b X.env)]:=by rfl)(hs2:starEach [b] X.env=[(false,eval b X.env)]:=by rfl) :
 PI X tg (.Call (.Name "range" p) [a,b] [] pos) (aVo ta):=by
 intro pins s σ H R I h;refine Call_ (oD I hg hm boot_range (Ce (thn (ha pos pins s σ H _ I h) fun us s1 ⟨vs,H1,I1,r1,q1⟩=>?_) (by rw[hs,hs2]) (by rw[hs2];rfl)))
 obtain⟨i,j,e,⟨q1,q2,q3,q4⟩,q⟩:=q1;subst e;cases r1 with
 | cons r rr =>
  cases rr with
  | cons r' rr =>
   cases rr;obtain⟨t,rfl⟩:=r;obtain⟨t',rfl⟩:=r';exact call_range_2 (aBj I1 q1 q2 q3 q4 q)
def aWf (wi:TI)(g:TG)(tb:TS):TS:=fun D σ H=>wi σ H fun J H1=>∃ W:Nat->Nat->St->Hp->Prop,(∃ m,W 0 m σ H1)/\∀ i m σ H,W i m σ H ->
 (J.stop i H/\D.nx σ H)\/(J.go i H/\∃ N:St->Hp->Prop,(∀ σ' H',N σ' H'->∃ m',m'<m/\W (i+1) m' σ' H')/\∀ x H',J.yld i H x H'->g x σ H' fun σ2 H2=>tb { D with nx:=N,ct:=N,bk:=D.nx } σ2 H2)
def vY (fp:List Addr)(h:Heap):List (Addr×Obj):=fp.filterMap fun b=>(h.get? b).map fun o=>(b,o)
theorem kJ {fp:List Addr}{h:Heap}{b:Addr}{o:Obj}(hb:b∈fp)(e:h.get? b=some o):(b,o)∈vY fp h:=List.mem_filterMap.mpr ⟨b,hb,by rw[e];rfl⟩
theorem aHe {fp:List Addr}{h:Heap}{p:Addr×Obj}(hp:p∈vY fp h):p.1∈fp/\h.get? p.1=some p.2:=by
 obtain⟨b,hb,e⟩:=List.mem_filterMap.mp hp;cases q:h.get? b with
 | none=>rw[q]at e;cases e
 | some o =>
  rw[q]at e;have e':(b,o)=p:=Db.inj e;subst e';exact⟨hb,q⟩
theorem Inv.pinned {pins:List (Addr×Obj)}{σ:St}{H:Hp}{s:Shared}{fp:List Addr}(I:Inv X pins σ H s)(hf:∀ b∈fp,qA X pins H b)(ho:∀ b∈fp,∃ o,s.heap.get? b=some o/\∀ v,o.data≠.cell v):Inv X (pins++vY fp s.heap) σ H s :=
 I.pins_of fun p hp=>(Bf.mp hp).elim (fun z=>I.pin p (Az _ z)) fun z=>by
  obtain⟨hb,e⟩:=aHe z;obtain⟨f0,f1,f2,_⟩:=hf p.1 hb;obtain⟨o,e',d⟩:=ho p.1 hb;rw[e]at e';cases e';exact⟨e,f0,f1,f2,d⟩
theorem Inv.unpinned {pins pl:List (Addr×Obj)}{σ:St}{H:Hp}{s:Shared}(I:Inv X (pins++pl) σ H s):Inv X pins σ H s:=I.pins_of fun p hp=>I.pin p (Az _ (Es _ hp))
theorem aQ4 {iter:Expr}{body:List Stmt}{wi:TI}{g:TG}{tb:TS}{pos:Pos}(hp:PassesOwn (model X.prog X.w) X.A X.env X.xe)(hc:X.calm=true)(hi:PI X tg iter wi)(hg:PG X tg g)(hb:PSs X body tb)
 (hs:∀ x,foldedSetIterable iter X.env x=pure x:=by intro _;rfl):PS X (.For tg iter body [] pos) (aWf wi g tb):=by
 intro pins s σ H D I h;refine wpAny_For (thn (hi pins s σ H _ I h) fun v s1 h1=>thn h1 fun itv s2 h2=>?_) hs
 obtain⟨it,fp,tn,J,H2,e,I2,T,st2,f2,W,⟨m0,w0⟩,turn⟩:=h2;subst e;have stat:∀ {H':Hp},(∀ b∈fp,H' b=none)->∀ b∈fp,qA X pins H' b:=fun hn b hb=>⟨hn b hb,(f2 b hb).2⟩;refine codeAny_forLoop_any (fun n s'=>∃ i σ' H',Inv X pins σ' H' s'/\tn i s'.heap/\(∀ b∈fp,H' b=none)/\W i n σ' H') ?_ m0 ⟨0,σ,H2,I2,st2,fun b hb=>(f2 b hb).1,w0⟩
 rintro n s3 ⟨i,σ3,H3,I3,st3,fr3,w3⟩
 rcases turn i n σ3 H3 w3 with ⟨stop,qn⟩ | ⟨go,N,hN,step⟩
 · refine wpAny_passesOwn hp (thn (T.done X rfl rfl rfl hc i pins s3 σ3 H3 X.xe I3 (stat fr3) st3 stop) fun r s4 ⟨hr,I4⟩=>?_)
   subst hr;exact wpAny_execs_nil ⟨σ3,H3,I4,qn⟩
 · refine wpAny_passesOwn hp (thn (T.item X rfl rfl rfl hc i pins s3 σ3 H3 X.xe I3 (stat fr3) st3 go) fun r s4 ⟨u,hr,h4⟩=>?_)
   subst hr;refine wpAny_passesOwn hp (thn h4 fun _ s5 ⟨x,H5,I5,r5,y5,st5,fr5⟩=>?_)
   have I5':=I5.pinned (stat fr5) (T.obj _ _ st5);refine wpAny_passesOwn hp (thn (hg _ s5 σ3 H5 x u _ I5' r5 (step x H5 y5)) fun _ s6 ⟨σ6,H6,I6,q6⟩=>?_)
   refine wpAny_passesOwn hp (thn (hb _ s6 σ6 H6 _ I6 q6) fun f s7 q7=>?_)
   have again:∀ {σ7:St} {H7:Hp},Inv X (pins++vY fp s5.heap) σ7 H7 s7->N σ7 H7->∃ m,m<n/\∃ i σ' H',Inv X pins σ' H' s7/\tn i s7.heap/\(∀ b∈fp,H' b=none)/\W i m σ' H':=fun {σ7 H7} I7 n7=>by
    obtain⟨m',hm,w7⟩:=hN σ7 H7 n7;refine⟨m',hm,i+1,σ7,H7,I7.unpinned,T.keep _ _ _ st5 fun b hb o e=>(I7.pin (b,o) (Az _ (Az _ (kJ hb e)))).1,fun b hb=>?_,w7⟩
    obtain⟨o,e,d⟩:=T.obj _ _ st5 b hb;exact(I7.pin (b,o) (Az _ (Az _ (kJ hb e)))).2.1
   cases f with
   | next=>obtain⟨σ7,H7,I7,n7⟩:=q7;exact again I7 n7
   | cont=>obtain⟨σ7,H7,I7,n7⟩:=q7;exact again I7 n7
   | brk=>obtain⟨σ7,H7,I7,q7⟩:=q7;exact⟨σ7,H7,I7.unpinned,q7⟩
   | ret v=>obtain⟨x7,σ7,H7,I7,r7,q7⟩:=q7;exact⟨x7,σ7,H7,I7.unpinned,r7,q7⟩
end
end L2
namespace L2
open PySem PySem.Spec PyProof.Rows
abbrev R2:=V->V->Hp->VK->Prop
def OpR (X:Cx)(f:Value->Value->Sem Value)(r:R2):Prop :=
 ∀ (pins:List (Addr×Obj)) (s:Shared) (σ:St) (H:Hp) (x y:V) (v u:Value) (Q:VK),Inv X pins σ H s->bZ x v->bZ y u->r x y H Q ->
  wpAny (model X.prog X.w) X.A (f v u) (EP X pins σ Q) X.xe s
def kI (X:Cx)(f:Value)(r:List V->Hp->VK->Prop):Prop :=
 ∀ (pins:List (Addr×Obj)) (s:Shared) (σ:St) (H:Hp) (xs:List V) (us:List Value) (Q:VK),Inv X pins σ H s->bU xs us->r xs H Q ->
  wpAny (model X.prog X.w) X.A (call f us) (EP X pins σ Q) X.xe s
def tOp (r:R2)(ta tb:TE):TE:=fun σ H Q=>ta σ H fun x H1=>tb σ H1 fun y H2=>r x y H2 Q
def rI (C:Int->Int->Prop)(g:Int->Int->V):R2:=fun x y H Q=>∃ i j,x=.int i/\y=.int j/\C i j/\Q (g i j) H
def rI0 (g:Int->Int->V):R2:=fun x y H Q=>∃ i j,x=.int i/\y=.int j/\Q (g i j) H
section
variable {X:Cx}{a b c:Expr}{ta tb tc:TE}{pos:Pos}
theorem aSj (ha:PE X a ta)(hb:PE X b tb){pins:List (Addr×Obj)}{s:Shared}{σ:St}{H:Hp}{R:V->V->Hp->Prop}(I:Inv X pins σ H s)
 (h:ta σ H fun x H1=>tb σ H1 fun y H2=>R x y H2) {Q:Value->Shared->Prop} {f:Value->Value->Sem Value}
 (hf:∀ v u s2 x y H2,Inv X pins σ H2 s2->bZ x v->bZ y u->R x y H2->wpAny (model X.prog X.w) X.A (f v u) Q X.xe s2) :
 wpAny (model X.prog X.w) X.A (eval a X.env) (fun v s₁=>wpAny (model X.prog X.w) X.A (eval b X.env) (fun u s₂=>wpAny (model X.prog X.w) X.A (f v u) Q X.xe s₂) X.xe s₁) X.xe s:=by
 refine thn (ha pins s σ H _ I h) fun v s1 ⟨x,H1,I1,r1,q1⟩=>?_
 refine thn (hb pins s1 σ H1 _ I1 q1) fun u s2 ⟨y,H2,I2,r2,q2⟩=>?_
 exact hf v u s2 x y H2 I2 r1 r2 q2
theorem aJk {op:Operator}{r:R2}(ho:OpR X (binaryOp op) r)(ha:PE X a ta)(hb:PE X b tb):PE X (.BinOp a op b pos) (tOp r ta tb):=by
 intro pins s σ H Q I h;exact wpAny_BinOp (aSj ha hb I h fun v u s2 x y H2 I2 rx ry q=>ho pins s2 σ H2 x y v u Q I2 rx ry q)
theorem opI {f:Value->Value->Sem Value}{C:Int->Int->Prop}{g:Int->Int->Int}
 (rule:∀ (i j:Int) (t u:Tok) (s:Shared) (Q:Value->Shared->Prop) (E:Value->Shared->Prop),C i j->Q (.int (g i j) s.toks) { s with toks:=s.toks+1 }->wpAny (model X.prog X.w) X.A (f (.int i t) (.int j u)) Q E s) :
 OpR X f (rI C fun i j=>.int (g i j)):=by
 intro pins s σ H x y v u Q I rx ry h;obtain⟨i,j,rfl,rfl,hc,q⟩:=h;obtain⟨t,rfl⟩:=rx;obtain⟨t',rfl⟩:=ry;exact rule i j t t' s _ _ hc ⟨.int (g i j),H,I.tok _,⟨_,rfl⟩,q⟩
theorem aU2 {f:Value->Value->Sem Value}{g:Int->Int->Int}
 (rule:∀ (i j:Int) (t u:Tok) (s:Shared) (Q:Value->Shared->Prop) (E:Value->Shared->Prop),Q (.int (g i j) s.toks) { s with toks:=s.toks+1 }->wpAny (model X.prog X.w) X.A (f (.int i t) (.int j u)) Q E s) :
 OpR X f (rI0 fun i j=>.int (g i j)):=by
 intro pins s σ H x y v u Q I rx ry h;obtain⟨i,j,rfl,rfl,q⟩:=h;obtain⟨t,rfl⟩:=rx;obtain⟨t',rfl⟩:=ry;exact rule i j t t' s _ _ ⟨.int (g i j),H,I.tok _,⟨_,rfl⟩,q⟩
theorem aR2 {f:Value->Value->Sem Value}{g:Int->Int->Bool}
 (rule:∀ (i j:Int) (t u:Tok) (s:Shared) (Q:Value->Shared->Prop) (E:Value->Shared->Prop),Q (.bool (g i j)) s->wpAny (model X.prog X.w) X.A (f (.int i t) (.int j u)) Q E s) :
 OpR X f (rI0 fun i j=>.bl (g i j)):=by
 intro pins s σ H x y v u Q I rx ry h;obtain⟨i,j,rfl,rfl,q⟩:=h;obtain⟨t,rfl⟩:=rx;obtain⟨t',rfl⟩:=ry;exact rule i j t t' s _ _ ⟨.bl (g i j),H,I,rfl,q⟩
def aV9 (i j:Int):Prop:=0<=j/\j<=1000000/\i.natAbs<2^64
theorem aTq:OpR X (binaryOp .Add) (rI0 fun i j=>.int (i+j)):=aU2 fun _ _ _ _ _ _ _ q=>add_int q
theorem aR5:OpR X (binaryOp .Sub) (rI0 fun i j=>.int (i-j)):=aU2 fun _ _ _ _ _ _ _ q=>sub_int q
theorem aQz:OpR X (binaryOp .Mod) (rI (fun _ j=>0<j) fun i j=>.int (i%j)):=opI fun i j _ _ _ _ _ hc q=>by
 have h1:(0:Int)<j:=hc;exact mod_int' (by omega) (by rw[Int.fmod_eq_emod_of_nonneg i (by omega)];exact q)
theorem aRl:OpR X (binaryOp .Pow) (rI aV9 fun i j=>.int (i^j.toNat)):=opI fun _ _ _ _ _ _ _ hc q=>pow_int_small hc.1 hc.2.1 hc.2.2 q
end
section
variable {X:Cx}{a b c:Expr}{ta tb tc:TE}{pos:Pos}
theorem aU6:OpR X (compareOp .Lt) (rI0 fun i j=>.bl (decide (i<j))):=aR2 fun _ _ _ _ _ _ _ q=>lt_int q
theorem aUj:OpR X (compareOp .Gt) (rI0 fun i j=>.bl (decide (j<i))):=aR2 fun _ _ _ _ _ _ _ q=>gt_int q
theorem aT8:OpR X (compareOp .GtE) (rI0 fun i j=>.bl (decide (j<=i))):=aR2 fun _ _ _ _ _ _ _ q=>ge_int q
theorem sM (b:Expr){op:CmpOp}(h:op≠.In:=by decide)(h2:op≠.NotIn:=by decide):behindInMarks op b=false:=by
 have e1:(op==CmpOp.In)=false:=by cases op<;>first | rfl | exact absurd rfl h
 have e2:(op==CmpOp.NotIn)=false:=by cases op<;>first | rfl | exact absurd rfl h2
 cases b<;>simp[behindInMarks,e1,e2]
theorem aFp {op:CmpOp}{r:R2}(ho:OpR X (compareOp op) r)(ha:PE X a ta)(hb:PE X b tb)(hm:behindInMarks op b=false):PE X (.Compare a [op] [b] pos) (tOp r ta tb):=by
 intro pins s σ H Q I h;exact wpAny_Compare1 (aSj ha hb I h fun v u s2 x y H2 I2 rx ry q=>ho pins s2 σ H2 x y v u Q I2 rx ry q) hm
def aVj (t:TE):TT:=fun σ H Q=>t σ H fun x H'=>∃ k,x=.bl k/\Q k H'
theorem aPl {op:CmpOp}{r:R2}(ho:OpR X (compareOp op) r)(ha:PE X a ta)(hb:PE X b tb)(hm:behindInMarks op b=false):PT X (.Compare a [op] [b] pos) (aVj (tOp r ta tb)):=by
 intro pins s σ H Q I h
 refine wpAny_isTrue_Compare1 (thn (ha pins s σ H _ I h) fun v s1 ⟨x,H1,I1,r1,q1⟩=>thn (hb pins s1 σ H1 _ I1 q1) fun u s2 ⟨y,H2,I2,r2,q2⟩ =>
  thn (ho pins s2 σ H2 x y v u _ I2 r1 r2 q2) fun c s3 ⟨z,H3,I3,r3,k,e,q3⟩=>?_) hm
 subst e;cases r3;exact wpAny_truthy_bool ⟨H3,I3,q3⟩
theorem aEe:(sizeLine:Nat)<2^63:=by rw[sizeLine_eq];decide
theorem kE {x:V}{us:List Value}(r:bU [x] us):∃ u,us=[u]/\bZ x u:=by
 cases r with
 | cons r1 r2=>cases r2;exact⟨_,rfl,r1⟩
theorem aJr {x y:V}{us:List Value}(r:bU [x,y] us):∃ u w',us=[u,w']/\bZ x u/\bZ y w':=by
 cases r with
 | cons r1 r2 =>
  cases r2 with
  | cons r3 r4=>cases r4;exact⟨_,_,rfl,r1,r3⟩
end
end L2
namespace L2
open PySem PySem.Spec PyProof.Rows
structure ObjM (h:Heap)(x dx C:Addr)(mA:Str->Option Value):Prop where
 obj:h.get? x=some (Dx C dx)
 ns:h.Ns1 dx mA
 ne:dx≠x
theorem aIq {h:Heap}{dx:Addr}{mA:Str->Option Value}(n:h.Ns1 dx mA):∃ od,h.get? dx=some od/\∀ name,Ha name od=some (mA name):=by
 obtain⟨o,es,ep,ho,hd,hk,_,hm⟩:=n;refine⟨o,ho,fun name=>?_⟩
 have e:=hm name;unfold nsFind findBy at e;rw[←Array.find?_toList]at e;unfold Ha;rw[hd];dsimp only
 split
 · rename_i y q
   rw[q]at e;exact congrArg some e
 · rename_i q
   rw[q]at e
   have a:es.toList.any (·.refKey)=false:=by
    rw[List.any_eq_false];intro y hy;obtain⟨z,t,hkey⟩:=hk y (Array.mem_toList_iff.mp hy);simp[DictEntry.refKey,hkey]
   have a':¬ es.toList.any (·.refKey)=true:=by rw[a];exact Bn
   rw[if_neg a'];exact congrArg some e
theorem ObjM.look {h:Heap}{x dx C:Addr}{mA:Str->Option Value}(I:ObjM h x dx C mA):∃ od,PySem.W.InstAt h x (Dx C dx) C (some od)/\∀ name,Ha name od=some (mA name) :=
 let ⟨od,ho,hl⟩:=aIq I.ns
 ⟨od,⟨I.obj,rfl,rfl,ho⟩,hl⟩
theorem tH.some_of {v:V}{o:Option Value}(r:tH (some v) o):∃ u,o=some u/\bZ v u:=by
 cases o with
 | none=>exact(show False from r).elim
 | some u=>exact⟨u,rfl,r⟩
section
variable {X:Cx}{pins:List (Addr×Obj)}{σ:St}{H:Hp}{s:Shared}{a C dx:Addr}{fs:List (Str×V)}{f:Str}{v:V}{A:Around}{E:Value->Shared->Prop}
theorem Inv.made (I:Inv X pins σ H s):Inv X pins σ (upd (upd H s.heap.objs.size (.own (s.heap.objs.size+1))) (s.heap.objs.size+1) (.ins C s.heap.objs.size []))
 { s with heap:=(s.heap.push Df).push (Dx C s.heap.objs.size) }:=by
 have e1:(s.heap.push Df).get? s.heap.objs.size=some Df:=Ag s.heap rfl
 have e2:((s.heap.push Df).push (Dx C s.heap.objs.size)).get? (s.heap.objs.size+1)=some (Dx C s.heap.objs.size):=by
  have:=Ag (s.heap.push Df) (o:=Dx C s.heap.objs.size) rfl
  rwa [Bw]at this
 have e3:(s.heap.push Df).Ns s.heap.objs.size (fun _=>none):=⟨Df,#[],_,e1,rfl,(fun e he=>absurd he (by simp)),fun _=>rfl⟩
 have I1:=I.laid (a:=s.heap.objs.size) (o:=.own (s.heap.objs.size+1)) (h':=s.heap.push Df) (t':=s.toks) (fun b u q=>Aa _ q) (Af _) ⟨_,e1⟩;refine I1.laid (a:=s.heap.objs.size+1) (o:=.ins C s.heap.objs.size []) (t':=s.toks) (fun b u q=>Aa _ q) (Nat.le_of_eq (Bw _ _)) ?_
 have ne:s.heap.objs.size≠s.heap.objs.size+1:=Ay (Nat.lt_succ_self _);refine⟨by rw[aR ne,bL],Cc _,ne,e2,fun _=>none,(Heap.Ns1.of_empty e3).at fun o q=>Aa _ q,fun _=>True.intro,fun y hy=>absurd rfl hy⟩
end
end L2
namespace L2
open PySem PySem.Spec PyProof.Rows
structure Room (k:Nat)(A:Around):Prop where
 hd:A.handled=none
 dp:A.depth+3*k+5<recursionLimit
 un:A.units+16*k+200<cLine
theorem Room.mono {j k:Nat}{A:Around}(r:Room k A)(h:j<=k):Room j A:=⟨r.hd,by have:=r.dp;omega,by have:=r.un;omega⟩
theorem Room.deeper {k:Nat}{A:Around}(r:Room (k+1) A)(env:Env):Room k (A.deeper env) :=
 ⟨r.hd,by have:=r.dp;show A.depth+1+3*k+5<_;omega,by have:=r.un;show A.units+3+16*k+200<_;omega⟩
theorem Room.depth {k:Nat}{A:Around}(r:Room k A):A.depth<recursionLimit:=by have:=r.dp;omega
theorem Room.units {k:Nat}{A:Around}(r:Room k A):A.units+64<cLine:=by have:=r.un;omega
def aWr:TA:=fun _ H Q=>Q [] H
def aU5 (ta:TE)(tr:TA):TA:=fun σ H Q=>ta σ H fun x H1=>tr σ H1 fun xs H2=>Q (x :: xs) H2
section
variable {X:Cx}{e:Expr}{es:List Expr}{te:TE}{t:TA}{pos:Pos}
theorem nZ:PA X [] aWr:=fun _ _ _ _ H Q I h=>Calls.spliced_nil ⟨[],H,I,.nil,h⟩
theorem kX (ha:PE X e te)(hr:PA X es t)(hs:starEach (e :: es) X.env=(false,eval e X.env) :: starEach es X.env:=by rfl):PA X (e :: es) (aU5 te t):=by
 intro pos pins s σ H Q I h;rw[hs];show wpAny _ _ (spliced ((false,eval e X.env) :: backTo pos (starEach es X.env))) _ _ s
 refine Calls.spliced_cons (thn (ha pins s σ H _ I h) fun u s1 ⟨x,H1,I1,r1,q1⟩=>?_)
 exact thn (hr pos pins s1 σ H1 _ I1 q1) fun us s2 ⟨xs,H2,I2,r2,q2⟩=>⟨x :: xs,H2,I2,.cons r1 r2,q2⟩
def aWn (t:TA):TE:=fun σ H Q=>t σ H fun xs H1=>xs.length<=sizeLine/\∀ p,H1 p=none->Q (.ref p) (upd H1 p (.tup xs))
def aWj (t:TA):TE:=fun σ H Q=>t σ H fun xs H1=>xs.length<=sizeLine/\∀ p,H1 p=none->Q (.ref p) (upd H1 p (.lst xs))
theorem aR4 {x1}(h:PA X es t):PE X (.Tuple es x1 pos) (aWn t):=by
 intro pins s σ H Q I hq;refine wpAny_Tuple_spliced (thn (h pos pins s σ H _ I hq) fun us s1 ⟨xs,H1,I1,r,z,q⟩=>⟨by rw[←r.length];exact z,?_⟩)
 have hf:H1 s1.heap.objs.size=none:=I1.hok.fresh (Af _);refine⟨.ref s1.heap.objs.size,upd H1 s1.heap.objs.size (.tup xs),I1.laid (t':=s1.toks) (fun b u e=>Aa _ e) (Af _) ?_,rfl,q _ hf⟩
 exact⟨z,us,r,⟨_,Ag _ rfl,rfl,_,rfl⟩⟩
theorem aSo (h:PA X es t):PE X (.List es pos) (aWj t):=by
 intro pins s σ H Q I hq;refine wpAny_List_spliced (thn (h pos pins s σ H _ I hq) fun us s1 ⟨xs,H1,I1,r,z,q⟩=>⟨by rw[←r.length];exact z,?_⟩)
 have hf:H1 s1.heap.objs.size=none:=I1.hok.fresh (Af _);refine⟨.ref s1.heap.objs.size,upd H1 s1.heap.objs.size (.lst xs),I1.laid (t':=s1.toks) (fun b u e=>Aa _ e) (Af _) ?_,rfl,q _ hf⟩
 exact⟨z,us,0,r,Ag _ rfl⟩
end
abbrev Sp:=List V->Hp->VK->XK->Prop
abbrev CXT:=List Env->Hp->Shared->XK->Value->Shared->Prop
structure Env0 (P:Program)(w:World)(K:PySem.W.Frag)(mg:Str->Option Value)(base:Heap)(A:Around)(outer:List Env)(s:Shared)(H:Hp):Prop where
 frames:A.frames=some outer
 mod:Mod K mg base
 bs:∀ b o,base.get? b=some o->s.heap.get? b=some o/\H b=none
 bsz:base.objs.size<=s.heap.objs.size
 funs:s.heap.FunFrames base outer
 frf:∀ b∈frs outer,H b=none
 hok:HOk P w H s.heap
 bare:AllBare s.gens
def CE (outer:List Env)(P:Program)(w:World)(H:Hp)(s:Shared)(Q:VK)(u:Value)(s':Shared):Prop :=
 ∃ v H',s'.os=s.os/\AllBare s'.gens/\Un (frs outer) [] H H' s.heap s'.heap/\HOk P w H' s'.heap/\bZ v u/\Q v H'
def CR (CX:CXT)(outer:List Env)(P:Program)(w:World)(H:Hp)(s:Shared)(Q:VK)(E:XK)(r:Result)(s':Shared):Prop :=
 match r with
 | .ok (.ret u)=>CE outer P w H s Q u s'
 | .ok _=>False
 | .error e=>CX outer H s E e s'
structure FnOk (P:Program)(w:World)(K:PySem.W.Frag)(mg:Str->Option Value)(base:Heap)(CX:CXT)(k:Nat)(f:Addr)(fd:FuncData)(ps:List Str)(sp:Sp):Prop where
 len:∀ vs H Q E,sp vs H Q E->vs.length=ps.length
 run:∀ (A:Around) (outer:List Env) (s:Shared) (H:Hp) (args:Args) (us:List Value) (vs:List V) (Q:VK) (E:XK),Room k A->Env0 P w K mg base A outer s H->BindsTo s fd args (ps.zip us)->bU vs us->sp vs H Q E ->
  codeAny (model P w) A (.call (.ref f) args) (CR CX outer P w H s Q E) s
theorem FnOk.mono {P:Program}{w:World}{K:PySem.W.Frag}{mg:Str->Option Value}{base:Heap}{CX:CXT}{j k:Nat}{f:Addr}{fd:FuncData}{ps:List Str}{sp:Sp}(F:FnOk P w K mg base CX j f fd ps sp)(h:j<=k) :
 FnOk P w K mg base CX k f fd ps sp:=⟨F.len,fun A outer s H args us vs Q E hr=>F.run A outer s H args us vs Q E (hr.mono h)⟩
section
variable {X:Cx}{pins:List (Addr×Obj)}{σ:St}{H:Hp}{s s':Shared}
theorem Inv.env0 (I:Inv X pins σ H s):Env0 X.prog X.w X.K X.mg X.base X.A X.stack s H :=
 ⟨I.ok.frames,I.ok.mod,I.bs,Ah I.ok.bsz I.sz,I.stack,I.stkFree,I.hok,I.bare⟩
theorem Inv.after {Q:VK}{u:Value}(I:Inv X pins σ H s)(h:CE X.stack X.prog X.w H s Q u s'):EP X pins σ Q u s':=by
 obtain⟨v,H',os,bare,un,hok,r,q⟩:=h;obtain⟨hh,g,d,t,os'⟩:=s';obtain rfl:os'=s.os:=os;exact⟨v,H',I.call (h':=hh) (g':=g) (d':=d) (t':=t) (ch:=[]) un hok bare (fun b z=>absurd z (by simp)),r,q⟩
end
def yY (K:PySem.W.Frag)(fd:FuncData)(ps:List Str)(ds:List Value):Prop :=
 ∀ (s:Shared) (us:List Value),K.In s.heap->(us++ds).length=ps.length->BindsTo s fd ⟨us,[]⟩ (ps.zip (us++ds))
theorem yY.all {K:PySem.W.Frag}{fd:FuncData}{ps:List Str}(h:∀ us:List Value,us.length=ps.length->bindArgs fd ⟨us,[]⟩=pure (ps.zip us)):yY K fd ps []:=fun s us _ hl=>by
 rw[Bt]at hl ⊢;exact .of_eq (h us hl)
structure FnScope (N P:List Str)(sc:Scope):Prop where
 kind:sc.kind=.function
 co:sc.isCoroutine=false
 gen:sc.isGenerator=false
 nd:N.Nodup
 pre:N.take P.length=P
 par:∀ x∈P,sc.names.lookup x=some .local\/sc.names.lookup x=some .cell
 nofree:∀ y∈sc.names,y.2≠.free
theorem zN {kindOf:Str->Option NameKind}{x:Str}:∀ {binds:List (Str×Value)} {m:Str->Option Value},(∀ v,(x,v)∉binds)->bindL kindOf binds m x=m x
 | [],_,_=>rfl
 | (n,v) :: r,m,h=>by
  unfold bindL;rw[zN fun w hw=>h w (Ad _ hw)];split
  · have:x≠n:=by rintro rfl;exact h v Ab
    simp[this]
  · rfl
theorem yR {kindOf:Str->Option NameKind}{x:Str}:∀ {binds:List (Str×Value)} {m:Str->Option Value},(∀ v,(x,v)∉binds)->bindC kindOf binds m x=m x
 | [],_,_=>rfl
 | (n,v) :: r,m,h=>by
  unfold bindC;rw[yR fun w hw=>h w (Ad _ hw)];split
  · rfl
  · have:x≠n:=by rintro rfl;exact h v Ab
    simp[this]
theorem yP {kindOf:Str->Option NameKind}{x:Str}{v:Value}:∀ {P:List Str} {vs:List Value} {i:Nat} {m:Str->Option Value},P.Nodup->P[i]?=some x->vs[i]?=some v->kindOf x=some .local ->
 bindL kindOf (P.zip vs) m x=some v
 | [],_,_,_,_,h,_,_=>by simp at h
 | _ :: _,[],_,_,_,_,h,_=>by simp at h
 | p :: P,w :: vs,0,m,nd,h1,h2,hk=>by
  simp at h1 h2;subst h1;subst h2
  show bindL kindOf ((p,w) :: P.zip vs) m p=_
  unfold bindL;rw[zN fun v hv=>(Cu.mp nd).1 (Ft hv).1,if_pos hk];simp
 | p :: P,w :: vs,i+1,m,nd,h1,h2,hk=>by
  show bindL kindOf ((p,w) :: P.zip vs) m x=_
  unfold bindL;exact yP (i:=i) (Cu.mp nd).2 (by simpa using h1) (by simpa using h2) hk
theorem yW {kindOf:Str->Option NameKind}{x:Str}{v:Value}:∀ {P:List Str} {vs:List Value} {i:Nat} {m:Str->Option Value},P.Nodup->P[i]?=some x->vs[i]?=some v->kindOf x≠some .local ->
 bindC kindOf (P.zip vs) m x=some v
 | [],_,_,_,_,h,_,_=>by simp at h
 | _ :: _,[],_,_,_,_,h,_=>by simp at h
 | p :: P,w :: vs,0,m,nd,h1,h2,hk=>by
  simp at h1 h2;subst h1;subst h2
  show bindC kindOf ((p,w) :: P.zip vs) m p=_
  unfold bindC;rw[yR fun v hv=>(Cu.mp nd).1 (Ft hv).1,if_neg hk];simp
 | p :: P,w :: vs,i+1,m,nd,h1,h2,hk=>by
  show bindC kindOf ((p,w) :: P.zip vs) m x=_
  unfold bindC;exact yW (i:=i) (Cu.mp nd).2 (by simpa using h1) (by simpa using h2) hk
def start (N:List Str)(vs:List V):St:=vs.map some++Dw (N.length-vs.length) none
def wU (CX:CXT)(P:Program)(w:World)(K:PySem.W.Frag)(mg:Str->Option Value)(base:Heap)(N:List Str)(qual:Str)(scope:Scope)(f:Addr)(cd:Value)(A:Around)(outer:List Env)(s:Shared)(H:Hp)(E:XK):Cx where
 prog:=P
 w:=w
 K:=K
 mg:=mg
 base:=base
 A:=A.deeper (envOfC qual scope s.heap.objs.size f cd)
 N:=N
 s₀:=s
 H₀:=H
 env:=envOfC qual scope s.heap.objs.size f cd
 outer:=outer
 stack:=envOfC qual scope s.heap.objs.size f cd :: outer
 ex:=[]
 calm:=true
 fn:=fun _=>true
 pn:=[]
 xe:=fun e s'=>wpAny (model P w) (A.deeper (envOfC qual scope s.heap.objs.size f cd)) (leaving (envOfC qual scope s.heap.objs.size f cd) e) (fun _ s''=>CX outer H s E e s'') (fun e' s''=>CX outer H s E e' s'') s'
theorem aCf {sc:Scope}{n:Nat}{x:Str}(h:sc.names.lookup x=some .cell):∃ c,(cellsFrom n sc.names []).lookup x=some c:=by
 have q:=Ei sc.names n [] (.inl h);exact Ez.mp q
theorem aG6 {CX:CXT}{P:Program}{w:World}{K:PySem.W.Frag}{mg:Str->Option Value}{base:Heap}{N ps:List Str}{qual:Str}{scope:Scope}{f:Addr}{cd:Value}{A:Around}{outer:List Env}{s s1:Shared}{H:Hp}{E:XK}{us:List Value}{vs:List V}
 (S:FnScope N ps scope) (hd:A.handled=none) (e0:Env0 P w K mg base A outer s H) (hl:vs.length=ps.length) (r:bU vs us)
 (x:InCallC s s.heap.objs.size (bindL (envOfC qual scope s.heap.objs.size f cd).kindOf (ps.zip us) fun _=>none) (cellsFrom (s.heap.objs.size+1) scope.names []) (bindC (envOfC qual scope s.heap.objs.size f cd).kindOf (ps.zip us) fun _=>none) s1) :
 Inv (wU CX P w K mg base N qual scope f cd A outer s H E) [] (start N vs) H s1:=by
 have hpl:ps.length<=N.length:=by have:=congrArg Fp S.pre;rw[Ca]at this;omega
 obtain⟨h1,tk,rfl,hk⟩:=x.done;have noA:∀ b:Addr,b∉(wU CX P w K mg base N qual scope f cd A outer s H E).ex:=fun b z=>absurd (show b∈([]:List Addr) from z) (by simp)
 refine⟨⟨e0.mod,S.kind,rfl,rfl,Af _,fun y z c h1 h2=>?_,fun y hy=>?_,fun y c _ h=>?_,fun _=>hd,Around.frames_deeper e0.frames,.inr ⟨rfl,rfl⟩,fun b z=>absurd z (noA b),e0.bs,e0.bsz,fun b _ _=>noA b,fun b z=>absurd z (noA b),e0.funs,e0.frf⟩,
  rfl,e0.bare,Un.kept hk,⟨_,x.toInCall.ns,fun i y v h1 h2 h3=>?_⟩,fun y c h=>⟨_,x.cell y c h⟩,e0.hok.fresh (Af _),fun y c h=>?_,fun p hp=>absurd (show p∈([]:List (Addr×Obj)) from hp) (by simp),e0.hok.kept hk,?_⟩
 · exact name_of_addr x.apart (PySem.mem_of_lookup h1) (PySem.mem_of_lookup h2)
 · have hy:scope.names.lookup y=some .cell\/scope.names.lookup y=some .free:=hy
   rcases hy with hy | hy
   · exact aCf hy
   · exact absurd rfl (S.nofree _ (PySem.mem_of_lookup hy))
 · exact Eh (x.above y c (PySem.mem_of_lookup h))
 · have hi:i<vs.length:=by
    unfold start at h2;by_cases hi:i<vs.length
    · exact hi
    · rw[Cn (by simpa using hi)]at h2
      rw[Ee]at h2;split at h2<;>cases h2
   have ha:vs[i]?=some v:=by
    unfold start at h2;rw[By (by simpa using hi),Aw]at h2
    cases e:vs[i]? with
    | none=>rw[e]at h2;cases h2
    | some a=>rw[e]at h2;cases h2;rfl
   obtain⟨u,hu,rv⟩:=r.get ha
   have hp:ps[i]?=some y:=by
    rw[←S.pre,List.getElem?_take_of_lt (by omega)];exact h1
   have ndP:ps.Nodup:=by rw[←S.pre];exact S.nd.sublist (List.take_sublist _ _)
   refine⟨u,rv,?_⟩
   rcases S.par y (Er hp) with k | k
   · exact .inl ⟨k,yP ndP hp hu k⟩
   · obtain⟨c,e⟩:=aCf (n:=s.heap.objs.size+1) k
     refine .inr ⟨.inl k,c,e,?_⟩
     have q:=x.cell y c e;rw[yW ndP hp hu (by show scope.names.lookup y≠_;rw[k];decide)]at q
     exact q
 · exact e0.hok.fresh (Eh (x.above y c (PySem.mem_of_lookup h)))
 · unfold start
   show _=N.length
   rw[Ai,Ac,El];omega
theorem aV2 {CX:CXT}{P:Program}{w:World}{K:PySem.W.Frag}{mg:Str->Option Value}{base:Heap}{k:Nat}{f:Addr}{name qual:Str}{params:Arguments}{body:List Stmt}{scope:Scope}{dV kV doc pm cdv ct oc:Value}{an od:Option Addr}
 {osl:Array (Option Value)} {N ps:List Str} {sp:Sp} (lk:K.lookup f=some ⟨oc,od,.func (Dt name qual params body scope dV kV doc pm an cdv ct),osl⟩) (hcd:Fh K cdv qual=true) (S:FnScope N ps scope)
 (len:∀ vs H Q E,sp vs H Q E->vs.length=ps.length)
 (hbody:∀ (A:Around) (outer:List Env) (s:Shared) (H:Hp) (vs:List V) (Q:VK) (E:XK),Room k (A.deeper (envOfC qual scope s.heap.objs.size f cdv))->sp vs H Q E ->
  ∃ t,PSs (wU CX P w K mg base N qual scope f cdv A outer s H E) body t/\t { nx:=fun _ H'=>Q .non H',rt:=Q } (start N vs) H) :
 FnOk P w K mg base CX (k+1) f (Dt name qual params body scope dV kV doc pm an cdv ct) ps sp:=by
 refine⟨len,fun A outer s H args us vs Q E hr e0 hb r hsp=>?_⟩
 have hl:=len _ _ _ _ hsp;have KX:K.In s.heap:=e0.mod.kin.keeps fun b o e=>(e0.bs b o e).1;have lim:s.heap.NoLimit:=e0.mod.nolimit.keeps fun b o e=>(e0.bs b o e).1
 have hkind:∀ y∈ps.zip us,scope.names.lookup y.1=some .local\/(scope.names.lookup y.1=some .cell/\((cellsFrom (s.heap.objs.size+1) scope.names []).lookup y.1).isSome=true):=fun⟨n,v⟩ hy=>by
  rcases S.par n (Ft hy).1 with q | q
  · exact .inl q
  · exact .inr ⟨q,Ei _ _ _ (.inl q)⟩
 refine codeAny_call_function hr.depth (KX _ _ lk) rfl S.co S.gen rfl (PySem.W.codeRec_of KX hcd) (hb _ _ _ _ ?_)
 refine wpAny_newFunctionEnv_cells S.kind hkind fun env he s1 x=>?_
 subst he;refine⟨lim.keeps x.toInCall.keep,codeAny_func ?_⟩
 obtain⟨t,ht,hq⟩:=hbody A outer s H vs Q E (hr.deeper _) hsp;have I:Inv (wU CX P w K mg base N qual scope f cdv A outer s H E) [] (start N vs) H s1:=aG6 S hr.hd e0 hl r x;refine wpAny_mono (ht [] s1 (start N vs) H _ I hq) (fun fl s' hs=>?_) fun e s' hs=>hs
 have fin:∀ {σ':St} {H':Hp} {v:V} {u:Value},Inv (wU CX P w K mg base N qual scope f cdv A outer s H E) [] σ' H' s'->bZ v u->Q v H'->CE outer P w H s Q u s' :=
  fun {σ' H' v u} J rv q=>⟨v,H',J.os,J.bare,J.base,J.hok,rv,q⟩
 cases fl with
 | ret u =>
  obtain⟨v,σ',H',J,rv,q⟩:=hs;exact fin J rv q
 | next =>
  obtain⟨σ',H',J,q⟩:=hs;exact fin (v:=V.non) (u:=Value.none) J rfl q
 | brk =>
  obtain⟨_,_,_,q⟩:=hs;exact False.elim q
 | cont =>
  obtain⟨_,_,_,q⟩:=hs;exact False.elim q
end L2
namespace L2
open PySem PySem.Spec PyProof.Rows
section
variable {X:Cx}{x:Str}{p pos:Pos}{e:Expr}{es:List Expr}{t:TA}{id T:String}{r:List V->Hp->VK->Prop}
def tCB (r:List V->Hp->VK->Prop)(t:TA):TE:=fun σ H Q=>t σ H fun vs H1=>r vs H1 Q
theorem kG (hc:kI X (.builtin id) r)(hg:Gl X x)(hm:X.mg x=none)(hv:bootBuiltins x=some (.builtin id))(ha:PA X (e :: es) t)(hn:x ≠ "__name__":=by decide)(hdb:(x==("__debug__":Str))=false:=by decide)
 (he:starEach (e :: es) X.env=(false,eval e X.env) :: starEach es X.env:=by rfl) (hpl:(backTo pos (starEach es X.env)).any (·.1)=false:=by rfl):PE X (.Call (.Name x p) (e :: es) [] pos) (tCB r t):=by
 intro pins s σ H Q I h;refine wpAny_Call_Name_kw (oD I hg hm hv ?_ hn hdb)
 exact PyProof.Rows.callWith_builtin1 (thn (ha pos pins s σ H _ I h) fun us s1 ⟨vs,H1,I1,r1,q1⟩=>hc pins s1 σ H1 vs us Q I1 r1 q1) he hpl
theorem iP (hc:kI X (.type T) r)(hg:Gl X x)(hm:X.mg x=none)(hv:bootBuiltins x=some (.type T))(ha:PA X (e :: es) t)(hn:x ≠ "__name__":=by decide)(hdb:(x==("__debug__":Str))=false:=by decide)
 (he:starEach (e :: es) X.env=(false,eval e X.env) :: starEach es X.env:=by rfl) (hpl:(backTo pos (starEach es X.env)).any (·.1)=false:=by rfl):PE X (.Call (.Name x p) (e :: es) [] pos) (tCB r t):=by
 intro pins s σ H Q I h;refine wpAny_Call_Name_kw (oD I hg hm hv ?_ hn hdb)
 exact Ce (thn (ha pos pins s σ H _ I h) fun us s1 ⟨vs,H1,I1,r1,q1⟩=>hc pins s1 σ H1 vs us Q I1 r1 q1) he hpl
end
end L2
namespace HT
open PySem PyProof.Rows
def lT:List Int->List Int->Bool
 | [],[]=>false
 | [],_ :: _=>true
 | _ :: _,[]=>false
 | x :: xs,y :: ys=>if x=y then lT xs ys else decide (x<y)
theorem aD7 (x y:Int)(xs ys:List Int):lT (x :: xs) (y :: ys)=if x=y then lT xs ys else decide (x<y):=rfl
theorem xY:lT [] []=false:=rfl
theorem wW (y:Int)(ys:List Int):lT [] (y :: ys)=true:=rfl
theorem xA (x:Int)(xs:List Int):lT (x :: xs) []=false:=rfl
theorem aJw (A:Around)(s:Shared)(a:Int)(t:Tok)(c:Int)(u:Tok):∃ e,SeqAt.EqAt A s (.int a t) (.int c u) e/\(e=true↔a=c) :=
 ⟨(a==c),SeqAt.EqAt.int_int a t c u,by simp⟩
theorem aLe (A:Around)(s:Shared)(a:Int)(t:Tok)(c:Int)(u:Tok)(prog:Program)(w:World)(E:Value->Shared->Prop)(Q:Value->Shared->Prop)(h:Q (.bool (decide (a<c))) s) :
 wpAny (model prog w) A (richCompare .Lt (.int a t) (.int c u)) Q E s :=
 (Fx h:wpAny (model prog w) A (compareOp .Lt (.int a t) (.int c u)) Q E s)
section
open PySem.SeqAt
open PySem.AutoSeq1 (wpAny_loadPart')
open PySem.MeetsSeq PySem.MeetsSeq2 PySem.MeetsSeq3
theorem xW (l b:Addr)(items items2:Array Value)(n n2:Nat)(dd dd2:Option Addr)(sl sl2:Array (Option Value))(ns ms:List Int)(hi:IntsAre items.toList ns)(hj:IntsAre items2.toList ms) :
 Meets (Builtin.«tuple.__lt__» ⟨[.ref l,.ref b],[]⟩)
  (fun _ R s=>s.heap.get? l=some { cls:=.type "tuple",dict:=dd,data:=.seq items n,slots:=sl }/\s.heap.get? b=some { cls:=.type "tuple",dict:=dd2,data:=.seq items2 n2,slots:=sl2 } /\
   R (.ok (.ret (.bool (lT ns ms)))) s) :=
 .of_wp fun prog w A R s h=>by
  obtain⟨hp,g,d,tk,os⟩:=s;obtain⟨hl,hb,h⟩:=h;have f2:=AutoSeq1.sub_tuple_tuple;have z1:items.size=ns.length:=by rw[←hi.length];simp
  have z2:items2.size=ms.length:=by rw[←hj.length];simp
  wp_walk using wpAny_loadPart' hl,wpAny_loadPart' hb,wpAny_forIn_list _ (fun rest b s'=>b.1=none/\s'=⟨hp,g,d,tk,os⟩/\∃ (vs ws:List Value) (ns' ms':List Int),rest=vs.zip ws /\
   IntsAre vs ns'/\IntsAre ws ms'/\ns'.length+items2.size=ms'.length+items.size/\R (.ok (.ret (.bool (lT ns' ms')))) ⟨hp,g,d,tk,os⟩) _
  case turn =>
   rintro⟨y,x⟩ rest b s' ⟨hb',rfl,vs,ws,ns',ms',hz,hvi,hwi,hlen,hR⟩
   cases hvi with
   | nil=>rw[List.zip_nil_left]at hz;cases hz
   | cons a t hvi' =>
    cases hwi with
    | nil=>rw[List.zip_nil_right]at hz;cases hz
    | cons c u hwi' =>
     rw[Fd]at hz;injection hz with hyx hrest
     injection hyx with hy hx
     subst hy hx;rw[aD7]at hR;simp only[As]at hlen;obtain⟨e,he,hiff⟩:=aJw A.in1 ⟨hp,g,d,tk,os⟩ a t c u;refine wpAny_bind (he prog w _ _ ?_)
     cases e with
     | true =>
      rw[if_pos (hiff.mp rfl)]at hR;wp_walk
      exact⟨rfl,rfl,_,_,_,_,hrest,hvi',hwi',by omega,hR⟩
     | false =>
      rw[if_neg (fun q=>absurd (hiff.mpr q) Bn)]at hR;have hri:=aLe A.in1 ⟨hp,g,d,tk,os⟩ a t c u prog w;wp_walk using hri
      exact⟨_,rfl,by simpa using hR⟩
  case fin =>
   rintro⟨b1,b2⟩ s' ⟨hb',rfl,vs,ws,ns',ms',hz,hvi,hwi,hlen,hR⟩
   simp only at hb';subst hb'
   have hv:lT ns' ms'=decide (items.size<items2.size):=by
    cases hvi with
    | nil =>
     cases hwi with
     | nil =>
      simp only[Bp]at hlen;rw[xY];exact(decide_eq_false (by omega)).symm
     | cons c u hw =>
      simp only[Bp,As]at hlen;rw[wW];exact(decide_eq_true (by omega)).symm
    | cons a t hv =>
     cases hwi with
     | nil =>
      simp only[Bp,As]at hlen;rw[xA];exact(decide_eq_false (by omega)).symm
     | cons c u hw =>
      rw[Fd]at hz;cases hz
   rw[hv]at hR;wp_walk
   exact⟨_,rfl,by simpa[Builtin.Tuple.tupleCompareSizes] using hR⟩
  case h =>
   exact⟨rfl,rfl,items.toList,items2.toList,ns,ms,rfl,hi,hj,by omega,h⟩
end
section
variable {prog:Program}{w:World}{A:Around}{E:Value->Shared->Prop}{s:Shared}
theorem aD4 {l b:Addr}{items items2:Array Value}{ns ms:List Int}{Q:Value->Shared->Prop}(hl:IsTup s.heap l items)(hb:IsTup s.heap b items2)(hi:IntsAre items.toList ns)(hj:IntsAre items2.toList ms)
 (hu:A.units<cLine) (h:Q (.bool (lT ns ms)) s):wpAny (model prog w) A (compareOp .Lt (.ref l) (.ref b)) Q E s:=by
 obtain⟨⟨cls,dd,data,sl⟩,ho,hc,n,hd⟩:=id hl;obtain⟨⟨cls2,dd2,data2,sl2⟩,ho2,hc2,n2,hd2⟩:=id hb;simp only at hc hd hc2 hd2;subst hc hd hc2 hd2
 exact richCompare_meets_room (op:=.Lt) ⟨_,ho,rfl⟩ ⟨_,ho2,rfl⟩ PySem.F.slot_tuple_lt PySem.F.entry_tuple_lt (PySem.F.args_tuple_lt_2 _ _) (xW l b items items2 n n2 dd dd2 sl sl2 ns ms hi hj)
  ⟨ho,ho2,show Value.bool (lT ns ms)≠Value.notImplemented/\Q (.bool (lT ns ms)) s from ⟨(fun x=>nomatch x),h⟩⟩ hu
theorem aP6 {t b:Addr}{vs ws:List Value}{Q:Value->Shared->Prop}(ht:IsTup s.heap t vs.toArray)(hb:IsTup s.heap b ws.toArray)(hv:vs≠[])
 (h1:ws=[]->Q (.ref t) s) (h2:ws≠[]->Q (.ref s.heap.objs.size) { s with heap:=s.heap.push { cls:=.type "tuple",data:=.seq (vs++ws).toArray } })
 (hsz:vs.length+ws.length<=sizeLine):wpAny (model prog w) A (binaryOp .Add (.ref t) (.ref b)) Q E s:=by
 obtain⟨⟨cls,dd,data,sl⟩,ho,hc,n,hd⟩:=id ht;obtain⟨⟨cls2,dd2,data2,sl2⟩,ho2,hc2,n2,hd2⟩:=id hb;simp only at hc hd hc2 hd2;subst hc hd hc2 hd2;have e:vs.toArray++ws.toArray=(vs++ws).toArray:=by simp
 by_cases hw:ws=[]
 · exact concat_meets ⟨_,ho,rfl⟩ ⟨_,ho2,rfl⟩ noFill_tuple_add seq_tuple_add PySem.F.slot_tuple_add PySem.F.entry_tuple_add (PySem.F.args_tuple_add_2 _ _)
    (tuple_addW1 t b vs.toArray ws.toArray n n2 dd dd2 sl sl2 (by simpa using hv) (by simp[hw])) ⟨ho,ho2,h1 hw⟩
 · refine concat_meets ⟨_,ho,rfl⟩ ⟨_,ho2,rfl⟩ noFill_tuple_add seq_tuple_add PySem.F.slot_tuple_add PySem.F.entry_tuple_add (PySem.F.args_tuple_add_2 _ _)
    (tuple_addW2 t b vs.toArray ws.toArray n n2 dd dd2 sl sl2 (by simpa using hv) (by simpa using hw) (by rw[Am,Am];exact hsz)) ⟨ho,ho2,?_⟩
   rw[e];exact h2 hw
def sIx (n d:Nat):Option Int->Nat
 | none=>d
 | some v=>if v<0 then (v+(n:Int)).toNat else min v.toNat n
theorem vL (n d:Nat):sIx n d none=d:=rfl
theorem kY (n d k:Nat):sIx n d (some (k:Int))=min k n:=by
 show (if (k:Int)<0 then ((k:Int)+(n:Int)).toNat else min (k:Int).toNat n)=min k n
 rw[if_neg (by omega),Br]
theorem aSp (n d:Nat)(hd:d<=n)(o:Option Int):sIx n d o<=n:=by
 cases o with
 | none=>exact hd
 | some v =>
  show (if v<0 then (v+(n:Int)).toNat else min v.toNat n)<=n
  by_cases hv:v<0
  · rw[if_pos hv];omega
  · rw[if_neg hv];exact Nat.min_le_right _ _
theorem aFq (v:Int)(n d:Nat):(if v<0 then max (v+(n:Int)) 0 else min v (n:Int))=((sIx n d (some v):Nat):Int):=by
 show (if v<0 then max (v+(n:Int)) 0 else min v (n:Int))=(((if v<0 then (v+(n:Int)).toNat else min v.toNat n):Nat):Int)
 by_cases hv:v<0
 · simp only[if_pos hv];omega
 · simp only[if_neg hv];omega
theorem aEj (lo hi:Option Int)(n:Nat):Builtin.Slice.sliceAdjust lo hi 1 (n:Int)=(((sIx n 0 lo:Nat):Int),((sIx n n hi:Nat):Int)):=by
 have h1:¬ ((1:Int)<0):=by omega
 unfold Builtin.Slice.sliceAdjust;simp only[h1,if_false];refine Prod.ext ?_ ?_
 · cases lo with
   | none=>rfl
   | some v=>exact aFq v n 0
 · cases hi with
   | none=>rfl
   | some v=>exact aFq v n n
theorem aEu (i j:Nat):Builtin.Slice.slicePlaces (i:Int) (j:Int) 1=j-i:=by
 unfold Builtin.Slice.slicePlaces;have h1:(1:Int)>0:=by omega
 simp only[h1,if_true,Int.ediv_one];split<;>omega
theorem wS {v:Value}{o:Option Int}{Q:Option Int->Shared->Prop}(p:IsPart v o)(h:Q o s):wpAny (model prog w) A (Builtin.Slice.slicePartIndex v) Q E s:=by
 cases p with
 | none=>exact slicePart_none h
 | int i t=>exact slicePart_int h
theorem mL {sl:Addr}{vl vu:Value}{lo hi:Option Int}{n:Nat}{Q:Int×Int×Nat->Shared->Prop}(hs:s.heap.IsSliceOf sl vl vu .none)(pl:IsPart vl lo)(pu:IsPart vu hi)
 (h:Q (((sIx n 0 lo:Nat):Int),1,sIx n n hi-sIx n 0 lo) s):wpAny (model prog w) A (Builtin.Slice.sliceApplied (.ref sl) (pure (n:Int))) Q E s:=by
 obtain⟨os,hos,hcs,hds⟩:=id hs;unfold Builtin.Slice.sliceApplied Builtin.Slice.sliceFields;refine wpAny_bind (wpAny_bind (wpAny_field hos hds (x:=vl) rfl (wpAny_bind (wpAny_field hos hds (x:=vu) rfl (wpAny_bind (wpAny_field hos hds (x:=.none) rfl (wpAny_pure ?_)))))))
 refine wpAny_bind (slicePart_none ?_)
 show wpAny _ _ (if ((1:Int)==0)=true then _ else _) _ _ s
 rw[if_neg (by decide)]
 refine wpAny_bind (wS pl (wpAny_bind (wS pu (wpAny_bind (wpAny_pure ?_)))))
 show wpAny _ _ (match Builtin.Slice.sliceAdjust lo hi 1 (n:Int) with | (lo,hi)=>pure (lo,(1:Int),Builtin.Slice.slicePlaces lo hi 1)) _ _ s
 rw[aEj lo hi n];show wpAny _ _ (pure (((sIx n 0 lo:Nat):Int),(1:Int),Builtin.Slice.slicePlaces ((sIx n 0 lo:Nat):Int) ((sIx n n hi:Nat):Int) 1)) _ _ s
 rw[aEu];exact wpAny_pure h
theorem aLu (xs:Array Value)(i k:Nat):((Ao k).filterMap fun (m:Nat)=>xs[((i:Int)+(m:Int)*1).toNat]?).toArray=((xs.toList.drop i).take k).toArray:=by
 have e:(fun (m:Nat)=>xs[((i:Int)+(m:Int)*1).toNat]?)=fun m=>xs[i+m]?:=by
  funext m
  have:((i:Int)+(m:Int)*1).toNat=i+m:=by omega
  rw[this]
 rw[e];have:=pick_run xs i k
 rw[List.filterMap_map]at this;have e2:((fun x=>xs[x]?)∘fun x=>i+x)=fun m=>xs[i+m]?:=rfl;rw[e2]at this;rw[this]
theorem qK {t sl:Addr}{items:Array Value}{vl vu:Value}{lo hi:Option Int}{Q:Value->Shared->Prop}(ht:IsTup s.heap t items)(hs:s.heap.IsSliceOf sl vl vu .none)(pl:IsPart vl lo)(pu:IsPart vu hi)
 (hw:¬ (sIx items.size 0 lo=0/\sIx items.size items.size hi=items.size))
 (h:Q (.ref s.heap.objs.size) { s with heap:=s.heap.push { cls:=.type "tuple",data:=.seq ((items.toList.drop (sIx items.size 0 lo)).take (sIx items.size items.size hi-sIx items.size 0 lo)).toArray } })
 (hsz:items.size<=sizeLine):wpAny (model prog w) A (getItem (.ref t) (.ref sl)) Q E s:=by
 have htake:sizeOk (.seq ((items.toList.drop (sIx items.size 0 lo)).take (sIx items.size items.size hi-sIx items.size 0 lo)).toArray):=by
  show ((items.toList.drop (sIx items.size 0 lo)).take (sIx items.size items.size hi-sIx items.size 0 lo)).toArray.size<=sizeLine
  rw[Am,Ca,Di,Array.length_toList];omega
 have hj:sIx items.size items.size hi<=items.size:=aSp _ _ (Af _) hi;obtain⟨os,hos,hcs,hds⟩:=id hs;have hTs:s.TypeIs (.ref sl) "slice":=⟨os,hos,hcs⟩;unfold getItem;try with_reducible refine wpAny_holding ?_
 first | refine wpAny_bind (wpAny_pure ?_) | skip
 refine wpAny_bind (wpAny_sequenceKey ht.typeIs (by decide) ?_)
 refine wpAny_bind (wpAny_callSpecial?_slot (name:=Str.ofString "__getitem__") ht.typeIs Cf
  (wpAny_call_entry Cf ht.typeIs entry_tuple_getitem ?_ (args_tuple_getitem _ _)))
 show wpAny _ _ (Builtin.Tuple.tupleItemsOf (.ref t) >>= _) _ _ s
 refine wpAny_bind (tupleItemsOf_ ht ?_)
 refine wpAny_bind (wpAny_typeOf hTs ?_)
 rw[if_pos (by decide)]
 refine wpAny_bind (mL hs pl pu ?_)
 have hno:¬ ((((sIx items.size 0 lo:Nat):Int)==0&&(1:Int)==1&&(sIx items.size items.size hi-sIx items.size 0 lo)==items.size)=true):=by
  intro q;rw[Cm,Cm]at q;have q1:((sIx items.size 0 lo:Nat):Int)=0:=eq_of_beq q.1.1;have q2:sIx items.size items.size hi-sIx items.size 0 lo=items.size:=eq_of_beq q.2;exact hw ⟨by omega,by omega⟩
 show wpAny _ _ (if (((sIx items.size 0 lo:Nat):Int)==0&&(1:Int)==1&&(sIx items.size items.size hi-sIx items.size 0 lo)==items.size)=true then _ else _) _ _ s
 rw[if_neg hno,aLu]
 first
  | exact wpAny_bind (m:=Builtin.Tuple.tupleExact _) (wpAny_newObj_type (wpAny_pure ⟨_,rfl,wpAny_pure h⟩) htake)
  | exact wpAny_bind (m:=Builtin.Tuple.tupleExact _) (wpAny_newObj_type (wpAny_bind (wpAny_pure (wpAny_pure ⟨_,rfl,wpAny_pure h⟩))) htake)
  | exact wpAny_bind (wpAny_bind (m:=Builtin.Tuple.tupleExact _) (wpAny_newObj_type (wpAny_pure (wpAny_pure ⟨_,rfl,wpAny_pure h⟩)) htake))
  | exact wpAny_bind (wpAny_bind (m:=Builtin.Tuple.tupleExact _) (wpAny_newObj_type (wpAny_pure ⟨_,rfl,wpAny_pure h⟩) htake))
end
end HT
namespace L2
open PySem PySem.Spec PyProof.Rows
abbrev TO:=St->Hp->(Option Int->Hp->Prop)->Prop
def PO (X:Cx)(e:Option Expr)(t:TO):Prop :=
 ∀ (pins:List (Addr×Obj)) (s:Shared) (σ:St) (H:Hp) (Q:Option Int->Hp->Prop),Inv X pins σ H s->t σ H Q ->
  wpAny (model X.prog X.w) X.A (evalPart e X.env) (fun u s'=>∃ o H',Inv X pins σ H' s'/\IsPart u o/\Q o H') X.xe s
def aNf:TO:=fun _ H Q=>Q none H
def aV1 (t:TE):TO:=fun σ H Q=>t σ H fun x H1=>∃ i,x=.int i/\Q (some i) H1
theorem aEd {ns:List Int}:∀ {us:List Value},bU (ns.map V.int) us->IntsAre us ns:=by
 induction ns with
 | nil=>intro us r;rw[Gc]at r;cases r;exact .nil
 | cons n ns ih =>
  intro us r;rw[Ap]at r;cases r with
  | cons r1 r2 =>
   obtain⟨t,e⟩:=r1;subst e;exact .cons n t (ih r2)
section
variable {X:Cx}{e:Expr}{te:TE}{lo hi:Option Expr}{tl th:TO}{pos p2:Pos}
theorem aPo:PO X none aNf:=by
 intro pins s σ H Q I h;rw[evalPart_none];exact wpAny_pure ⟨none,H,I,.none,h⟩
theorem aOw (h:PE X e te):PO X (some e) (aV1 te):=by
 intro pins s σ H Q I hw;rw[evalPart_some];refine thn (h pins s σ H _ I hw) fun u s1 ⟨x,H1,I1,r1,q1⟩=>?_
 obtain⟨i,rfl,q⟩:=q1;obtain⟨t,rfl⟩:=r1;exact⟨some i,H1,I1,.int i t,q⟩
def SlR (X:Cx)(r:V->Option Int->Option Int->Hp->VK->Prop):Prop :=
 ∀ (pins:List (Addr×Obj)) (s:Shared) (σ:St) (H:Hp) (x:V) (v vl vu:Value) (lo hi:Option Int) (sl:Addr) (Q:VK),Inv X pins σ H s->bZ x v->s.heap.IsSliceOf sl vl vu .none->IsPart vl lo->IsPart vu hi->r x lo hi H Q ->
  ∃ T id,typeLookup (.type T) "__getitem__" = pure (some (.builtin id))/\s.TypeIs v T/\wpAny (model X.prog X.w) X.A (getItem v (.ref sl)) (EP X pins σ Q) X.xe s
def tSl (r:V->Option Int->Option Int->Hp->VK->Prop)(te:TE)(tl th:TO):TE:=fun σ H Q=>te σ H fun x H1=>tl σ H1 fun l H2=>th σ H2 fun u H3=>r x l u H3 Q
theorem vC {r:V->Option Int->Option Int->Hp->VK->Prop}(hr:SlR X r)(he:PE X e te)(hl:PO X lo tl)(hu:PO X hi th):PE X (.Subscript e (.Slice lo hi none p2) pos) (tSl r te tl th):=by
 intro pins s σ H Q I h;refine Subscript_ (thn (he pins s σ H _ I h) fun v s1 ⟨x,H1,I1,r1,q1⟩=>?_)
 refine wpAny_Slice (thn (hl pins s1 σ H1 _ I1 q1) fun vl s2 ⟨l,H2,I2,pl,q2⟩=>thn (hu pins s2 σ H2 _ I2 q2) fun vu s3 ⟨u,H3,I3,pu,q3⟩=>?_)
 rw[evalPart_none];refine wpAny_pure ?_
 have I4:Inv X pins σ H3 { s3 with heap:=s3.heap.push { cls:=.type "slice",data:=.fields #[vl,vu,.none] } }:=I3.kept (t':=s3.toks) fun b ob q=>Aa _ q
 obtain⟨T,id,hT,ht,hg⟩:=hr pins { s3 with heap:=s3.heap.push { cls:=.type "slice",data:=.fields #[vl,vu,.none] } } σ H3 x v vl vu l u s3.heap.objs.size Q I4 r1 (Heap.IsSliceOf.new ..) pl pu q3
 show wpAny (model X.prog X.w) X.A (subscriptTail e (.Slice lo hi none p2) v (.ref s3.heap.objs.size)) (EP X pins σ Q) X.xe { s3 with heap:=s3.heap.push { cls:=.type "slice",data:=.fields #[vl,vu,.none] } }
 exact tail_any (ops:=[.ref s3.heap.objs.size,v]) ht hT hg (by with_unfolding_all rfl)
def sA (xs:List V)(lo hi:Option Int):List V:=(xs.drop (HT.sIx xs.length 0 lo)).take (HT.sIx xs.length xs.length hi-HT.sIx xs.length 0 lo)
theorem sX (xs:List V)(lo hi:Option Int):(sA xs lo hi).length<=xs.length:=by
 unfold sA;rw[Ca,Di];omega
def aT2 (K:PySem.W.Frag):V->Option Int->Option Int->Hp->VK->Prop:=fun x lo hi H Q=>∃ a xs,x=.ref a/\SqT K H a xs /\
 ¬ (HT.sIx xs.length 0 lo=0/\HT.sIx xs.length xs.length hi=xs.length)/\∀ p,H p=none->Q (.ref p) (upd H p (.tup (sA xs lo hi)))
theorem aJh:SlR X (aT2 X.K):=by
 intro pins s σ H x v vl vu lo hi sl Q I rx hs pl pu h;obtain⟨a,xs,rfl,hx,hw,q⟩:=h;cases rx;obtain⟨its,r,ht,hz⟩:=I.tuple hx;have hlen:its.toArray.size=xs.length:=by rw[Am];exact r.length.symm
 refine⟨"tuple",_,Cf.lookup,ht.typeIs,?_⟩
 refine HT.qK ht hs pl pu (by rw[hlen];exact hw) ?_ (by rw[hlen];exact hz)
 rw[hlen];refine⟨.ref s.heap.objs.size,_,I.laid (t':=s.toks) (o:=.tup (sA xs lo hi)) (fun b ob q=>Aa _ q) (Af _) ?_,rfl,q _ (I.hok.fresh (Af _))⟩
 exact⟨Ah (sX xs lo hi) hz,_,(r.drop (HT.sIx xs.length 0 lo)).take (HT.sIx xs.length xs.length hi-HT.sIx xs.length 0 lo),IsTup.new _ _⟩
def aVk (K:PySem.W.Frag):R2:=fun x y H Q=>∃ a b xs ys,x=.ref a/\y=.ref b/\SqT K H a xs/\SqT K H b ys/\xs≠[]/\xs.length+ys.length<=sizeLine /\
 (ys=[]->Q (.ref a) H)/\(ys≠[]->∀ p,H p=none->Q (.ref p) (upd H p (.tup (xs++ys))))
theorem bU.nil_iff {xs:List V}{us:List Value}(r:bU xs us):us=[]↔xs=[]:=by
 cases r with
 | nil=>simp
 | cons _ _=>simp
theorem aOh:OpR X (binaryOp .Add) (aVk X.K):=by
 intro pins s σ H x y v u Q I rx ry h;obtain⟨a,b,xs,ys,rfl,rfl,ha,hb,hx,hz,q1,q2⟩:=h;cases rx;cases ry;obtain⟨its,r1,p1,_⟩:=I.tuple ha;obtain⟨its2,r2,p2,_⟩:=I.tuple hb;refine HT.aP6 p1 p2 (fun z=>hx (r1.nil_iff.mp z)) (fun z=>⟨.ref a,H,I,rfl,q1 (r2.nil_iff.mp z)⟩) (fun z=>?_) (by rw[←r1.length,←r2.length];exact hz)
 refine⟨.ref s.heap.objs.size,_,I.laid (t':=s.toks) (o:=.tup (xs++ys)) (fun b ob q=>Aa _ q) (Af _) ?_,rfl,q2 (fun w=>z (r2.nil_iff.mpr w)) _ (I.hok.fresh (Af _))⟩
 exact⟨by rw[Ai];exact hz,_,r1.append r2,IsTup.new _ _⟩
end
end L2
namespace L2
open PySem PySem.Spec PyProof.Rows
def ixN (n:Nat)(i:Int):Option Nat:=if 0<=i then (if i<n then some i.toNat else none) else if -(n:Int)<=i then some (i+n).toNat else none
def atI {α:Type}(xs:List α)(i:Int):Option α:=(ixN xs.length i).bind fun j=>xs[j]?
theorem aM8 {n:Nat}{i:Int}{j:Nat}(h:ixN n i=some j):seqIndex? i n=some j/\j<n/\-(n:Int)<=i/\i<n:=by
 unfold ixN at h;by_cases h0:0<=i
 · rw[if_pos h0]at h
   by_cases h1:i<n
   · rw[if_pos h1]at h
     have e:i.toNat=j:=Db.inj h;exact⟨by rw[seqIndex_of h0 h1,e],by omega,by omega,h1⟩
   · rw[if_neg h1]at h;cases h
 · rw[if_neg h0]at h
   by_cases h1:-(n:Int)<=i
   · rw[if_pos h1]at h
     have e:(i+n).toNat=j:=Db.inj h;exact⟨by rw[seqIndex_neg (by omega) h1,e],by omega,h1,by omega⟩
   · rw[if_neg h1]at h;cases h
theorem aFe {α:Type}{xs:List α}{i:Int}{v:α}(h:atI xs i=some v):∃ j,seqIndex? i xs.length=some j/\xs[j]?=some v/\j<xs.length/\-(xs.length:Int)<=i/\i<xs.length:=by
 unfold atI at h;cases e:ixN xs.length i with
 | none=>rw[e]at h;cases h
 | some j =>
  rw[e]at h;obtain⟨h1,h2,h3,h4⟩:=aM8 e;exact⟨j,h1,h,h2,h3,h4⟩
theorem tW {α:Type}{xs:List α}{j:Nat}{v:α}(h:xs[j]?=some v):atI xs (j:Int)=some v:=by
 have hj:j<xs.length:=(Au.mp h).1
 have e:ixN xs.length (j:Int)=some j:=by
  unfold ixN;rw[if_pos (by omega),if_pos (by omega)];simp
 unfold atI;rw[e];exact h
def aGq (b:Expr):Prop:=∀ o i,subscripted b false o i=operate [o,i] (getItem o i)
def IxR (X:Cx)(r:R2):Prop :=
 ∀ (value slice:Expr) (pins:List (Addr×Obj)) (s:Shared) (σ:St) (H:Hp) (x y:V) (v u:Value) (Q:VK),Inv X pins σ H s->bZ x v->bZ y u->r x y H Q ->
  subscripted slice false v u=operate [v,u] (getItem v u)->wpAny (model X.prog X.w) X.A (subscriptTail value slice v u) (EP X pins σ Q) X.xe s
def MtR (X:Cx)(id:String)(r:V->List V->Hp->VK->Prop):Prop :=
 ∀ (pins:List (Addr×Obj)) (s:Shared) (σ:St) (H:Hp) (x:V) (xs:List V) (v:Value) (us:List Value) (Q:VK),Inv X pins σ H s->bZ x v->bU xs us->r x xs H Q ->
  wpAny (model X.prog X.w) X.A (call (.builtin id) (v :: us)) (EP X pins σ Q) X.xe s
section
variable {X:Cx}{a b:Expr}{ta tb:TE}{pos:Pos}
theorem aVd {r:R2}(hr:IxR X r)(ha:PE X a ta)(hb:PE X b tb)(hs:aGq b):PE X (.Subscript a b pos) (tOp r ta tb):=by
 intro pins s σ H Q I h;exact Subscript_ (aSj ha hb I h fun v u s2 x y H2 I2 rx ry q=>hr a b pins s2 σ H2 x y v u Q I2 rx ry q (hs _ _))
def aN1 (K:PySem.W.Frag):R2:=fun x y H Q=>∃ p xs i v,x=.ref p/\y=.int i/\SqL K H p xs/\atI xs i=some v/\Q v H
def aNj (K:PySem.W.Frag):R2:=fun x y H Q=>∃ p xs i v,x=.ref p/\y=.int i/\SqT K H p xs/\atI xs i=some v/\Q v H
theorem aPk:IxR X (aN1 X.K):=by
 intro value slice pins s σ H x y v u Q I rx ry h hs;obtain⟨p,xs,i,z,rfl,rfl,hq,he,q⟩:=h;cases rx;obtain⟨t,rfl⟩:=ry;obtain⟨its,r,pl,hz⟩:=I.list hq;obtain⟨j,h1,h2,h3,h4,h5⟩:=aFe he;obtain⟨w,ew,rw'⟩:=r.get h2;have hl:=r.length;have hn:=aEe;have fin:EP X pins σ Q w s:=⟨z,H,I,rw',q⟩;by_cases h0:0<=i
 · have hj:i.toNat=j:=by
    rw[seqIndex_of h0 h5]at h1;exact Db.inj h1
   exact item_listR pl.isList h0 (by omega) (by rw[hj];simpa using ew) fin hs
 · have hj:(i+(its.toArray.size:Int)).toNat=j:=by
    rw[seqIndex_neg (by omega) h4]at h1
    rw[Am,←hl];exact Db.inj h1
   exact subscriptTail_builtinR (x:=w) pl.isList.typeIs slot_list_getitem.lookup
    (wpAny_getItem_list_neg (Q:=fun r s'=>r=w/\EP X pins σ Q r s') pl.isList (by omega) (by rw[Am]<;>omega) (by omega) (by rw[hj];simpa using ew) ⟨rfl,fin⟩) hs
theorem aTl:IxR X (aNj X.K):=by
 intro value slice pins s σ H x y v u Q I rx ry h hs;obtain⟨p,xs,i,z,rfl,rfl,hq,he,q⟩:=h;cases rx;obtain⟨t,rfl⟩:=ry;obtain⟨its,r,pl,hz⟩:=I.tuple hq;obtain⟨j,h1,h2,h3,h4,h5⟩:=aFe he;obtain⟨w,ew,rw'⟩:=r.get h2;have hl:=r.length;have hn:=aEe;have fin:EP X pins σ Q w s:=⟨z,H,I,rw',q⟩
 exact subscriptTail_builtinR (x:=w) pl.typeIs slot_tuple_getitem.lookup
  (getItem_tuple (j:=j) (Q:=fun r s'=>r=w/\EP X pins σ Q r s') pl (by omega) (by omega) (by rw[Am,←hl];exact h1) (by simpa using ew) ⟨rfl,fin⟩) hs
theorem aAh (lo hi:Option Int)(n:Nat):(sliceBounds lo hi none n).1=((HT.sIx n 0 lo:Nat):Int)/\(sliceBounds lo hi none n).2.1=((HT.sIx n n hi:Nat):Int)/\(sliceBounds lo hi none n).2.2=1:=by
 refine⟨?_,?_,rfl⟩
 · cases lo with
   | none=>simp[sliceBounds,HT.sIx]
   | some i =>
    simp only[sliceBounds,HT.sIx,Option.getD_none,show (1:Int)>0 by decide,if_true]
    by_cases h:i<0
    · simp only[h,if_true]<;>omega
    · simp only[h,if_false]<;>omega
 · cases hi with
   | none=>simp[sliceBounds,HT.sIx]
   | some i =>
    simp only[sliceBounds,HT.sIx,Option.getD_none,show (1:Int)>0 by decide,if_true]
    by_cases h:i<0
    · simp only[h,if_true]<;>omega
    · simp only[h,if_false]<;>omega
theorem xS (its:List Value)(lo hi:Option Int):slicePick its.toArray lo hi none=((its.drop (HT.sIx its.length 0 lo)).take (HT.sIx its.length its.length hi-HT.sIx its.length 0 lo)).toArray:=by
 obtain⟨h1,h2,h3⟩:=aAh lo hi its.toArray.size;unfold slicePick;rw[h1,h2,h3];simp only[sliceRange_one,pick_run,Am]<;>rfl
def aU0 (K:PySem.W.Frag):V->Option Int->Option Int->Hp->VK->Prop:=fun x lo hi H Q=>∃ a xs,x=.ref a/\SqL K H a xs/\∀ p,H p=none->Q (.ref p) (upd H p (.lst (sA xs lo hi)))
theorem aNh:SlR X (aU0 X.K):=by
 intro pins s σ H x v vl vu lo hi sl Q I rx hs pl pu h;obtain⟨a,xs,rfl,hx,q⟩:=h;cases rx;obtain⟨its,r,ht,hz⟩:=I.list hx;have hlen:=r.length;refine⟨"list",_,slot_list_getitem.lookup,ht.isList.typeIs,?_⟩
 refine wpAny_getItem_list_slice ht.isList hs pl pu .none (by simp) ?_ (by rw[Am]<;>omega)
 rw[xS,←hlen];refine⟨.ref s.heap.objs.size,_,I.laid (t':=s.toks) (o:=.lst (sA xs lo hi)) (fun b ob q=>Aa _ q) (Af _) ?_,rfl,q _ (I.hok.fresh (Af _))⟩
 exact⟨Ah (sX xs lo hi) hz,_,0,(r.drop (HT.sIx xs.length 0 lo)).take (HT.sIx xs.length xs.length hi-HT.sIx xs.length 0 lo),Ag _ rfl⟩
def qF:V->Bool
 | .non=>true
 | .bl _=>true
 | .int _=>true
 | .str _=>true
 | _=>false
def eqV:V->V->Bool
 | .non,.non=>true
 | .bl a,.bl b=>a==b
 | .bl a,.int b=>(if a then 1 else 0)==b
 | .int a,.bl b=>a==(if b then 1 else 0)
 | .int a,.int b=>a==b
 | .str a,.str b=>a==b
 | _,_=>false
theorem aRq {A:Around}{s:Shared}{y x:V}{u v:Value}(ry:bZ y u)(rx:bZ x v)(fy:qF y=true)(fx:qF x=true):SeqAt.EqAt A s u v (eqV y x):=by
 cases y with
 | non =>
  cases ry;cases x with
  | non=>cases rx;exact SeqAt.EqAt.same _
  | bl b=>cases rx;exact SeqAt.EqAt.none_bool b
  | int b=>obtain⟨t,rfl⟩:=rx;exact SeqAt.EqAt.none_int b t
  | str b=>obtain⟨t,rfl⟩:=rx;exact SeqAt.EqAt.none_str b t
  | _=>exact absurd (show false=true from fx) Bn
 | bl a =>
  cases ry;cases x with
  | non=>cases rx;exact SeqAt.EqAt.bool_none a
  | bl b=>cases rx;exact SeqAt.EqAt.bool_bool a b
  | int b=>obtain⟨t,rfl⟩:=rx;exact SeqAt.EqAt.bool_int a b t
  | str b=>obtain⟨t,rfl⟩:=rx;exact SeqAt.EqAt.bool_str a b t
  | _=>exact absurd (show false=true from fx) Bn
 | int a =>
  obtain⟨t',rfl⟩:=ry;cases x with
  | non=>cases rx;exact SeqAt.EqAt.int_none a t'
  | bl b=>cases rx;exact SeqAt.EqAt.int_bool a t' b
  | int b=>obtain⟨t,rfl⟩:=rx;exact SeqAt.EqAt.int_int a t' b t
  | str b=>obtain⟨t,rfl⟩:=rx;exact SeqAt.EqAt.int_str a t' b t
  | _=>exact absurd (show false=true from fx) Bn
 | str a =>
  obtain⟨t',rfl⟩:=ry;cases x with
  | non=>cases rx;exact SeqAt.EqAt.str_none a t'
  | bl b=>cases rx;exact SeqAt.EqAt.str_bool a t' b
  | int b=>obtain⟨t,rfl⟩:=rx;exact SeqAt.EqAt.str_int a t' b t
  | str b=>obtain⟨t,rfl⟩:=rx;exact SeqAt.EqAt.str_str a t' b t
  | _=>exact absurd (show false=true from fx) Bn
 | _=>exact absurd (show false=true from fy) Bn
def eqU (x:V)(u:Value):Bool:=match u with
 | .none=>eqV .non x
 | .bool b=>eqV (.bl b) x
 | .int i _=>eqV (.int i) x
 | .str z _=>eqV (.str z) x
 | _=>false
theorem aMm {x y:V}{u:Value}(r:bZ y u)(f:qF y=true):eqU x u=eqV y x:=by
 cases y with
 | non=>cases r;rfl
 | bl b=>cases r;rfl
 | int i=>obtain⟨t,rfl⟩:=r;rfl
 | str z=>obtain⟨t,rfl⟩:=r;rfl
 | _=>exact absurd (show false=true from f) Bn
theorem aAt {x:V}:∀ {xs:List V} {us:List Value},bU xs us->xs.all qF=true->us.any (eqU x)=xs.any fun y=>eqV y x
 | _,_,.nil,_=>rfl
 | y :: xs,u :: us,.cons r t,f=>by
  rw[List.all_cons,Cm]at f;rw[Fo,Fo,aMm r f.1,aAt t f.2]
theorem uW {A:Around}{s:Shared}{x:V}{v:Value}(rx:bZ x v)(fx:qF x=true):∀ {xs:List V} {us:List Value},bU xs us->xs.all qF=true->∀ u∈us,SeqAt.EqAt A s u v (eqU x u)
 | _,_,.nil,_=>fun u hu=>by cases hu
 | y :: xs,u :: us,.cons r t,f=>fun u' hu=>by
  rw[List.all_cons,Cm]at f;rcases An.mp hu with rfl | hu
  · rw[aMm r f.1];exact aRq r rx f.1 fx
  · exact uW rx fx t f.2 u' hu
def inV (x:V)(xs:List V):Bool:=xs.any fun y=>eqV y x
def rIn (K:PySem.W.Frag)(neg:Bool):R2:=fun x y H Q=>∃ p xs,y=.ref p/\(SqL K H p xs\/SqT K H p xs)/\qF x=true/\xs.all qF=true/\Q (.bl (if neg then !inV x xs else inV x xs)) H
theorem zT:OpR X (compareOp .NotIn) (rIn X.K true):=by
 intro pins s σ H x y v u Q I rx ry h;obtain⟨p,xs,rfl,hq,fx,fs,q⟩:=h;cases ry;rcases hq with hq | hq
 · obtain⟨its,r,pl,hz⟩:=I.list hq
   refine SeqAt.notIn_listAt (eqU x) pl.isList (fun w hw=>uW rx fx r fs w (by simpa using hw)) ⟨.bl _,H,I,rfl,?_⟩
   rw[show its.toArray.any (eqU x)=its.any (eqU x) by simp,aAt r fs]
   exact q
 · obtain⟨its,r,pl,hz⟩:=I.tuple hq
   refine SeqAt.notIn_tupleAt (eqU x) pl (fun w hw=>uW rx fx r fs w (by simpa using hw)) ⟨.bl _,H,I,rfl,?_⟩
   rw[show its.toArray.any (eqU x)=its.any (eqU x) by simp,aAt r fs]
   exact q
theorem aA0:kI X (.builtin "len") (fun xs H Q=>∃ p ys,xs=[.ref p]/\(SqL X.K H p ys\/SqT X.K H p ys)/\Q (.int ys.length) H):=by
 intro pins s σ H xs us Q I r h;obtain⟨p,ys,rfl,hq,q⟩:=h;obtain⟨u,rfl,rx⟩:=kE r;cases rx;have hn:=aEe;rcases hq with hq | hq
 · obtain⟨its,r',pl,hz⟩:=I.list hq
   have hlen:=r'.length;exact Calls.call_len_list pl.isList (by simp only[Am]<;>omega) ⟨.int ys.length,H,I.tok _,⟨s.toks+1,by rw[Am,hlen]⟩,q⟩
 · obtain⟨its,r',pl,hz⟩:=I.tuple hq
   have hlen:=r'.length;exact len_tuple pl (by simp only[Am]<;>omega) ⟨.int ys.length,H,I.tok _,⟨s.toks+1,by rw[Am,hlen]⟩,q⟩
theorem xO:kI X (.type "tuple") (fun xs H Q=>∃ p ys,xs=[.ref p]/\((SqL X.K H p ys/\∀ l,H l=none->Q (.ref l) (upd H l (.tup ys)))\/(SqT X.K H p ys/\Q (.ref p) H))):=by
 intro pins s σ H xs us Q I r h;obtain⟨p,ys,rfl,h⟩:=h;obtain⟨u,rfl,rx⟩:=kE r;cases rx;rcases h with ⟨hq,q⟩ | ⟨hq,q⟩
 · obtain⟨its,r',pl,hz⟩:=I.list hq
   have hlen:=r'.length;refine call_tuple_list pl.isList (fun h' kp=>?_) (by simp only[Am]<;>omega)
   have I1:Inv X pins σ H { s with heap:=h' }:=I.kept (t':=s.toks) kp
   have I2:Inv X pins σ (upd H h'.objs.size (.tup ys)) { s with heap:=h'.push { cls:=.type "tuple",data:=.seq its.toArray } } :=
    I1.laid (t':=s.toks) (fun b o e=>Aa _ e) (Af _) (show dD X.prog X.w _ _ _ (.tup ys) from ⟨hz,its,r',IsTup.new _ _⟩)
   exact⟨.ref h'.objs.size,_,I2,rfl,q _ (I1.hok.fresh (Af _))⟩
 · obtain⟨its,r',pl,hz⟩:=I.tuple hq
   exact call_tuple_same pl ⟨.ref p,H,I,rfl,q⟩
def tyV (K:PySem.W.Frag)(T:String)(x:V)(H:Hp):Prop:=match x with
 | .str _=>T = "str"
 | .int _=>T = "int"
 | .ref p=>(T = "list"/\∃ xs,SqL K H p xs)\/(T = "tuple"/\∃ o,K.lookup p=some o/\o.cls=.type "tuple"/\o.dict=none) \/
  (T = "dict"/\((∃ kvs,H p=some (.dK kvs))\/∃ kvs,H p=some (.dT kvs)))\/(T = "set"/\∃ S n,H p=some (.set S n))
 | _=>False
theorem aTa {pins:List (Addr×Obj)}{σ:St}{H:Hp}{s:Shared}{T:String}{x:V}{v:Value}(I:Inv X pins σ H s)(r:bZ x v)(ty:tyV X.K T x H) :
 s.TypeIs v T/\∀ a,v=.ref a->∃ ob,s.heap.get? a=some ob/\ob.dict=none:=by
 cases x with
 | str z =>
  obtain⟨t,rfl⟩:=r;cases (show T = "str" from ty)
  exact⟨typeIs_str s z t,fun _ e=>nomatch e⟩
 | int i =>
  obtain⟨t,rfl⟩:=r;cases (show T = "int" from ty)
  exact⟨typeIs_int s i t,fun _ e=>nomatch e⟩
 | ref p =>
  cases r;rcases ty with ⟨rfl,xs,hq⟩ | ⟨rfl,o,hk,hc,hd⟩ | ⟨rfl,hk⟩ | ⟨rfl,S,n,hk⟩
  · obtain⟨its,_,pl,_⟩:=I.list hq
    refine⟨pl.isList.typeIs,fun a e=>?_⟩
    cases e;obtain⟨o,n,e,c,hd,_⟩:=pl;exact⟨o,e,hd⟩
  · refine⟨⟨o,I.kIn p o hk,hc⟩,fun a e=>?_⟩
    cases e;exact⟨o,I.kIn _ o hk,hd⟩
  · have z:∃ o,s.heap.get? p=some o/\o.ExactDict:=by
     rcases hk with ⟨kvs,hk⟩ | ⟨kvs,hk⟩
     · obtain⟨_,_,_,_,o,_,_,e,ex,_⟩:=I.hok p _ hk
       exact⟨o,e,ex⟩
     · obtain⟨_,_,_,_,o,_,_,e,ex,_⟩:=I.hok p _ hk
       exact⟨o,e,ex⟩
    obtain⟨o,e,ex⟩:=z;refine⟨⟨o,e,ex.1⟩,fun a e2=>?_⟩
    cases e2;exact⟨o,e,ex.2.1⟩
  · obtain⟨o,_,_,_,e,ex,_⟩:=I.hok p _ hk
    refine⟨⟨o,e,ex.1⟩,fun a e2=>?_⟩
    cases e2;exact⟨o,e,ex.2.1⟩
 | _=>exact False.elim ty
def tBM (K:PySem.W.Frag)(T:String)(r:V->List V->Hp->VK->Prop)(to:TE)(t:TA):TE:=fun σ H Q=>to σ H fun x H1=>tyV K T x H1/\t σ H1 fun xs H2=>r x xs H2 Q
variable {o e:Expr}{es:List Expr}{to:TE}{t:TA}{name:Str}{apos cpos:Pos}{T id:String}{r:V->List V->Hp->VK->Prop}
theorem aFz (pa:PlainAttrs T)(slot:Slot T name id)(hty:typeOf (.builtin id)=pure (.type "method_descriptor"))(hm:MtR X id r)(ho:PE X o to)(ha:PA X (e :: es) t)
 (hbase:attributeBase o name X.env (eval o X.env)=eval o X.env:=by rfl)
 (hfew:((backTo cpos (starEach (e :: es) X.env)).all (fun x=>!x.1)&&(backToKw cpos (keywordEach [] X.env)).all (fun x=>x.1.isSome)
  && decide ((e :: es).length+([]:List Keyword).length+(if ([]:List Keyword).isEmpty then 0 else 1)<30))=true:=by rfl)
 (hline:(apos.endLine==cpos.line)=true:=by rfl) (hs:starEach (e :: es) X.env=(false,eval e X.env) :: starEach es X.env:=by rfl) (hplain:(backTo cpos (starEach es X.env)).any (·.1)=false:=by rfl) :
 PE X (.Call (.Attribute o name apos) (e :: es) [] cpos) (tBM X.K T r to t):=by
 intro pins s σ H Q I h;refine wpAny_Call_method_late hbase hfew hline rfl (thn (ho pins s σ H _ I h) fun v s1 ⟨x,H1,I1,r1,ty,q1⟩=>?_)
 obtain⟨h1,h2⟩:=aTa I1 r1 ty;refine⟨T,id,pa,slot,hty,h1,h2,?_⟩
 have hA:=ha cpos pins s1 σ H1 _ I1 q1;rw[hs]at hA ⊢;refine Calls.callWith_builtin (by show (false||(backTo cpos (starEach es X.env)).any (·.1))=false;rw[hplain]<;>rfl) (Calls.evalArgs_plain ?_)
 exact thn hA fun us s2 ⟨vs,H2,I2,r2,q2⟩=>hm pins s2 σ H2 x vs v us Q I2 r1 r2 q2
end
end L2
namespace L2
open PySem PySem.Spec PyProof.Rows
def MtM (X:Cx)(id:String)(r:V->List V->Hp->VK->Prop):Prop :=
 ∀ (pins:List (Addr×Obj)) (s:Shared) (σ:St) (H:Hp) (x:V) (xs:List V) (v:Value) (us:List Value) (Q:VK),Inv X pins σ H s->bZ x v->bU xs us->r x xs H Q ->
  wpAny (model X.prog X.w) X.A (call (.builtin id) (v :: us)) (EP X pins σ Q) X.xe s
theorem bU.one:∀ {x:V} {us:List Value},bU [x] us->∃ u,us=[u]/\bZ x u
 | _,_,.cons r .nil=>⟨_,rfl,r⟩
theorem bU.two:∀ {x y:V} {us:List Value},bU [x,y] us->∃ u v,us=[u,v]/\bZ x u/\bZ y v
 | _,_,_,.cons r (.cons q .nil)=>⟨_,_,rfl,r,q⟩
theorem bU.zero:∀ {us:List Value},bU [] us->us=[]
 | _,.nil=>rfl
theorem bU.eraseIdx:∀ {xs:List V} {us:List Value} (i:Nat),bU xs us->bU (xs.eraseIdx i) (us.eraseIdx i)
 | _,_,_,.nil=>.nil
 | _,_,0,.cons _ t=>t
 | _,_,i+1,.cons r t=>.cons r (bU.eraseIdx i t)
theorem zA {α:Type}:∀ (l:List α) (i:Nat),(l.eraseIdx i).length<=l.length
 | [],_=>Af _
 | _ :: _,0=>Nat.le_succ _
 | _ :: r,i+1=>Nat.succ_le_succ (zA r i)
section
variable {X:Cx}{pins:List (Addr×Obj)}{σ:St}{H:Hp}{s:Shared}{l b:Addr}{xs ys zs:List V}
theorem Inv.lset {its its':List Value}{n:Nat}{f:Array Value->Array Value}{t':Nat}(I:Inv X pins σ H s)(hH:H l=some (.lst xs))
 (e:s.heap.get? l=some { cls:=.type "list",data:=.seq its.toArray n }) (hf:f its.toArray=its'.toArray) (hv:bU ys its') (hz:ys.length<=sizeLine) :
 Inv X pins σ (upd H l (.lst ys)) { s with heap:=s.heap.update l (Obj.mapSeq f),toks:=t' }:=by
 have q:=PySem.IsL.update e f;rw[hf]at q;refine I.write (x:=l) (e:=l) (by rw[hH];exact trivial) (.inl rfl) (fun b' u hb hu=>(Cs s.heap (Obj.mapSeq f) (Ne.symm hb)).trans hu) ⟨_,q⟩ ?_
 exact⟨hz,its',_,hv,q⟩
theorem Inv.lnew {its:List Value}{t':Nat}(I:Inv X pins σ H s)(hv:bU ys its)(hz:ys.length<=sizeLine) :
 Inv X pins σ (upd H s.heap.objs.size (.lst ys)) { s with heap:=s.heap.push { cls:=.type "list",data:=.seq its.toArray },toks:=t' } :=
 I.laid (fun _ _ q=>Aa _ q) (Af _) ⟨hz,its,0,hv,Ag _ rfl⟩
theorem Inv.fresh (I:Inv X pins σ H s):H s.heap.objs.size=none:=I.hok.fresh (Af _)
theorem Inv.lstM (I:Inv X pins σ H s)(hH:H l=some (.lst xs)):xs.length<=sizeLine/\∃ (its:List Value) (n:Nat),bU xs its/\xs.length=its.length/\s.heap.get? l=some { cls:=.type "list",data:=.seq its.toArray n }:=by
 obtain⟨z,its,n,r,e⟩:=I.hok l _ hH;exact⟨z,its,n,r,r.length,e⟩
theorem aK3 {n:Nat}(h:n<=sizeLine):Builtin.List.listTooLong n=false:=by
 unfold Builtin.List.listTooLong;exact decide_eq_false (by omega)
end
section
variable {X:Cx}
def aP7:V->List V->Hp->VK->Prop:=fun x vs H Q=>∃ l xs y,x=.ref l/\vs=[y]/\H l=some (.lst xs)/\xs.length<sizeLine/\Q .non (upd H l (.lst (xs++[y])))
theorem sE:MtM X "list.append" aP7:=by
 intro pins s σ H x vs v us Q I rx rv h;obtain⟨l,xs,y,rfl,rfl,hH,hz,q⟩:=h;cases rx;obtain⟨u,rfl,ru⟩:=rv.one;obtain⟨z,its,n,r,hl,e⟩:=I.lstM hH;refine call_meets F.slot_list_append ⟨_,e,rfl⟩ F.entry_list_append (F.args_list_append_2 _ _) (PySem.list_append l its.toArray n u (by rw[Am];omega)) ⟨e,?_⟩
 refine⟨.non,_,I.lset (its':=its++[u]) hH e (by simp) (r.append (.cons ru .nil)) ?_,rfl,q⟩
 rw[Ai,Bl];omega
def aNs:V->List V->Hp->VK->Prop:=fun x vs H Q=>∃ l b xs zs,x=.ref l/\vs=[.ref b]/\H l=some (.lst xs)/\H b=some (.lst zs)/\xs.length+zs.length<=sizeLine/\Q .non (upd H l (.lst (xs++zs)))
theorem aHx:MtM X "list.extend" aNs:=by
 intro pins s σ H x vs v us Q I rx rv h;obtain⟨l,b,xs,zs,rfl,rfl,hH,hB,hz,q⟩:=h;cases rx;obtain⟨u,rfl,ru⟩:=rv.one;cases ru;obtain⟨z,its,n,r,hl,e⟩:=I.lstM hH;obtain⟨z2,its2,n2,r2,hl2,e2⟩:=I.lstM hB;have hsz:its.toArray.size+its2.toArray.size<=sizeLine:=by rw[Am,Am];omega
 have hlong:¬ (!its.toArray.isEmpty&&Builtin.List.listTooLong (its.toArray.size+its2.toArray.size))=true:=by
  rw[aK3 hsz,Bool.and_false];exact Bn
 refine call_meets F.slot_list_extend ⟨_,e,rfl⟩ F.entry_list_extend (F.args_list_extend_2 _ _)
  (AutoSeq1.list_extend_list_list_0 l its.toArray n b its2.toArray n2 hlong (by rw[Am];omega) (by omega)) ⟨e,e2,?_⟩
 refine⟨.non,_,I.lset (its':=its++its2) hH e (by simp) (r.append r2) ?_,rfl,q⟩
 rw[Ai];omega
def aRh:V->List V->Hp->VK->Prop:=fun x vs H Q=>∃ l xs i k y,x=.ref l/\vs=[.int i]/\H l=some (.lst xs)/\-(2^63)<=i/\i<2^63/\seqIndex? i xs.length=some k/\xs[k]?=some y/\Q y (upd H l (.lst (xs.eraseIdx k)))
theorem aLa:MtM X "list.pop" aRh:=by
 intro pins s σ H x vs v us Q I rx rv h;obtain⟨l,xs,i,k,y,rfl,rfl,hH,h1,h2,hk,hy,q⟩:=h;cases rx;obtain⟨u,rfl,ru⟩:=rv.one;obtain⟨t,rfl⟩:=ru;obtain⟨z,its,n,r,hl,e⟩:=I.lstM hH;obtain⟨w,hw,rw'⟩:=r.get hy
 refine call_meets F.slot_list_pop ⟨_,e,rfl⟩ F.entry_list_pop (F.args_list_pop_2 _ _)
  (MeetsSeq.list_pop_at l its.toArray n i t k w (fitsIndex_both h1 h2) (by rw[Am,←hl];exact hk) (by rw[←Array.getElem?_toList];exact hw) (by rw[Am];omega)) ⟨e,?_⟩
 refine⟨y,_,I.lset (its':=its.eraseIdx k) hH e ?_ (r.eraseIdx k) ?_,rw',q⟩
 · show its.toArray.eraseIdxIfInBounds k=(its.eraseIdx k).toArray
   rw[List.eraseIdxIfInBounds_toArray]
 · have:=zA xs k
   omega
end
end L2
namespace Att
open PySem PySem.W PySem.Calls PyProof.Rows
theorem tN {P:Params}{h:Heap}:∀ (ns:List Int) (vs:List Value),WellAll P h vs (ns.map WData.int)->IntsAre vs ns:=by
 intro ns;induction ns with
 | nil =>
  intro vs w;rw[Gc]at w;cases w;exact .nil
 | cons n ns ih =>
  intro vs w;rw[Ap]at w;cases w with
  | cons a b =>
   cases a;exact .cons _ _ (ih _ b)
theorem aIr {l:OpenLaw}{n:Nat}(hn:l.most=some n){P:Params}{h:Heap}{args:List WData}{vals:List Value}
 (hpre:l.row.toRowW.claim.pre args=true) (hwl:WellAll P h vals args) :
 ∃ a vs ns,vals=[Value.ref a]/\args=[WData.list (ns.map WData.int)]/\h.get? a=some { cls:=.type "list",data:=.seq vs.toArray }/\IntsAre vs ns/\ns.length<=n:=by
 have hsh:WShape.hasAll [] args [.list .int]=true:=(pre_splitW hpre).1;have hc:l.pre.holds [] { args:=args }=true:=(pre_splitW hpre).2;obtain⟨d,r,rfl,h1,h2⟩:=hasAllW_cons hsh;obtain rfl:=hasAllW_nil h2;obtain⟨xs,rfl,h3⟩:=hasW_list h1;obtain⟨ns,rfl⟩:=items_int h3
 have hlen:ns.length<=n:=by
  unfold OpenLaw.pre at hc
  have h4:(WTm.not (.lt (.lit (.int (n:Int))) (.len (.arg 0)))).holds [] { args:=[.list (ns.map .int)] }=true:=by
   have h4:=(holds_andW hc).1;rw[hn]at h4;exact h4
  have h5:=condW_of h4 (w_not (w_lt w_lit (w_len_list (w_arg rfl))));rw[Ac]at h5;refine Gm fun q=>?_
  have q':(n:Int)<((ns.length:Nat):Int):=by omega
  first
   | (rw[decide_eq_true q']at h5;exact absurd h5 (by decide))
   | (simp at h5;omega)
 cases hwl with
 | cons w1 w2 =>
  cases w2;cases w1 with
  | list ho hall=>exact⟨_,_,ns,rfl,rfl,ho,tN ns _ hall,hlen⟩
theorem aIi (l:OpenLaw)(args:List WData):l.row.toRowW.claim.post args (.bool true) args=true :=
 postW_of (r:=l.row.toRowW) (X:=(true==true))
  (show WShape.has [] (.bool true) .bool=true by first | rfl | decide | simp[WShape.has,WShape.arms,WShape.armsAll])
  (show (WTm.eq .res (.lit (.bool true))).value [] { args:=args,res:=some (.bool true),after:=args }=some (.bool (true==true)) from w_eq_bool (w_res rfl) w_lit) rfl
theorem aC1 {l:OpenLaw}{n:Nat}{q:Program}{loose:List Str}{XP:(Str->Option Value)->Heap->Prop}{YP:World->Heap->Prop}{d:DefRec}
 (hn:l.most=some n) (hdf:d.params.defaults=[])
 (call:∀ (w:World) (s₀ s₁:Shared) (mg mb:Str->Option Value) (fa:Addr) (o:Obj) (pm cd doc:Value) (a:Addr) (vs:List Value) (ns:List Int),
  Ground q loose [] XP w s₀ mg mb s₁.heap->YP w s₁.heap ->
  s₁.heap.get? fa=some o->o.data=.func (docDef d.name d.params d.body d.scope pm cd doc)->s₁.heap.CodeRec cd d.name->mg d.name=some (.ref fa) ->
  s₁.heap.get? a=some { cls:=.type "list",data:=.seq vs.toArray }->IntsAre vs ns->ns.length<=n->s₁.gens=#[] ->
  codeAny (model l.prog w) callerA (.call (.ref fa) ⟨[.ref a],[]⟩) (fun r s'=>r=.ok (.ret (.bool true))/\OldK s₁.heap s'.heap/\s'.os=s₁.os/\AllBare s'.gens) s₁) :
 WalkO q loose XP YP l.row.toRowW d [] (fun f vs=>PySem.call f vs):=by
 intro w s₀ s₁ mg mb G Y fa o pm cd doc dV kV ho hd hcd hD hmg hg args vals as hpre hlay hrd hwl hlo;obtain rfl:dV=.none:=Dflts.none hD hdf;obtain rfl:kV=.none:=Dflts.noKw hD;obtain⟨a,vs,ns,rfl,rfl,hobj,hints,hlen⟩:=aIr hn hpre hwl;refine enter_call (codeAny_mono (call w s₀ s₁ mg mb fa o pm cd doc a vs ns G Y ho (fd_plain hd) hcd hmg hobj hints hlen hg) fun r s' hq=>?_)
 obtain⟨rfl,h2,h3,h4⟩:=hq;exact⟨.inl ⟨.bool true,.bool true,[],rfl,fun _=>rfl,.bool true,aIi l _,fun _=>⟨Dg,fun _ hm=>(nomatch hm)⟩⟩,h2,h3,h4⟩
end Att
namespace L2
open PySem PySem.Spec PyProof.Rows
theorem zK:∀ {vs:List Value} {ns:List Int},IntsAre vs ns->bU (ns.map V.int) vs
 | _,_,.nil=>.nil
 | _,_,.cons n t h=>.cons ⟨t,rfl⟩ (zK h)
def aTi (H:Hp):Prop:=∀ b,H b=none\/∃ o xs,H b=some (.frz o (.lst xs))
theorem aKo {P:Program}{w:World}{K:PySem.W.Frag}{mg mb:Str->Option Value}{CX:CXT}{k:Nat}{fa a:Addr}{fd:FuncData}{x:Str}{sp:Sp}{s₁:Shared}{vs:List Value}{ns:List Int}
 (KX:K.In s₁.heap) (hns:s₁.heap.Ns mainGlobals mg) (hb:s₁.heap.Ns builtinsNs mb) (hbb:∀ x:Str,x ≠ "__name__"->mb x=bootBuiltins x) (hlim:s₁.heap.NoLimit) (hg:s₁.gens=#[])
 (ha:s₁.heap.get? a=some { cls:=.type "list",data:=.seq vs.toArray }) (hi:IntsAre vs ns) (hl:ns.length<=sizeLine) (hr:Room k callerA)
 (F:∀ base:Heap,K.In base->base.Ns mainGlobals mg->FnOk P w K mg base CX k fa fd [x] sp) (hbind:∀ (s:Shared) (u:Value),BindsTo s fd ⟨[u],[]⟩ [(x,u)])
 (hsp:∀ H:Hp,aTi H->SqL K H a (ns.map V.int)->sp [.ref a] H (fun v _=>v=.bl true) fun _ _ _=>False)
 (hCX:∀ H e s',CX [] H s₁ (fun _ _ _=>False) e s'->False) :
 codeAny (model P w) callerA (.call (.ref fa) ⟨[.ref a],[]⟩) (fun r s'=>r=.ok (.ret (.bool true))/\OldK s₁.heap s'.heap/\s'.os=s₁.os/\AllBare s'.gens) s₁:=by
 have rv:=zK hi;have lenV:=hi.length
 have core:∀ H:Hp,aTi H->SqL K H a (ns.map V.int)->HOk P w H s₁.heap->(∀ b,H b≠none->b=a)->(H a≠none->K.lookup a=none) ->
  codeAny (model P w) callerA (.call (.ref fa) ⟨[.ref a],[]⟩) (fun r s'=>r=.ok (.ret (.bool true))/\OldK s₁.heap s'.heap/\s'.os=s₁.os/\AllBare s'.gens) s₁:=by
  intro H hO hS hok hA hK;have base_of:∀ {b:Addr} {o:Obj},s₁.heap.get? b=some o->H b=none->(aA4 s₁.heap H).get? b=some o:=fun e n=>aL8 e n
  have noA:∀ {b:Addr} {o:Obj} {es:Array DictEntry} {ep:Nat},s₁.heap.get? b=some o->o.data=.dict es ep->H b=none:=fun {b o es ep} e d=>by
   cases q:H b with
   | none=>rfl
   | some u =>
    have e':b=a:=hA b (by rw[q];simp)
    subst e';rw[ha]at e;cases e;have d':Data.seq vs.toArray _=Data.dict es ep:=d;cases d'
  have nsK:∀ {b:Addr} {m:Str->Option Value},s₁.heap.Ns b m->(aA4 s₁.heap H).Ns b m:=fun {b m} ⟨o,es,ep,e,d,r⟩=>⟨o,es,ep,base_of e (noA e d),d,r⟩
  have hKb:K.In (aA4 s₁.heap H):=fun b o e=>base_of (KX b o e) (by
   cases q:H b with
   | none=>rfl
   | some u =>
    have e':b=a:=hA b (by rw[q];simp)
    subst e'
    rw[hK (by rw[q];simp)]at e;cases e)
  have hM:Mod K mg (aA4 s₁.heap H):=⟨hKb,nsK hns,⟨mb,nsK hb,hbb⟩,let ⟨mc,h1,h2⟩:=hlim;⟨mc,nsK h1,h2⟩⟩
  have e0:Env0 P w K mg (aA4 s₁.heap H) callerA [] s₁ H:=⟨rfl,hM,fun b o e=>aPv e,Nat.le_of_eq (aHu _ _),trivial,fun b hb=>absurd (show b∈([]:List Addr) from hb) (by simp),hok,.of_eq hg⟩
  refine codeAny_mono ((F _ hKb (nsK hns)).run callerA [] s₁ H ⟨[.ref a],[]⟩ [.ref a] [.ref a] _ _ hr e0 (hbind s₁ (.ref a)) (.cons rfl .nil) (hsp H hO hS)) fun r s' h=>?_
  cases r with
  | error e=>exact(hCX H e s' h).elim
  | ok fl =>
   cases fl with
   | next=>exact False.elim h
   | brk=>exact False.elim h
   | cont=>exact False.elim h
   | ret u =>
    obtain⟨v,H',os,bare,un,hok',r',q⟩:=h;have q':v=.bl true:=q;subst q';obtain rfl:u=Value.bool true:=r';refine⟨rfl,OldK.of_keep fun b o e=>?_,os,bare⟩
    cases q:H b with
    | none=>exact un.keep b o e q (by intro z;exact absurd (show b∈([]:List Addr) from z) (by simp)) (by simp)
    | some u =>
     rcases hO b with z | ⟨ob,xs,z⟩
     · rw[q]at z;cases z
     · have z2:=un.frzs b ob _ z
       obtain⟨e1,_⟩:=hok b _ z;obtain⟨e2,_⟩:=hok' b _ z2;rw[e]at e1;cases e1;exact e2
 cases hk:K.lookup a with
 | some o =>
  have e:=KX a o hk;rw[ha]at e;cases e;refine core (fun _=>none) (fun _=>.inl rfl) (.inr ⟨_,vs.toArray,_,hk,rfl,rfl,rfl,by rw[Am,lenV];exact hl,by simpa using rv⟩) (fun b u z=>by have z':(none:Option HO)=some u:=z;cases z') (fun b z=>absurd rfl z) fun z=>absurd rfl z
 | none =>
  refine core (fun b=>if b=a then some (.frz { cls:=.type "list",data:=.seq vs.toArray } (.lst (ns.map V.int))) else none) (fun b=>?_) (.inl (.inr ⟨{ cls:=.type "list",data:=.seq vs.toArray },if_pos rfl⟩)) (fun b u z=>?_) (fun b z=>?_) fun _=>hk
  · by_cases hb:b=a
    · exact .inr ⟨_,_,if_pos hb⟩
    · exact .inl (if_neg hb)
  · by_cases hb:b=a
    · have z':=(if_pos hb).symm.trans z
      cases z';subst hb;exact⟨ha,by rw[Ac];exact hl,vs,_,rv,ha⟩
    · have z':=(if_neg hb).symm.trans z
      cases z'
  · by_cases hb:b=a
    · exact hb
    · exact absurd (if_neg hb) z
end L2
namespace L2
open PySem PySem.Spec PyProof.Rows
theorem aPw {l:PySem.W.OpenLaw}{n k:Nat}{q:Program}{loose:List Str}{XP:(Str->Option Value)->Heap->Prop}{YP:World->Heap->Prop}{d:DefRec}{K:Params->PySem.W.Frag}{CX:World->CXT}{sp:World->Sp}{x:Str}
 (hn:l.most=some n) (hn2:n<=sizeLine) (hdf:d.params.defaults=[]) (hr:Room k callerA)
 (hY:∀ (w:World) (h:Heap),YP w h->(K w.params).In h)
 (F:∀ (w:World) (mg:Str->Option Value) (fa:Addr) (h:Heap),(K w.params).In h->h.Ns mainGlobals mg->mg d.name=some (.ref fa) ->
  ∃ fd:FuncData,(∀ (s:Shared) (u:Value),BindsTo s fd ⟨[u],[]⟩ [(x,u)]) /\
   ∀ base:Heap,(K w.params).In base->base.Ns mainGlobals mg->FnOk l.prog w (K w.params) mg base (CX w) k fa fd [x] (sp w))
 (hsp:∀ (w:World) (H:Hp) (a:Addr) (ns:List Int),ns.length<=n->aTi H->SqL (K w.params) H a (ns.map V.int)->sp w [.ref a] H (fun v _=>v=.bl true) fun _ _ _=>False)
 (hCX:∀ (w:World) (H:Hp) (s:Shared) (e:Value) (s':Shared),CX w [] H s (fun _ _ _=>False) e s'->False) :
 PySem.W.WalkO q loose XP YP l.row.toRowW d [] (fun f vs=>PySem.call f vs):=by
 refine Att.aC1 hn hdf fun w s₀ s₁ mg mb fa o pm cd doc a vs ns G Y ho hd hcd hmg hobj hints hlen hg=>?_
 have KX:=hY w _ Y;obtain⟨fd,hb,hF⟩:=F w mg fa _ KX G.T.g hmg;exact aKo KX G.T.g G.T.b G.T.builtins G.T.nolimit hg hobj hints (Ah hlen hn2) hr hF hb (fun H hO hS=>hsp w H a ns hlen hO hS) fun H e s'=>hCX w H s₁ e s'
end L2
namespace L2
open PySem PySem.Spec PyProof.Rows
def lB (s:Stmt):Arguments:=match s with
 | .FunctionDef _ a _ _ _ _ _ _ _ _=>a
 | _=>{ posonlyargs:=[],args:=[],vararg:=none,kwonlyargs:=[],kw_defaults:=[],kwarg:=none,defaults:=[] }
def iU (s:Stmt):List Stmt:=match s with
 | .FunctionDef _ _ b _ _ _ _ _ _ _=>b
 | _=>[]
def aT (s:Stmt):Scope:=match s with
 | .FunctionDef _ _ _ _ _ _ sc _ _ _=>sc
 | _=>{ kind:=.function,names:=[],isGenerator:=false,isCoroutine:=false }
structure Fun (K:PySem.W.Frag)(x qual:Str)(st:Stmt)(f:Addr)(fd:FuncData):Prop where
 ex:∃ (oc:Value) (od:Option Addr) (kV doc pm:Value) (an:Option Addr) (cdv ct:Value) (osl:Array (Option Value)),
  fd=Dt x qual (lB st) (iU st) (aT st) .none kV doc pm an cdv ct/\K.lookup f=some ⟨oc,od,.func fd,osl⟩/\Fh K cdv qual=true
 kp:Fg K (.ref f)=true
section
variable {P:Program}{w:World}{K:PySem.W.Frag}{mg:Str->Option Value}{base:Heap}
theorem Fun.binds {x qual:Str}{st:Stmt}{f:Addr}{fd:FuncData}{ps:List Str}(F:Fun K x qual st f fd)
 (h:∀ (kV doc pm:Value) (an:Option Addr) (cdv ct:Value) (us:List Value),us.length=ps.length->bindArgs (Dt x qual (lB st) (iU st) (aT st) .none kV doc pm an cdv ct) ⟨us,[]⟩=pure (ps.zip us)):yY K fd ps []:=by
 obtain⟨oc,od,kV,doc,pm,an,cdv,ct,osl,rfl,lk,hcd⟩:=F.ex;exact .all (h kV doc pm an cdv ct)
theorem aI8 {x qual:Str}{st:Stmt}{f:Addr}{oc:Value}{od an:Option Addr}{osl:Array (Option Value)}{kV doc pm cdv ct:Value}(l:K.lookup f=some ⟨oc,od,.func (Dt x qual (lB st) (iU st) (aT st) .none kV doc pm an cdv ct),osl⟩)
 (c:Fh K cdv qual=true) (k:Fg K (.ref f)=true):Fun K x qual st f (Dt x qual (lB st) (iU st) (aT st) .none kV doc pm an cdv ct):=⟨⟨oc,od,kV,doc,pm,an,cdv,ct,osl,rfl,l,c⟩,k⟩
end
theorem aU7 {A B:Prop}(h:B):if false=true then A else B:=by
 rw[if_neg Bn];exact h
theorem aUl {A B:Prop}(h:A):if true=true then A else B:=by
 rw[if_pos rfl];exact h
def aL (H H':Hp):Prop:=∀ b o,H b=some o->H' b=some o
theorem aL.refl (H:Hp):aL H H:=fun _ _ h=>h
theorem aL.trans {H H1 H2:Hp}(a:aL H H1)(b:aL H1 H2):aL H H2:=fun c o h=>b c o (a c o h)
theorem aL.free {H H':Hp}(e:aL H H'){l:Addr}(h:H' l=Gx):H l=Gx:=by
 cases q:H l with
 | none=>rfl
 | some o =>
  rw[e l o q]at h;cases h
theorem aL.seq {K:PySem.W.Frag}{H H':Hp}{a:Addr}{xs:List V}(e:aL H H')(h:SqL K H a xs):SqL K H' a xs:=by
 rcases h with (h | ⟨o,h⟩) | h
 · exact .inl (.inl (e _ _ h))
 · exact .inl (.inr ⟨o,e _ _ h⟩)
 · exact .inr h
end L2
namespace L2
open PySem PySem.Spec PyProof.Rows
section
variable {pg:Program}{w:World}{A:Around}
abbrev nox:Value->Shared->Prop:=fun _ _=>False
abbrev wpN {α:Type}(pg:Program)(w:World)(A:Around)(t:Sem α)(Q:α->Shared->Prop)(s:Shared):Prop:=wpAny (model pg w) A t Q nox s
def aMw (ifs:List Expr)(env:Env):Sem Bool :=
 forIn ifs true fun c r =>
  if r=true then do
   let ok ← isTrue c env (eval c env)
   pure (ForInStep.yield ok)
  else pure (ForInStep.yield r)
def aM1 (pg:Program)(w:World)(A:Around)(elt tg:Expr)(ifs:List Expr)(it acc:Value)(env:Env)(J:Shared->Prop)(v:Value)(s:Shared):Prop :=
 wpN pg w A (letOwnedTupleGo tg it v) (fun _ sa=>wpN pg w A (assign tg env v) (fun _ sb=>wpN pg w A (aMw ifs env) (fun ok sc =>
  if ok=true then wpN pg w A (eval elt env) (fun x sd=>wpN pg w A (call (.builtin "list.append") [acc,x]) (fun _ se=>J se) sd) sc else J sc) sb) sa) s
theorem mo {α:Type}{t:Sem α}{Q Q':α->Shared->Prop}{E:Value->Shared->Prop}{s:Shared}(h:wpN pg w A t Q s)(k:∀ a s',Q a s'->Q' a s'):wpAny (model pg w) A t Q' E s :=
 wpAny_mono h k (fun _ _ f=>False.elim f)
theorem aAu {elt target iter:Expr}{ifs:List Expr}{scope:Scope}{pos:Pos}{it acc:Value}{env:Env}{R:Result->Shared->Prop}{s₀:Shared}(I:Nat->Shared->Prop)
 (turn:∀ n s,I n s->wpN pg w A (pyNext it) (fun r s₁=>match r with
  | none=>R (.ok .next) s₁
  | some v=>aM1 pg w A elt target ifs it acc env (fun s'=>∃ m,m<n/\I m s') v s₁) s)
 (top:Nat) (start:I top s₀):codeAny (model pg w) A (.compLoop (.ListComp elt [⟨target,iter,ifs,0⟩] scope pos) 0 it acc env) R s₀:=by
 apply codeAny_loop rfl I _ top start
 intro n s hI;apply wpAny_noted
 rw[compTurn_list];refine wpAny_bind (wpAny_standAt (wpAny_bind (mo (turn n s hI) ?_)))
 rintro (_ | v) s₁ goal
 · exact wpAny_pure goal
 · refine wpAny_bind (mo goal fun _ sa ga=>wpAny_bind (mo ga fun _ sb gb=>wpAny_bind (mo gb ?_)))
   rintro (_ | _) sc gc
   · exact wpAny_pure (And.intro rfl gc)
   · refine wpAny_bind (wpAny_bind (mo gc fun x sd gd=>wpAny_bind (mo gd fun _ se ge=>?_)))
     exact wpAny_pure (wpAny_pure (And.intro rfl ge))
end
theorem cX:∀ (names:List (Str×NameKind)) (n:Nat) (acc:List (Str×Addr)),cellsFrom n names acc=cellsFrom n names []++acc
 | [],_,_=>rfl
 | (x,k) :: r,n,acc=>by
  unfold cellsFrom;split
  · rw[cX r (n+1) ((x,n) :: acc),cX r (n+1) [(x,n)],Bv];rfl
  · exact cX r n acc
theorem lL:∀ (names:List (Str×NameKind)) (n:Nat) {x:Str} {c:Addr},(x,c)∈cellsFrom n names []->(x,NameKind.cell)∈names
 | [],_,_,_,h=>by simp[cellsFrom]at h
 | (y,k) :: r,n,x,c,h=>by
  unfold cellsFrom at h;split at h
  · rename_i hk
    rw[cX]at h;have two:=Bf.mp h;rcases two with h | h
    · exact Ad _ (lL r _ h)
    · have e:(x,c)=(y,n):=by simpa using h
      have e2:k=NameKind.cell:=by simpa using hk
      cases e;rw[e2];exact Ab
  · exact Ad _ (lL r n h)
def lN (cells:List (Str×Addr)):List (Str×NameKind)->List (Str×Addr)->List (Str×Addr)
 | [],acc=>acc
 | (n,k) :: r,acc=>lN cells r (if k==.free then ((cells.lookup n).map fun c=>(n,c)).toList++acc else acc)
theorem wM {cells:List (Str×Addr)}:∀ (names:List (Str×NameKind)) (acc:List (Str×Addr)) {x:Str} {c:Addr},(x,c)∈lN cells names acc->(x,c)∈acc\/cells.lookup x=some c
 | [],_,_,_,h=>.inl h
 | (n,k) :: r,acc,x,c,h=>by
  unfold lN at h;rcases wM r _ h with h | h
  · split at h
    · have two:=Bf.mp h
      rcases two with h | h
      · cases e:cells.lookup n with
        | none=>rw[e]at h;simp at h
        | some c' =>
         rw[e]at h;have e2:(x,c)=(n,c'):=by simpa using h
         cases e2;exact .inr e
      · exact .inl h
    · exact .inl h
  · exact .inr h
theorem qJ {cells:List (Str×Addr)}:∀ (names:List (Str×NameKind)) (acc:List (Str×Addr)) {x:Str} {c:Addr},((x,c)∈acc\/((x,NameKind.free)∈names/\cells.lookup x=some c))->(x,c)∈lN cells names acc
 | [],_,_,_,h=>h.elim id fun h=>by simp at h
 | (n,k) :: r,acc,x,c,h=>by
  unfold lN;refine qJ r _ ?_
  rcases h with h | ⟨h,e⟩
  · left
    split
    · exact Az _ h
    · exact h
  · rcases An.mp h with h | h
    · cases h
      left
      rw[if_pos (by rfl),e]
      simp
    · exact .inr ⟨h,e⟩
theorem yD {scope:Scope}{env:Env}(h:∀ y∈scope.names,y.2=.free->∃ c,env.cells.lookup y.1=some c):closureFor scope env=pure (lN env.cells scope.names []):=by
 unfold closureFor
 have go:∀ (names:List (Str×NameKind)) (acc:List (Str×Addr)),(∀ y∈names,y.2=.free->∃ c,env.cells.lookup y.1=some c) ->
  (forIn names acc fun x r=>match x with
   | (name,kind)=>if (kind==NameKind.free)=true then do let a ← cellOf env name;pure (ForInStep.yield ((name,a) :: r)) else pure (ForInStep.yield r):Sem (List (Str×Addr)))=pure (lN env.cells names acc):=by
  intro names;induction names with
  | nil=>intro acc _;rfl
  | cons y r ih =>
   obtain⟨n,k⟩:=y;intro acc hh;rw[List.forIn_cons];unfold lN;by_cases hk:(k==NameKind.free)=true
   · have e2:k=NameKind.free:=by simpa using hk
     obtain⟨c,hc⟩:=hh (n,k) Ab e2;have hcell:cellOf env n=pure c:=by unfold cellOf;rw[hc]
     simp only[hk,if_true,hcell,pure_bind,hc,Fc,Option.toList_some,List.singleton_append];exact ih _ fun y hy=>hh y (Ad _ hy)
   · simp only[hk,if_false,pure_bind]
     exact ih _ fun y hy=>hh y (Ad _ hy)
 have:=go scope.names [] h
 simp only[this,pure_bind]
theorem qB {α:Type}:∀ {l:List (Str×α)} {x:Str} {a:α},(l.map (·.1)).Nodup->(x,a)∈l->l.lookup x=some a
 | (y,b) :: r,x,a,hn,h=>by
  have hn:=Cu.mp (show (y :: r.map (·.1)).Nodup from hn)
  rcases An.mp h with h | h
  · cases h
    simp
  · have hne:x≠y:=fun e=>hn.1 (by rw[←e];exact Ak.mpr ⟨(x,a),h,rfl⟩)
    rw[Bm,beq_false_of_ne hne];exact qB hn.2 h
theorem cL {α:Type}:∀ {l:List (Str×α)} {x:Str},x∈l.map (·.1)->∃ a,l.lookup x=some a
 | (y,b) :: r,x,h=>by
  rw[Bm];cases e:x==y with
  | true=>exact⟨b,rfl⟩
  | false =>
   rw[Ap]at h;rcases An.mp h with h | h
   · rw[h]at e;simp at e
   · exact cL h
def aB2 (scope:Scope)(C:Addr)(env:Env):Env:=compEnvC scope (cellsFrom (C+1) scope.names (lN env.cells scope.names [])) C env
def dI (X:Cx)(scope:Scope)(N:List Str)(fp:List Addr)(s:Shared)(H:Hp):Cx :=
 { X with N:=N,s₀:=s,H₀:=H,env:=aB2 scope s.heap.objs.size X.env,outer:=X.stack,stack:=X.stack,ex:=fp,fn:=fun x=>decide (scope.names.lookup x=some .cell),pn:=[],xe:=fun _ _=>False }
structure CompOk (X:Cx)(scope:Scope)(N:List Str)(k:Nat)(fs:List Nat):Prop where
 kind:scope.kind=.function
 nd:(scope.names.map (·.1)).Nodup
 free:∀ y∈scope.names,y.2=.free->y.1∈X.env.cells.map (·.1)
 len:N.length=k+fs.length
 out:∀ (j i:Nat),fs[j]?=some i->∃ x,N[k+j]?=some x/\X.N[i]?=some x/\scope.names.lookup x=some .free/\(X.env.kindOf x=some .cell\/X.env.kindOf x=some .free)
def gN (k:Nat)(fs:List Nat)(σ:St):St:=Dw k none++fs.map fun i=>(σ[i]?).join
def xN (k:Nat)(g:TG):Prop:=∀ x σ H Q,g x σ H Q->g x σ H fun σ' H'=>Q σ' H'/\σ'.length=σ.length/\∀ i,k<=i->σ'[i]?=σ[i]?
def aBp (k:Nat)(g:TGs):Prop:=∀ x σ H Q,g x σ H Q->g x σ H fun σ' H'=>Q σ' H'/\σ'.length=σ.length/\∀ i,k<=i->σ'[i]?=σ[i]?
theorem aJ9 {k i:Nat}(h:i<k):xN k (aCb i):=fun x σ H Q q=>⟨q,by simp,fun j hj=>by rw[Ax (by omega)]⟩
theorem aI4 {k:Nat}:aBp k aPi:=fun x σ H Q ⟨e,q⟩=>⟨e,q,rfl,fun _ _=>rfl⟩
def aBt (g:TG):Prop:=∀ x σ H Q Q',(∀ σ' H',Q σ' H'->Q' σ' H')->g x σ H Q->g x σ H Q'
def rY (g:TGs):Prop:=∀ x σ H Q Q',(∀ σ' H',Q σ' H'->Q' σ' H')->g x σ H Q->g x σ H Q'
theorem aHn {i:Nat}:aBt (aCb i):=fun _ _ _ _ _ h q=>h _ _ q
theorem aHt:rY aPi:=fun _ _ _ _ _ h ⟨e,q⟩=>⟨e,h _ _ q⟩
theorem aDv {t:TG}{u:TGs}(h1:aBt t)(h2:rY u):rY (aFs t u):=fun x σ H Q Q' h ⟨v,r,e,q⟩=>⟨v,r,e,h1 _ _ _ _ _ (fun σ' H' q'=>h2 _ _ _ _ _ h q') q⟩
theorem aKa {K:PySem.W.Frag}{n:Nat}{u:TGs}(h:rY u):aBt (aNg K n u):=fun x σ H Q Q' hq ⟨a,xs,e,h1,h2,q⟩=>⟨a,xs,e,h1,h2,h _ _ _ _ _ hq q⟩
theorem aHa {k:Nat}{t:TG}{u:TGs}(m1:aBt t)(m2:rY u)(h1:xN k t)(h2:aBp k u):aBp k (aFs t u):=fun x σ H Q ⟨v,r,e,q⟩=>by
 refine⟨v,r,e,?_⟩
 refine m1 _ _ _ _ _ (fun σ' H' q'=>?_) (h1 _ _ _ _ q)
 obtain⟨q1,l1,a1⟩:=q';refine m2 _ _ _ _ _ (fun σ2 H2 q2=>?_) (h2 _ _ _ _ q1)
 obtain⟨q3,l3,a3⟩:=q2;exact⟨q3,l3.trans l1,fun i hi=>(a3 i hi).trans (a1 i hi)⟩
theorem aPn {k n:Nat}{K:PySem.W.Frag}{u:TGs}(h:aBp k u):xN k (aNg K n u):=fun x σ H Q ⟨a,xs,e,h1,h2,q⟩=>⟨a,xs,e,h1,h2,h _ _ _ _ q⟩
section
variable {X:Cx}{pins:List (Addr×Obj)}{σ:St}{H:Hp}{s:Shared}{scope:Scope}{N:List Str}{k:Nat}{fs:List Nat}{fp:List Addr}
theorem CompOk.clos (C:CompOk X scope N k fs):closureFor scope X.env=pure (lN X.env.cells scope.names []):=yD fun y hy hf=>cL (C.free y hy hf)
theorem CompOk.names (C:CompOk X scope N k fs):∀ y∈scope.names,y.2=.local->scope.names.lookup y.1=some .local:=fun y hy e=>qB C.nd (by rw[←e];exact hy)
theorem aCu {cells:List (Str×Addr)}{names:List (Str×NameKind)}{x:Str}{c:Addr}(h:(lN cells names []).lookup x=some c):cells.lookup x=some c :=
 (wM names [] (mem_of_lookup h)).elim (fun z=>by simp at z) id
theorem kC {cells:List (Str×Addr)}{C:Nat}{x:Str}{c:Addr}(h:(cellsFrom (C+1) scope.names (lN cells scope.names [])).lookup x=some c) :
 (x,c)∈cellsFrom (C+1) scope.names []\/cells.lookup x=some c:=by
 rw[cX]at h;rcases Bf.mp (mem_of_lookup h) with z | z
 · exact .inl z
 · exact .inr ((wM _ _ z).elim (fun z=>by simp at z) id)
theorem aA1 {env:Env}{x:Str}:(relabel scope env).names.lookup x=some .cell\/(relabel scope env).names.lookup x=some .free->scope.names.lookup x=some .cell\/scope.names.lookup x=some .free:=by
 unfold relabel;generalize scope.names=names
 induction names with
 | nil=>simp
 | cons y r ih =>
  obtain⟨n,kd⟩:=y;simp only[Ap];by_cases hx:(x==n)=true
  · split
    · rename_i hc
      intro _
      have:(kd==NameKind.free)=true:=by
       have hc:=Dm.mp hc;exact(Dm.mp hc.1).1
      have e:kd=NameKind.free:=by simpa using this
      rw[Bm,hx,e];exact .inr rfl
    · intro h
      simp only[Bm,hx]at h ⊢;exact h
  · have hx':(x==n)=false:=by simpa using hx
    intro h
    have h':(List.lookup x (r.map fun x=>match x with | (n,k)=>if (k==NameKind.free&&env.scope.kind==.function&&env.kindOf n==some .cell)=true then (n,NameKind.cell) else (n,k))=some .cell\/List.lookup x (r.map fun x=>match x with | (n,k)=>if (k==NameKind.free&&env.scope.kind==.function&&env.kindOf n==some .cell)=true then (n,NameKind.cell) else (n,k))=some .free):=by
     split at h<;>simpa only[Bm,hx'] using h
    rw[Bm,hx'];exact ih h'
theorem qP {env:Env}{x:Str}:scope.names.lookup x=some .free->(relabel scope env).names.lookup x=some .cell\/(relabel scope env).names.lookup x=some .free:=by
 unfold relabel;generalize scope.names=names
 induction names with
 | nil=>simp
 | cons y r ih =>
  obtain⟨n,kd⟩:=y;simp only[Ap];intro h;by_cases hx:(x==n)=true
  · rw[Bm,hx]at h
    cases h;split
    · left;rw[Bm,hx]
    · right;rw[Bm,hx]
  · have hx':(x==n)=false:=by simpa using hx
    rw[Bm,hx']at h;have:=ih h
    split<;>simpa only[Bm,hx'] using this
theorem aPh (C:CompOk X scope N k fs)(I:Inv X pins σ H s)(hf:∀ b∈fp,qA X pins H b)(ho:∀ b∈fp,b<s.heap.objs.size):(dI X scope N fp s H).Ok where
 mod:=I.ok.mod
 kind:=C.kind
 glob:=I.ok.glob
 blt:=I.ok.blt
 above:=Af _
 inj:=fun x y c hx hy=>by
  have ok:=cellsFrom_ok scope.names (s.heap.push { cls:=.type "dict",data:=.dict #[] }) (s.heap.objs.size+1) [] ⟨fun _ _ hm=>(nomatch hm),Dg⟩ (by rw[Bw];exact Af _)
  rw[Bw]at ok;have old:∀ z c,X.env.cells.lookup z=some c->c<s.heap.objs.size:=fun z c e=>let ⟨_,q⟩:=I.cell z c e;q.lt
  rcases kC hx with h1 | h1<;>rcases kC hy with h2 | h2
  · exact name_of_addr ok.apart h1 h2
  · exact absurd (old _ _ h2) (Nat.not_lt.mpr (Em (ok.empty _ _ h1).2))
  · exact absurd (old _ _ h1) (Nat.not_lt.mpr (Em (ok.empty _ _ h2).2))
  · exact I.ok.inj x y c h1 h2
 has:=fun x h=>by
  have h':scope.names.lookup x=some .cell\/scope.names.lookup x=some .free:=aA1 h
  have:((cellsFrom (s.heap.objs.size+1) scope.names (lN X.env.cells scope.names [])).lookup x).isSome=true:=by
   refine Ei _ _ _ ?_
   rcases h' with h' | h'
   · exact .inl h'
   · right
     obtain⟨c,hc⟩:=cL (C.free _ (mem_of_lookup h') rfl);have hm:x∈(lN X.env.cells scope.names []).map (·.1):=Ak.mpr ⟨(x,c),qJ _ _ (.inr ⟨mem_of_lookup h',hc⟩),rfl⟩;obtain⟨a,ha⟩:=cL hm;rw[ha];rfl
  exact Ez.mp this
 cab:=fun x c hx hl=>by
  have hx':scope.names.lookup x=some .cell:=of_decide_eq_true hx;have hsome:((cellsFrom (s.heap.objs.size+1) scope.names []).lookup x).isSome=true:=Ei _ _ _ (.inl hx');obtain⟨c',hc'⟩:=Ez.mp hsome;have hl':(cellsFrom (s.heap.objs.size+1) scope.names (lN X.env.cells scope.names [])).lookup x=some c:=hl;rw[cX,List.lookup_append,hc']at hl';cases hl';have ok:=cellsFrom_ok scope.names (s.heap.push { cls:=.type "dict",data:=.dict #[] }) (s.heap.objs.size+1) [] ⟨fun _ _ hm=>(nomatch hm),Dg⟩ (by rw[Bw];exact Af _)
  rw[Bw]at ok;exact Em (ok.empty _ _ (mem_of_lookup hc')).2
 hd:=I.ok.hd
 frames:=I.ok.frames
 stk:=.inl rfl
 exf:=fun b hb=>⟨Ay (ho b hb),fun x c e z=>by
  have ok:=cellsFrom_ok scope.names (s.heap.push { cls:=.type "dict",data:=.dict #[] }) (s.heap.objs.size+1) [] ⟨fun _ _ hm=>(nomatch hm),Dg⟩ (by rw[Bw];exact Af _)
  rw[Bw]at ok;rcases kC (cells:=X.env.cells) e with h1 | h1
  · have h2:=(ok.empty _ _ h1).2
    have h3:=ho b hb;rw[z]at h2;exact Dv _ (Av h3 (Em h2))
  · exact(hf b hb).2.2.2.2.1 x c h1 z⟩
 bs:=I.bs
 bsz:=Ah I.ok.bsz I.sz
 noex:=fun b o e hb=>by
  rcases (hf b hb).2.2.2.1 with z | z
  · exact I.ok.noex b o e z
  · exact absurd (Av (Ae e) (Ah I.ok.bsz z)) (Dv _)
 exfs:=fun b hb z=>by
  rcases An.mp (I.stkSub b z) with e | e
  · exact(hf b hb).2.1 e
  · exact(hf b hb).2.2.1 e
 funs:=I.stack
 frf:=I.stkFree
theorem aDz (σ:St):(gN k fs σ).length=k+fs.length:=by simp[gN]
theorem vQ {σ:St}{i:Nat}{v:V}(h:(gN k fs σ)[i]?=some (some v)):∃ j i',i=k+j/\fs[j]?=some i'/\σ[i']?=some (some v):=by
 unfold gN at h;by_cases hi:i<k
 · rw[By (by simpa using hi),List.getElem?_replicate_of_lt hi]at h
   cases h
 · rw[Cn (by simpa using Gm hi),El,Aw]at h
   cases e:fs[i-k]? with
   | none=>rw[e]at h;cases h
   | some i' =>
    rw[e]at h;refine⟨i-k,i',by omega,e,?_⟩
    have h':(σ[i']?).join=some v:=Db.inj h;cases e2:σ[i']? with
    | none=>rw[e2]at h';cases h'
    | some o =>
     rw[e2]at h';have:o=some v:=h'
     rw[this]
theorem aK7 (C:CompOk X scope N k fs)(I:Inv X pins σ H s)(hf:∀ b∈fp,qA X pins H b)(ho:∀ b∈fp,b<s.heap.objs.size) :
 Inv (dI X scope N fp s H) [] (gN k fs σ) H { s with heap:=pushCells (s.heap.push { cls:=.type "dict",data:=.dict #[] }) scope.names }:=by
 have keep:∀ b o,s.heap.get? b=some o->(pushCells (s.heap.push { cls:=.type "dict",data:=.dict #[] }) scope.names).get? b=some o:=fun b o e=>pushCells_keeps _ _ b o (Aa _ e);have ok:=cellsFrom_ok scope.names (s.heap.push { cls:=.type "dict",data:=.dict #[] }) (s.heap.objs.size+1) [] ⟨fun _ _ hm=>(nomatch hm),Dg⟩ (by rw[Bw];exact Af _)
 rw[Bw]at ok;refine⟨aPh C I hf ho,rfl,I.bare,Un.kept keep,⟨fun _=>none,?_,fun i x v hN hσ hv=>?_⟩,fun x c e=>?_,I.hok.fresh (Af _),fun x c e=>?_,(fun p hp=>by simp[dI]at hp),I.hok.kept keep,by rw[aDz];exact C.len.symm⟩
 · exact(Heap.Ns.new s.heap (.type "dict")).keeps (pushCells_keeps _ _)
 · obtain⟨j,i',rfl,hj,hσ'⟩:=vQ hσ
   obtain⟨y,hy1,hy2,hy3,hy4⟩:=C.out j i' hj;have e:y=x:=Db.inj (hy1.symm.trans hN);subst e;obtain⟨m,hn,hl⟩:=I.loc
   have hvis:Vis X.env.scope y:=by
    rcases hy4 with z | z
    · exact .inr (.inl z)
    · exact .inr (.inr z)
   obtain⟨u,ru,lk⟩:=hl i' y v hy2 hσ' hvis;refine⟨u,ru,.inr ⟨?_,?_⟩⟩
   · exact qP hy3
   · rcases lk with ⟨hk,_⟩ | ⟨_,c,hc,hcell⟩
     · rcases hy4 with z | z<;>(rw[hk]at z;cases z)
     · refine⟨c,?_,hcell.keeps keep⟩
       show (cellsFrom (s.heap.objs.size+1) scope.names (lN X.env.cells scope.names [])).lookup y=some c
       have h1:(cellsFrom (s.heap.objs.size+1) scope.names []).lookup y=none:=by
        cases e2:(cellsFrom (s.heap.objs.size+1) scope.names []).lookup y with
        | none=>rfl
        | some c' =>
         have:=qB C.nd (lL _ _ (mem_of_lookup e2))
         rw[hy3]at this;cases this
       have h2:y∈(lN X.env.cells scope.names []).map (·.1):=Ak.mpr ⟨(y,c),qJ _ _ (.inr ⟨mem_of_lookup hy3,hc⟩),rfl⟩;obtain⟨c2,hc2⟩:=cL h2;have h3:=aCu hc2;rw[hc]at h3;cases h3;rw[cX,List.lookup_append,h1,hc2];rfl
 · rcases kC (cells:=X.env.cells) e with h1 | h1
   · exact⟨none,(ok.empty _ _ h1).1⟩
   · obtain⟨v,z⟩:=I.cell x c h1
     exact⟨v,z.keeps keep⟩
 · rcases kC (cells:=X.env.cells) e with h1 | h1
   · exact I.hok.fresh (Em (ok.empty _ _ h1).2)
   · exact I.freeC x c h1
end
end L2
namespace L2
open PySem PySem.Spec PyProof.Rows
theorem aDf {M:Model}{A:Around}{E:Value->Shared->Prop}{s:Shared}{scope:Scope}{env:Env}{Q:Env->Shared->Prop}
 (h:Q (newEnv scope s.heap.objs.size env.globals (cellsFrom (s.heap.objs.size+1) scope.names (lN env.cells scope.names [])) env.qual none .none (some env) builtinsNs)
  { s with heap:=pushCells (s.heap.push { cls:=.type "dict",data:=.dict #[] }) scope.names }) :
 wpAny M A (newFunctionEnv scope env.globals (lN env.cells scope.names []) [] env.qual none .none (some env)) Q E s:=by
 have sz:(s.heap.push { cls:=.type "dict",data:=.dict #[] }).objs.size=s.heap.objs.size+1:=Bw ..;unfold newFunctionEnv;rw[if_pos (show (some env).isSome=true from rfl)]
 apply wpAny_bind
 apply wpAny_alloc
 apply wpAny_bind
 apply wpAny_layCells
 · intro name kind cells
   cases e:kind==NameKind.cell<;>simp[e]
 · rw[sz]
   apply wpAny_bind
   apply wpAny_pure
   exact wpAny_pure h
def uP (J:It)(k:Nat)(fs:List Nat)(g:TG)(tb:St->Hp->(Option V->Hp->Prop)->Prop)(σ:St)(acc:Addr)(Qf:Hp->Prop)(H:Hp):Prop :=
 ∃ W:Nat->Nat->List V->Hp->Prop,(∃ m,W 0 m [] (upd H acc (.lst [])))/\∀ i m ys H2,W i m ys H2->H2 acc=some (.lst ys) /\
  ((J.stop i H2/\Qf H2)\/(J.go i H2/\ys.length<sizeLine/\∀ x H3,J.yld i H2 x H3->g x (gN k fs σ) H3 fun σ4 H4=>tb σ4 H4 fun o H5 =>
   match o with
   | some v=>H5 acc=some (.lst ys)/\∃ m',m'<m/\W (i+1) m' (ys++[v]) (upd H5 acc (.lst (ys++[v])))
   | none=>∃ m',m'<m/\W (i+1) m' ys H5))
def PB (X:Cx)(ifs:List Expr)(elt:Expr)(tb:St->Hp->(Option V->Hp->Prop)->Prop):Prop :=
 ∀ (pins:List (Addr×Obj)) (s:Shared) (σ:St) (H:Hp) (Q:Option V->Hp->Prop),Inv X pins σ H s->tb σ H Q ->
  wpAny (model X.prog X.w) X.A (aMw ifs X.env)
   (fun ok s1=>if ok=true then wpAny (model X.prog X.w) X.A (eval elt X.env) (fun u s2=>∃ v H',Inv X pins σ H' s2/\bZ v u/\Q (some v) H') X.xe s1 else ∃ H',Inv X pins σ H' s1/\Q none H') X.xe s
def aW5 (te:TE):St->Hp->(Option V->Hp->Prop)->Prop:=fun σ H Q=>te σ H fun v H'=>Q (some v) H'
def bIf (tc:TT)(te:TE):St->Hp->(Option V->Hp->Prop)->Prop:=fun σ H Q=>tc σ H fun b H1=>if b=true then te σ H1 fun v H'=>Q (some v) H' else Q none H1
theorem aSt {X:Cx}{elt:Expr}{te:TE}(he:PE X elt te):PB X [] elt (aW5 te):=by
 intro pins s σ H Q I h;refine wpAny_tests_nil ?_
 rw[if_pos rfl];exact thn (he pins s σ H _ I h) fun u s2 ⟨v,H',I',r,q⟩=>⟨v,H',I',r,q⟩
theorem aUg {X:Cx}{elt c:Expr}{te:TE}{tc:TT}(hc:PT X c tc)(he:PE X elt te):PB X [c] elt (bIf tc te):=by
 intro pins s σ H Q I h;refine wpAny_tests_one (thn (hc pins s σ H _ I h) fun b s1 ⟨H1,I1,q1⟩=>?_)
 cases b with
 | true =>
  rw[if_pos rfl]at q1 ⊢;exact thn (he pins s1 σ H1 _ I1 q1) fun u s2 ⟨v,H',I',r,q⟩=>⟨v,H',I',r,q⟩
 | false =>
  rw[if_neg Bn]at q1 ⊢;exact⟨H1,I1,q1⟩
section
variable {X:Cx}{pins:List (Addr×Obj)}{σ:St}{H:Hp}{s:Shared}{scope:Scope}{N:List Str}{k:Nat}{fs:List Nat}{tg iter elt:Expr}{ifs:List Expr}{pos:Pos}{g:TG}{tb:St->Hp->(Option V->Hp->Prop)->Prop}
theorem uU {J:It}{fp:List Addr}{it:Addr}{tn:Nat->Heap->Prop}{Qf:Addr->Hp->Prop}{RR:Value->Addr->Result->Shared->Prop}{E:Value->Shared->Prop}(hc:X.calm=true)(C:CompOk X scope N k fs)(I:Inv X pins σ H s)
 (T:Turn X.prog X.w X.K tg J fp it tn) (t0:tn 0 s.heap) (f0:∀ b∈fp,qA X pins H b) (hg:∀ fp s H,PG (dI X scope N fp s H) tg g) (gl:xN k g) (hb:∀ fp s H,PB (dI X scope N fp s H) ifs elt tb)
 (h:∀ acc,H acc=none->uP J k fs g tb σ acc (Qf acc) H)
 (hRR:∀ (acc B:Addr) (H':Hp) (s':Shared) (m:Str->Option Value),Qf acc H'->Inv X pins σ H' s'->qA X pins H' B->s'.heap.Ns B m->RR (.ref acc) B (.ok .next) s') :
 wpAny (model X.prog X.w) X.A (newList []) (fun acc s₃=>wpAny (model X.prog X.w) X.A (newFunctionEnv scope X.env.globals (lN X.env.cells scope.names []) [] X.env.qual none .none (some X.env)) (fun cenv s₄ =>
  codeAny (model X.prog X.w) X.A (.compStart (.ListComp elt [⟨tg,iter,ifs,0⟩] scope pos) 0 (.ref it) acc { cenv with scope:=relabel scope X.env }) (RR acc cenv.locals) s₄) E s₃) E s:=by
 have hfr:H s.heap.objs.size=none:=I.fresh;refine wpAny_newObj_type ?_
 have I1:Inv X pins σ (upd H s.heap.objs.size (.lst [])) { s with heap:=s.heap.push { cls:=.type "list",data:=.seq ([]:List Value).toArray } }:=I.lnew (t':=s.toks) (its:=[]) .nil (Cc _)
 obtain⟨W,⟨m0,w0⟩,turn⟩:=h _ hfr;generalize hacc:s.heap.objs.size=acc at *
 generalize hs1:({ s with heap:=s.heap.push { cls:=.type "list",data:=.seq ([]:List Value).toArray } }:Shared)=s1 at *
 have keep1:∀ b o,s.heap.get? b=some o->s1.heap.get? b=some o:=fun b o e=>by rw[←hs1];exact Aa _ e
 have fpl:∀ b∈fp,b<s.heap.objs.size:=fun b hb=>let ⟨o,e,_⟩:=T.obj _ _ t0 b hb;Ae e
 have sz1:s1.heap.objs.size=acc+1:=by rw[←hs1,←hacc];exact Bw ..
 have f1:∀ b∈fp,qA X pins (upd H acc (.lst [])) b:=fun b hb=>⟨by rw[aR (Ay (by rw[←hacc];exact fpl b hb))];exact(f0 b hb).1,(f0 b hb).2⟩
 have ho1:∀ b∈fp,b<s1.heap.objs.size:=fun b hb=>by rw[sz1,←hacc];exact Nat.lt_succ_of_lt (fpl b hb)
 have t1:tn 0 s1.heap:=T.keep _ _ _ t0 fun b _ o e=>keep1 b o e;refine aDf ?_
 have I2:=aK7 (fp:=fp) C I1 f1 ho1;have keep2:∀ b o,s1.heap.get? b=some o->(pushCells (s1.heap.push { cls:=.type "dict",data:=.dict #[] }) scope.names).get? b=some o:=fun b o e=>pushCells_keeps _ _ b o (Aa _ e);generalize hs2:({ s1 with heap:=pushCells (s1.heap.push { cls:=.type "dict",data:=.dict #[] }) scope.names }:Shared)=s2 at *
 have t2:tn 0 s2.heap:=T.keep _ _ _ t1 fun b _ o e=>by rw[←hs2];exact keep2 b o e
 have stat:∀ {H':Hp},(∀ b∈fp,H' b=none)->∀ b∈fp,qA (dI X scope N fp s1 (upd H acc (.lst []))) [] H' b:=fun {H'} hn b hb =>
  ⟨hn b hb,((I2.ok.exf b hb)).1,I2.ok.exfs b hb,.inl hb,(I2.ok.exf b hb).2,(fun p hp=>by simp[dI]at hp)⟩
 have aO1:∀ {σ':St} {H':Hp} {s':Shared},Inv (dI X scope N fp s1 (upd H acc (.lst []))) [] σ' H' s'->Inv X pins σ H' s'/\qA X pins H' s1.heap.objs.size/\∃ m,s'.heap.Ns s1.heap.objs.size m:=fun {σ' H' s'} J=>by
  refine⟨I1.call' (ch:=fp) J.os J.base J.hok J.bare fun b hb=>⟨(f1 b hb).2.2.2.1,(f1 b hb).2.1,(f1 b hb).2.2.2.2.1,(f1 b hb).2.2.2.2.2⟩,I1.fpOk (Af _) J.free,?_⟩
  obtain⟨m,hn,_⟩:=J.loc;exact⟨m,hn⟩
 have loop:codeAny (model X.prog X.w) X.A (.compLoop (.ListComp elt [⟨tg,iter,ifs,0⟩] scope pos) 0 (.ref it) (.ref acc) (aB2 scope s1.heap.objs.size X.env)) (RR (.ref acc) s1.heap.objs.size) s2:=by
  refine aAu (fun n s'=>∃ i σ' H' ys,Inv (dI X scope N fp s1 (upd H acc (.lst []))) [] σ' H' s'/\tn i s'.heap/\(∀ b∈fp,H' b=none)/\W i n ys H'/\σ'.length=(gN k fs σ).length/\∀ j,k<=j->σ'[j]?=(gN k fs σ)[j]?) ?_ m0
   ⟨0,_,_,[],I2,t2,fun b hb=>(f1 b hb).1,w0,rfl,fun _ _=>rfl⟩
  rintro n s3 ⟨i,σ3,H3,ys,I3,st3,fr3,w3,len3,ag3⟩
  have I3':=I3.weak (σ':=gN k fs σ) len3.symm fun j v e=>by
   obtain⟨j',i',rfl,_,_⟩:=vQ e;rw[ag3 _ (Da _ _)];exact e
  obtain⟨ha,hcase⟩:=turn i n ys H3 w3;rcases hcase with ⟨stop,q⟩ | ⟨go,hlt,step⟩
  · refine thn (T.done (dI X scope N fp s1 (upd H acc (.lst []))) rfl rfl rfl hc i [] s3 _ H3 _ I3' (stat fr3) st3 stop) fun r s4 ⟨hr,I4⟩=>?_
    subst hr;obtain⟨b1,b2,m,b3⟩:=aO1 I4;exact hRR acc _ H3 s4 m q b1 b2 b3
  · refine thn (T.item (dI X scope N fp s1 (upd H acc (.lst []))) rfl rfl rfl hc i [] s3 _ H3 _ I3' (stat fr3) st3 go) fun r s4 ⟨u,hr,h4⟩=>?_
    subst hr;refine thn h4 fun _ s5 ⟨x,H5,I5,r5,y5,st5,fr5⟩=>?_
    have I5':=I5.pinned (stat fr5) (T.obj _ _ st5);refine thn (hg _ _ _ _ s5 _ H5 x u _ I5' r5 (gl _ _ _ _ (step x H5 y5))) fun _ s6 ⟨σ6,H6,I6,q6,len6,ag6⟩=>?_
    refine thn (hb _ _ _ _ s6 σ6 H6 _ I6 q6) fun ok s7 q7=>?_
    have again:∀ {H8:Hp} {s8:Shared} {ys':List V} {m':Nat},Inv (dI X scope N fp s1 (upd H acc (.lst []))) ([]++vY fp s5.heap) σ6 H8 s8->m'<n->W (i+1) m' ys' H8 ->
     ∃ m,m<n/\∃ i σ' H' ys,Inv (dI X scope N fp s1 (upd H acc (.lst []))) [] σ' H' s8/\tn i s8.heap/\(∀ b∈fp,H' b=none)/\W i m ys H'/\σ'.length=(gN k fs σ).length/\∀ j,k<=j->σ'[j]?=(gN k fs σ)[j]?:=fun {H8 s8 ys' m'} I8 hm w8=>by
     refine⟨m',hm,i+1,σ6,H8,ys',I8.unpinned,T.keep _ _ _ st5 fun b hb o e=>(I8.pin (b,o) (Az _ (Az _ (kJ hb e)))).1,fun b hb=>?_,w8,len6,ag6⟩
     obtain⟨o,e,d⟩:=T.obj _ _ st5 b hb;exact(I8.pin (b,o) (Az _ (Az _ (kJ hb e)))).2.1
    cases ok with
    | false =>
     rw[if_neg Bn]at q7 ⊢;obtain⟨H8,I8,m',hm,w8⟩:=q7;exact again I8 hm w8
    | true =>
     rw[if_pos rfl]at q7 ⊢;refine thn q7 fun u8 s8 ⟨v,H8,I8,r8,ha8,m',hm,w8⟩=>?_
     refine thn (sE _ s8 σ6 H8 (.ref acc) [v] (.ref acc) [u8] (fun _ H'=>H'=upd H8 acc (.lst (ys++[v]))) I8 rfl (.cons r8 .nil) ⟨acc,ys,v,rfl,rfl,ha8,hlt,rfl⟩) fun _ s9 ⟨_,H9,I9,_,e9⟩=>?_
     subst e9;exact again I9 hm w8
 exact codeAny_compStart_list loop (T.self _ 0 _ _ _ t2 loop)
def aQi (wi:TI)(k:Nat)(fs:List Nat)(g:TG)(tb:St->Hp->(Option V->Hp->Prop)->Prop):TE:=fun σ H Q=>wi σ H fun J H1=>∀ acc,H1 acc=none->uP J k fs g tb σ acc (fun H2=>Q (.ref acc) H2) H1
theorem aGm {wi:TI}(hc:X.calm=true)(C:CompOk X scope N k fs)(hi:PI X tg iter wi)(hg:∀ fp s H,PG (dI X scope N fp s H) tg g)(gl:xN k g)(hb:∀ fp s H,PB (dI X scope N fp s H) ifs elt tb)
 (hs:∀ x,foldedSetIterable iter X.env x=pure x:=by intro _;rfl):PE X (.ListComp elt [⟨tg,iter,ifs,0⟩] scope pos) (aQi wi k fs g tb):=by
 intro pins s σ H Q I h;rw[eval_ListComp];refine wpAny_comprehension_free (use:=none) rfl hs C.clos C.kind C.names (thn (hi pins s σ H _ I h) fun v s1 h1=>thn h1 fun itv s2 h2=>?_)
 obtain⟨it,fp,tn,J,H2,e,I2,T,st2,f2,q2⟩:=h2;subst e;refine uU (RR:=fun acc B=>compPost (model X.prog X.w) X.A X.xe none (EP X pins σ Q) acc B) hc C I2 T st2 f2 hg gl hb q2 ?_
 intro acc B H' s' m q I' F n;exact⟨m,n,fun h' sb=>⟨.ref acc,H',I'.turned (t':=s'.toks) (fun b o hb e=>sb.extBut b o hb e) F.1 F.2.1 F.2.2.2.1 F.2.2.2.2.1 F.2.2.2.2.2,rfl,q⟩⟩
def aRz (i:Nat)(wi:TI)(k:Nat)(fs:List Nat)(g:TG)(tb:St->Hp->(Option V->Hp->Prop)->Prop):TS:=fun D σ H=>wi σ H fun J H1=>∀ acc,H1 acc=none->uP J k fs g tb σ acc (fun H2=>D.nx (σ.set i (some (.ref acc))) H2) H1
theorem aNr {wi:TI}{i:Nat}{y:Str}{py spos:Pos}(hc:X.calm=true)(hN:X.N.Nodup)(hi':X.N[i]?=some y)(hy:X.env.scope.names.lookup y=some .local)(C:CompOk X scope N k fs)(hi:PI X tg iter wi)(hg:∀ fp s H,PG (dI X scope N fp s H) tg g)(gl:xN k g)
 (hb:∀ fp s H,PB (dI X scope N fp s H) ifs elt tb) (hsw:swapsWith (.ListComp elt [⟨tg,iter,ifs,0⟩] scope pos) (some (.Name y py)) spos.line X.env=pure true)
 (hs:∀ x,foldedSetIterable iter X.env x=pure x:=by intro _;rfl):PS X (.Assign [.Name y py] (.ListComp elt [⟨tg,iter,ifs,0⟩] scope pos) spos) (aRz i wi k fs g tb):=by
 intro pins s σ H D I h;refine(exec_Assign_Name_used _ _ _ _ hsw).symm▸wpAny_bind (wpAny_standAt (wpAny_bind ?_))
 show wpAny _ X.A (do let _ ← comprehension (.ListComp elt [⟨tg,iter,ifs,0⟩] scope pos) scope X.env _ (newList []) false (eval iter X.env) (some (assign (.Name y py) X.env))) _ _ s
 refine wpAny_bind (wpAny_mono (wpAny_comprehension_free (use:=some (assign (.Name y py) X.env)) (Q:=fun _ s'=>SP X pins D .next s') rfl hs C.clos C.kind C.names
  (thn (hi pins s σ H _ I h) fun v s1 h1=>thn h1 fun itv s2 h2=>?_)) (fun _ s' hq=>wpAny_pure (wpAny_pure hq)) fun _ _ e=>e)
 obtain⟨it,fp,tn,J,H2,e,I2,T,st2,f2,q2⟩:=h2;subst e;refine uU (RR:=fun acc B=>compPost (model X.prog X.w) X.A X.xe (some (assign (.Name y py) X.env)) (fun _ s'=>SP X pins D .next s') acc B) hc C I2 T st2 f2 hg gl hb q2 ?_
 intro acc B H' s' m q I' F n
 have hoB:∃ o,s'.heap.get? B=some o/\∀ v,o.data≠.cell v:=by
  obtain⟨o,es,ep,ho,hd,_⟩:=n;exact⟨o,ho,fun v z=>by rw[hd]at z;cases z⟩
 have I'':=I'.pinned (fp:=[B]) (fun b hb=>by rw[Aq.mp hb];exact F) (fun b hb=>by rw[Aq.mp hb];exact hoB)
 show wpAny _ X.A (assign (.Name y py) X.env (.ref acc)) _ _ _
 refine wpAny_assign_Name (rQ (v:=.ref acc) I'' hN hi' (.inl hy) rfl (fun s3 I3=>?_) (.inr hy))
 obtain⟨o,ho,_⟩:=hoB;have pin:=(I3.pin (B,o) (Az _ (Az _ (kJ (Aq.mpr rfl) ho)))).1;refine⟨m,n.at' fun o' e'=>?_,fun h' sb=>?_⟩
 · rw[ho]at e'
   cases e';exact pin
 · exact⟨_,H',(I3.unpinned).turned (t':=s3.toks) (fun b o hb e=>sb.extBut b o hb e) F.1 F.2.1 F.2.2.2.1 F.2.2.2.2.1 F.2.2.2.2.2,q⟩
end
end L2
namespace Zp
open PySem
def rcd (TI TO T:Addr)(f:Bool):Obj:={ cls:=.type "zip",data:=.fields #[rawInt T,.bool f,.bool false,.ref TI,.ref TO] }
section
variable {prog:Program}{w:World}{A:Around}{E:Value->Shared->Prop}{s:Shared}
theorem aUs {a:Addr}{o:Obj}{Q:Option Obj->Shared->Prop}(ho:s.heap.get? a=some o)(q:Q (some o) s):wpAny (model prog w) A (Sem.loadIfAlive ((a:Nat):Int).toNat Sem.pure) Q E s :=
 fun _ _ _=>by rw[Br];exact(ho▸q:Q (s.heap.get? a) s)
theorem aQ5 {z TI TO T:Addr}{f:Bool}{oT:Obj}{Q:Bool->Shared->Prop}(ho:s.heap.get? z=some (rcd TI TO T f))(hT:s.heap.get? T=some oT)
 (q:∀ h',h'.get? z=some (rcd TI TO T true)->Heap.SameBut z s.heap h'->Q false { s with heap:=h' }):wpAny (model prog w) A (Builtin.SmallTypes.ownedTupleIsFree (.ref z)) Q E s:=by
 unfold rcd at ho;cases f
 all_goals repeat (first | assumption | (with_reducible refine wpAny_field ho rfl rfl ?_) | (with_reducible refine aUs hT ?_) | (with_reducible refine wpAny_setField_rec ho (by simp) fun h' e1 e2=>?_) | wp_step)
 · exact q _ e1 e2
 · exact q _ ho (Heap.SameBut.refl _ _)
def Out (N:List Addr)(h h':Heap):Prop:=∀ c o,c∉N->h.get? c=some o->h'.get? c=some o
theorem Out.of {a:Addr}{N:List Addr}{h h':Heap}(e:Heap.ExtBut a h h')(m:a∈N):Out N h h':=fun c o n q=>e c o (fun x=>n (x▸m)) q
theorem Out.then {N:List Addr}{h h1 h2:Heap}(a:Out N h h1)(b:Out N h1 h2):Out N h h2:=fun c o n q=>b c o n (a c o n q)
theorem Out.up {N:List Addr}{h h1:Heap}{o:Obj}(a:Out N h h1):Out N h (h1.push o):=fun c u n q=>Aa o (a c u n q)
variable {z TI TO T i1 i2 l1 l2:Addr}{f:Bool}{oT:Obj}{k:Nat}{xs ys:Array Value}
theorem aIy {x y:Value}{Q:Fin->Shared->Prop}(D:ZipApart z TI TO i1 i2 l1 l2)
 (ho:s.heap.get? z=some (rcd TI TO T f)) (hT:s.heap.get? T=some oT) (hTI:IsPair s.heap TI (.ref i1) (.ref i2)) (a1:s.heap.IsListIter i1 l1 k) (a2:s.heap.IsListIter i2 l2 k)
 (b1:s.heap.IsList l1 xs) (b2:s.heap.IsList l2 ys) (ex:xs[k]?=some x) (ey:ys[k]?=some y)
 (q:∀ h',h'.get? z=some (rcd TI TO T true)->h'.IsListIter i1 l1 (k+1)->h'.IsListIter i2 l2 (k+1)->IsPair h' s.heap.objs.size x y->h'.objs.size=s.heap.objs.size+1->Out [z,i1,i2] s.heap h' ->
  Q (.done (.ret (.ref s.heap.objs.size))) { s with heap:=h' }):wpAny (model prog w) A (Builtin.«zip.__next__» ⟨[.ref z],[]⟩) Q E s:=by
 have hd:=show (rcd TI TO T f).data=.fields #[rawInt T,.bool f,.bool false,.ref TI,.ref TO] from rfl
 repeat (first | assumption | (with_reducible refine wpAny_field ho hd rfl ?_) | (with_reducible refine aQ5 ho hT fun h1 e1 u1=>?_) | (refine wpAny_nextOf_list_item (it:=i1) (a1.extBut u1.extBut D.i1z) (b1.extBut u1.extBut D.l1z) ex fun h2 e2 u2=>?_) | (refine wpAny_nextOf_list_item (it:=i2) ((a2.extBut u1.extBut D.i2z).extBut u2.extBut D.i12.symm) ((b2.extBut u1.extBut D.l2z).extBut u2.extBut D.l2i1) ey fun h3 e3 u3=>?_) | wp_step)
 have z3:h3.objs.size=s.heap.objs.size:=u3.1.trans (u2.1.trans u1.1);have fr:Out [z,i1,i2] s.heap h3:=((Out.of u1.extBut (by simp)).then (Out.of u2.extBut (by simp))).then (Out.of u3.extBut (by simp))
 rw[z3];refine q _ (Aa _ (u3.extBut _ _ D.i2z.symm (u2.extBut _ _ D.i1z.symm e1))) ((e2.extBut u3.extBut D.i12).at fun _=>Aa _) (e3.at fun _=>Aa _) ?_ (by rw[Bw,z3]) fr.up
 exact z3▸Ag h3 rfl
theorem dry {Q:Fin->Shared->Prop}(hh:A.handled=none)(D:ZipApart z TI TO i1 i2 l1 l2)
 (ho:s.heap.get? z=some (rcd TI TO T f)) (hT:s.heap.get? T=some oT) (hTI:IsPair s.heap TI (.ref i1) (.ref i2)) (a1:s.heap.IsListIter i1 l1 k) (a2:s.heap.IsListIter i2 l2 k)
 (b1:s.heap.IsList l1 xs) (b2:s.heap.IsList l2 ys) (no:xs.size<=k\/ys.size<=k)
 (q:∀ h' e o,h'.get? e=some o->o.cls=.type "StopIteration"->Out [z,i1,i2] s.heap h'->E (.ref e) { s with heap:=h' }):wpAny (model prog w) A (Builtin.«zip.__next__» ⟨[.ref z],[]⟩) Q E s:=by
 have hd:=show (rcd TI TO T f).data=.fields #[rawInt T,.bool f,.bool false,.ref TI,.ref TO] from rfl
 by_cases hx:k<xs.size
 · have ex:xs[k]?=some xs[k]:=Array.getElem?_eq_getElem hx
   have ey:ys[k]?=none:=Array.getElem?_eq_none (no.resolve_left (Nat.not_le.mpr hx));repeat (first | assumption | (with_reducible refine wpAny_field ho hd rfl ?_) | (with_reducible refine aQ5 ho hT fun h1 e1 u1=>?_) | (refine wpAny_nextOf_list_item (it:=i1) (a1.extBut u1.extBut D.i1z) (b1.extBut u1.extBut D.l1z) ex fun h2 e2 u2=>?_) | (refine wpAny_nextOf_list_end (it:=i2) hh ((a2.extBut u1.extBut D.i2z).extBut u2.extBut D.i12.symm) ((b2.extBut u1.extBut D.l2z).extBut u2.extBut D.l2i1) ey fun h3 e u3 p=>?_) | wp_step)
   obtain⟨o,p1,p2⟩:=p;exact q h3 e o p1 p2 (((Out.of u1.extBut (by simp)).then (Out.of u2.extBut (by simp))).then (Out.of u3 (by simp)))
 · have ex:xs[k]?=none:=Array.getElem?_eq_none (Nat.not_lt.mp hx)
   repeat (first | assumption | (with_reducible refine wpAny_field ho hd rfl ?_) | (with_reducible refine aQ5 ho hT fun h1 e1 u1=>?_) | (refine wpAny_nextOf_list_end (it:=i1) hh (a1.extBut u1.extBut D.i1z) (b1.extBut u1.extBut D.l1z) ex fun h2 e u2 p=>?_) | wp_step)
   obtain⟨o,p1,p2⟩:=p;exact q h2 e o p1 p2 ((Out.of u1.extBut (by simp)).then (Out.of u2 (by simp)))
theorem nxt {o:Obj}{Q:Option Value->Shared->Prop}(ho:s.heap.get? z=some o)(hc:o.cls=.type "zip")
 (h:wpAny (model prog w) A.in1 (Builtin.«zip.__next__» ⟨[.ref z],[]⟩) (fun r s'=>∃ v,r=.done (.ret v)/\Q (some v) s') (fun e s'=>∃ a u,e=.ref a/\s'.heap.get? a=some u/\u.cls=.type "StopIteration"/\Q none s') s):wpAny (model prog w) A (pyNext (.ref z)) Q E s:=by
 have ty:s.TypeIs (.ref z) "zip":=⟨o,ho,hc⟩;refine wpAny_bind (wpAny_attempt (wpAny_mono (Q:=fun r s'=>∃ v,r=some v/\Q (some v) s') (wpAny_callSpecial?_slot ty F.slot_zip_next (wpAny_call_entry F.slot_zip_next ty F.entry_zip_next (wpAny_mono h ?_ fun _ _ e=>e) (F.args_zip_next_1 _))) ?_ ?_))
 · rintro _ s' ⟨v,rfl,q⟩
   exact⟨v,rfl,v,rfl,q⟩
 · rintro _ s' ⟨v,rfl,q⟩
   exact wpAny_pure q
 · rintro _ s' ⟨a,u,rfl,e1,e2,q⟩
   exact wpAny_bind (wpAny_isInstance (T:="StopIteration") (b:=true) ⟨u,e1,e2⟩ isSubtype_stop (wpAny_pure q))
end
end Zp
namespace Zp
open PySem
def mk (vs:List Value)(c:Nat):Obj:={ cls:=.type "list",data:=.seq vs.toArray c }
structure Feed (prog:Program)(w:World)(A:Around)(z S:Addr)(P:Nat->List Value->Heap->Prop)(L:List Value->Heap->Prop):Prop where
 more:∀ (n:Nat) (vs:List Value) (s:Shared) (Q:Option Value->Shared->Prop) (E:Value->Shared->Prop),P (n+1) vs s.heap ->
  (∀ v h',P n (vs++[v]) h'->(∀ o,s.heap.get? S=some o->h'.get? S=some o)->Q (some v) { s with heap:=h' })->wpAny (model prog w) A (pyNext (.ref z)) Q E s
 over:∀ (vs:List Value) (s:Shared) (Q:Option Value->Shared->Prop) (E:Value->Shared->Prop),P 0 vs s.heap ->
  (∀ h',L vs h'->(∀ o,s.heap.get? S=some o->h'.get? S=some o)->Q none { s with heap:=h' })->wpAny (model prog w) A (pyNext (.ref z)) Q E s
 blind:∀ (n:Nat) (vs:List Value) (h h':Heap),P n vs h->Heap.SameBut S h h'->P n vs h'
section
variable {prog:Program}{w:World}{A:Around}{z S:Addr}{P:Nat->List Value->Heap->Prop}{L:List Value->Heap->Prop}{R:Result->Shared->Prop}
theorem turn {s:Shared}{as:Args}(h:wpAny (model prog w) A.in1 (Builtin.«list.extend.loop» as) (fun r s'=>match r with | .done f=>R (.ok f) s' | .again c=>c.quiet=true/\codeAny (model prog w) A c R s') (fun e s'=>R (.error e) s') s) :
 codeAny (model prog w) A (.builtin "list.extend.loop" as) R s :=
 codeAny_builtin PySem.F.entry_extend_loop (by rw[Around.under_plainId PySem.F.plain_extend_loop];exact h)
theorem aTp (F:Feed prog w A.in1 z S P L)(r:Value):∀ (n:Nat) (vs:List Value) (c:Nat) (s:Shared),P n vs s.heap->s.heap.get? S=some (mk vs c)->vs.length+n<=sizeLine ->
 (∀ h' us c',L us h'->h'.get? S=some (mk us c')->R (.ok (.ret r)) { s with heap:=h' })->codeAny (model prog w) A (.builtin "list.extend.loop" ⟨[.ref S,.ref z,r],[]⟩) R s
 | 0,vs,c,s,p,e,_,q=>by
  refine turn (wpAny_bind (F.over vs s _ _ p fun h' l k=>wpAny_pure ?_))
  exact q h' vs c l (k _ e)
 | n+1,vs,c,s,p,e,b,q=>by
  refine turn (wpAny_bind (F.more n vs s _ _ p fun v h' p' k=>?_))
  have e':=k _ e;have len:(vs.toArray.push v).size<=sizeLine:=by simp;omega
  obtain⟨c2,e2⟩:∃ c2,(h'.update S (Obj.mapSeq (·.push v))).get? S=some (mk (vs++[v]) c2):=by
   have:=Cg (Obj.mapSeq (·.push v)) e' rfl
   simp only[mk,Obj.mapSeq,List.push_toArray]at this;exact⟨_,this⟩
  refine wpAny_bind (wpAny_updateSeq e' rfl (wpAny_pure ⟨plainId_quiet PySem.F.plain_extend_loop _,?_⟩) (by simp;omega) (Nat.le_succ_of_le len))
  refine aTp F r n (vs++[v]) c2 _ (F.blind _ _ _ _ p' (Heap.SameBut.update ..)) e2 (by simp;omega) fun h2 us c3 l e3=>?_
  exact q h2 us c3 l e3
theorem upd {E:Value->Shared->Prop}{s:Shared}{vs:List Value}{c:Nat}{f:Array Value->Array Value}{Q:Unit->Shared->Prop}(e:s.heap.get? S=some (mk vs c))(l:vs.length<=1)(m:(f vs.toArray).size<=1)
 (q:∀ h' c',h'.get? S=some (mk (f vs.toArray).toList c')->Heap.SameBut S s.heap h'->Q () { s with heap:=h' }):wpAny (model prog w) A (updateSeq S f) Q E s :=
 have one:1<=sizeLine:=by decide
 wpAny_updateSeq e rfl (q _ _ (Cg _ e rfl) (Heap.SameBut.update ..)) (by simp;omega) (by omega)
theorem aWu:typeLookup (.type "zip") "__len__" = pure none:=(typeLookup_type ..).trans (by rw[builtinLookup_eq_fast];kernel_rfl)
theorem aVq:typeLookup (.type "zip") "__length_hint__" = pure none:=(typeLookup_type ..).trans (by rw[builtinLookup_eq_fast];kernel_rfl)
theorem aTx {E:Value->Shared->Prop}{s:Shared}{c:Nat}{TI TO:Addr}{K:Fin->Shared->Prop}(e:s.heap.get? S=some (mk [] c))(ez:IsZip s.heap z TI TO .none)(n:S≠z)
 (q:∀ h' c',h'.get? S=some (mk [] c')->Heap.SameBut S s.heap h'->K (.again (.builtin "list.extend.loop" ⟨[.ref S,.ref z,.none],[]⟩)) { s with heap:=h' }) :
 wpAny (model prog w) A (Builtin.«list.__init__» ⟨[.ref S,.ref z],[]⟩) K E s:=by
 have same:Builtin.List.listSameRef (.ref S) (.ref z)=false:=by simp[Builtin.List.listSameRef,n]
 have t1:(Value.type "zip" == Value.type "list")=false:=by decide
 have t2:(Value.type "zip" == Value.type "tuple")=false:=by decide
 have cond:(Builtin.List.listSameRef (.ref S) (.ref z)||Value.type "zip" == Value.type "list" || Value.type "zip" == Value.type "tuple")=false:=by rw[same,t1,t2];rfl
 refine wpAny_bind (wpAny_bind (wpAny_seqItems e rfl (wpAny_pure ?_)))
 refine wpAny_bind (upd e (by decide) (by decide) fun h1 c1 e1 u1=>wpAny_bind (wpAny_letGo ?_))
 have ez1:IsZip h1 z TI TO .none:=u1.extBut z _ n.symm ez;have ty:Shared.TypeIs { s with heap:=h1 } (.ref z) "zip":=⟨_,ez1,rfl⟩
 refine wpAny_bind (wpAny_typeOf ty ?_)
 simp only[cond,Bo,if_false];refine wpAny_bind (wpAny_pyIter_zip ez1 (wpAny_bind (wpAny_holding (wpAny_bind (wpAny_specialOf ty aWu ?_)))))
 refine wpAny_bind (wpAny_specialOf ty aVq (wpAny_pure (wpAny_bind (wpAny_rule (wpAny_bind (wpAny_bind (upd e1 (by decide) (by decide) fun h2 c2 e2 u2=>?_)))))))
 refine upd e2 (by decide) (by decide) fun h3 c3 e3 u3=>wpAny_pure ?_
 exact q h3 c3 e3 ⟨u3.1.trans (u2.1.trans u1.1),fun b m=>(u3.2 b m).trans ((u2.2 b m).trans (u1.2 b m))⟩
theorem aWw {h0:Heap}{E:Value->Shared->Prop}{Q:Value->Shared->Prop}{s:Shared}{n:Nat}{TI TO:Addr}(ez:IsZip s.heap z TI TO .none)(F:Feed prog w A.in1.in1 z s.heap.objs.size P L)
 (p:P n [] (s.heap.push (mk [] 0))) (b:n<=sizeLine) (q:∀ h' us c,L us h'->h'.get? s.heap.objs.size=some (mk us c)->Q (.ref s.heap.objs.size) { s with heap:=h' }) :
 wpAny (model prog w) A (call (.type "list") [.ref z]) Q E s:=by
 have zl:z<s.heap.objs.size:=Ae ez;refine callType_codes PySem.F.called_list (PySem.F.typeCall_list_1 _) PySem.F.entry_list_init (code_list_new (Q₁:=fun o u=>o=.ref s.heap.objs.size/\u={ s with heap:=s.heap.push (mk [] 0) }) _ ⟨rfl,rfl⟩) ?_
 rintro _ _ ⟨rfl,rfl⟩
 have e0:(s.heap.push (mk [] 0)).get? s.heap.objs.size=some (mk [] 0):=Ag _ rfl;have ez0:IsZip (s.heap.push (mk [] 0)) z TI TO .none:=Aa _ ez;refine⟨⟨_,e0,rfl⟩,PySem.F.args_list_init_2 _ _,?_⟩
 refine aTx e0 ez0 (De zl) fun h' c' e' u'=>⟨plainId_quiet PySem.F.plain_extend_loop _,aTp F .none n [] c' _ (F.blind _ _ _ _ p u') e' (by simpa using b) fun h2 us c2 l e2=>?_⟩
 exact⟨rfl,q h2 us c2 l e2⟩
end
end Zp
namespace Zp
open PySem
structure Pl (old z TI TO i1 i2 l1 l2 S:Addr):Prop where
 ap:ZipApart z TI TO i1 i2 l1 l2
 new:∀ a∈[z,TO,i1,i2],old<=a
 low:∀ a∈[z,TO,i1,i2],a<S
 lo2:∀ a∈[TI,l1,l2],a<S
structure Got (h0:Heap)(old S:Addr)(xs ys:Array Value)(vs:List Value)(h:Heap):Prop where
 vals:∀ (j:Nat) (v:Value),vs[j]?=some v->v=.ref (S+1+j)
 pair:∀ j:Nat,j<vs.length->∃ x y,xs[j]?=some x/\ys[j]?=some y/\IsPair h (S+1+j) x y
 keep:∀ b o,b<old->h0.get? b=some o->h.get? b=some o
structure Zs (h0:Heap)(old z TI TO i1 i2 l1 l2 S:Addr)(xs ys:Array Value)(n:Nat)(vs:List Value)(h:Heap):Prop extends Got h0 old S xs ys vs h where
 cnt:vs.length+n=min xs.size ys.size
 size:h.objs.size=S+1+vs.length
 now:(vs=[]/\IsZip h z TI TO .none/\∃ a b,IsPair h TO a b)\/∃ f T oT,h.get? z=some (rcd TI TO T f)/\S<T/\h.get? T=some oT
 its:IsPair h TI (.ref i1) (.ref i2)
 it1:h.IsListIter i1 l1 vs.length
 it2:h.IsListIter i2 l2 vs.length
 ls1:h.IsList l1 xs
 ls2:h.IsList l2 ys
section
variable {h0 h h':Heap}{old z TI TO i1 i2 l1 l2 S:Addr}{xs ys:Array Value}{n:Nat}{vs:List Value}
theorem Pl.ns (P:Pl old z TI TO i1 i2 l1 l2 S):S∉[z,TO,i1,i2]:=fun m=>Dv _ (P.low _ m)
theorem Pl.gt (P:Pl old z TI TO i1 i2 l1 l2 S){b:Addr}(m:S<b):b∉[z,TO,i1,i2]:=fun k=>Nat.lt_asymm m (P.low _ k)
theorem Pl.lt (P:Pl old z TI TO i1 i2 l1 l2 S){b:Addr}(m:b<old):b∉[z,TO,i1,i2]:=fun k=>Nat.not_le.mpr m (P.new _ k)
theorem aN4 (S:Addr)(j:Nat):S<S+1+j:=Av (Nat.lt_succ_self S) (Da _ _)
theorem Got.on (G:Got h0 old S xs ys vs h)(P:Pl old z TI TO i1 i2 l1 l2 S)(o:Out [z,TO,i1,i2] h h'):Got h0 old S xs ys vs h' where
 vals:=G.vals
 pair j m:=let ⟨x,y,e1,e2,e3⟩:=G.pair j m;⟨x,y,e1,e2,o _ _ (P.gt (aN4 S j)) e3⟩
 keep b u m e:=o b u (P.lt m) (G.keep b u m e)
theorem Zs.next (Z:Zs h0 old z TI TO i1 i2 l1 l2 S xs ys (n+1) vs h)(P:Pl old z TI TO i1 i2 l1 l2 S){x y:Value}{f:Bool}{T:Addr}{oT:Obj}(ex:xs[vs.length]?=some x)(ey:ys[vs.length]?=some y)
 (r:h'.get? z=some (rcd TI TO T f)) (rT:S<T) (eT:h'.get? T=some oT) (a1:h'.IsListIter i1 l1 (vs.length+1)) (a2:h'.IsListIter i2 l2 (vs.length+1)) (pr:IsPair h' h.objs.size x y) (sz:h'.objs.size=h.objs.size+1)
 (o:Out [z,TO,i1,i2] h h'):Zs h0 old z TI TO i1 i2 l1 l2 S xs ys n (vs++[.ref h.objs.size]) h':=by
 have D:=P.ap;have len:(vs++[Value.ref h.objs.size]).length=vs.length+1:=by simp
 have G:=Z.toGot.on P o
 refine⟨⟨fun j v e=>?_,fun j m=>?_,G.keep⟩,by rw[len];have:=Z.cnt;omega,by rw[len,sz,Z.size];rfl,.inr ⟨f,T,oT,r,rT,eT⟩,o _ _ (by simp[D.TIz,D.TITO,D.TIi1,D.TIi2]) Z.its,by rw[len];exact a1,by rw[len];exact a2,
  Heap.IsList.at Z.ls1 fun u e=>o _ u (by simp[D.l1z,D.l1TO,D.l1i1,D.l1i2]) e,Heap.IsList.at Z.ls2 fun u e=>o _ u (by simp[D.l2z,D.l2TO,D.l2i1,D.l2i2]) e⟩
 · rcases Gp j vs.length with q | q
   · exact G.vals j v (by rwa [By q]at e)
   · have jl:j=vs.length:=by have:=(Au.mp e).1;rw[len]at this;omega
     subst jl;simp only[List.getElem?_concat_length,Db.injEq]at e;rw[←e,Z.size]
 · rcases Gp j vs.length with q | q
   · exact G.pair j q
   · have jl:j=vs.length:=by rw[len]at m;omega
     subst jl;exact⟨x,y,ex,ey,Z.size▸pr⟩
end
section
variable {prog:Program}{w:World}{A:Around}{h0:Heap}{old z TI TO i1 i2 l1 l2 S:Addr}{xs ys:Array Value}
theorem aSv {h h':Heap}(o:Out [z,i1,i2] h h'):Out [z,TO,i1,i2] h h':=fun c u m=>o c u (by simp only[An,Bd,or_false,not_or]at m ⊢;exact⟨m.1,m.2.2⟩)
theorem aP8 {h h':Heap}(o:∀ c u,c≠z->c≠TO->c≠i1->c≠i2->h.get? c=some u->h'.get? c=some u):Out [z,TO,i1,i2] h h':=fun c u m=>by
 simp only[An,Bd,or_false,not_or]at m;exact o c u m.1 m.2.1 m.2.2.1 m.2.2.2
theorem aQ3 (hh:A.handled=none)(P:Pl old z TI TO i1 i2 l1 l2 S):Feed prog w A z S (Zs h0 old z TI TO i1 i2 l1 l2 S xs ys) (fun vs h=>vs.length=min xs.size ys.size/\Got h0 old S xs ys vs h) where
 more n vs s Q E Z q:=by
  have c:=Z.cnt;have hx:vs.length<xs.size:=by omega
  have hy:vs.length<ys.size:=by omega
  have ex:=Array.getElem?_eq_getElem hx;have ey:=Array.getElem?_eq_getElem hy;have sS:S<s.heap.objs.size:=by rw[Z.size];exact aN4 S _
  rcases Z.now with ⟨e0,ez,a,b,eO⟩ | ⟨f,T,oT,ez,mT,eT⟩
  · refine wpAny_pyNext_zip_item P.ap ez Z.its eO Z.it1 Z.it2 Z.ls1 Z.ls2 ex ey fun h' b1 b2 b3 b4 b5 b6 b7=>?_
    exact q _ h' (Z.next P ex ey (f:=false) b1 sS b5 b3 b4 b5 b6 (aP8 b7)) fun o e=>aP8 b7 S o P.ns e
  · refine nxt ez rfl (aIy P.ap ez eT Z.its Z.it1 Z.it2 Z.ls1 Z.ls2 ex ey fun h' b1 b2 b3 b4 b5 b6=>⟨_,rfl,?_⟩)
    have o4:=aSv (TO:=TO) b6;exact q _ h' (Z.next P ex ey b1 mT (o4 T _ (P.gt mT) eT) b2 b3 b4 b5 o4) fun o e=>o4 S o P.ns e
 over vs s Q E Z q:=by
  have c:=Z.cnt;have no:xs.size<=vs.length\/ys.size<=vs.length:=by omega
  rcases Z.now with ⟨e0,ez,a,b,eO⟩ | ⟨f,T,oT,ez,mT,eT⟩
  · refine wpAny_pyNext_zip_end hh P.ap ez Z.its eO Z.it1 Z.it2 Z.ls1 Z.ls2 (no.imp Array.getElem?_eq_none Array.getElem?_eq_none) fun h' b7=>?_
    exact q h' ⟨c,Z.toGot.on P (aP8 b7)⟩ fun o e=>aP8 b7 S o P.ns e
  · refine nxt ez rfl (dry hh P.ap ez eT Z.its Z.it1 Z.it2 Z.ls1 Z.ls2 no fun h' e o b1 b2 b3=>⟨e,o,rfl,b1,b2,?_⟩)
    exact q h' ⟨c,Z.toGot.on P (aSv b3)⟩ fun u e=>aSv (TO:=TO) b3 S u P.ns e
 blind n vs h h' Z u:=by
  have go:∀ b o,b≠S->h.get? b=some o->h'.get? b=some o:=fun b o m e=>(u.2 b m).trans e;have low:∀ a,a∈[z,TO,i1,i2]\/a∈[TI,l1,l2]->a≠S:=fun a m=>Ay (m.elim (P.low a) (P.lo2 a))
  refine⟨⟨Z.vals,fun j m=>?_,fun b o m e=>go b o ?_ (Z.keep b o m e)⟩,Z.cnt,u.1.trans Z.size,?_,go _ _ (low _ (by simp)) Z.its,Z.it1.at fun o e=>go _ o (low _ (by simp)) e,Z.it2.at fun o e=>go _ o (low _ (by simp)) e,
   Heap.IsList.at Z.ls1 fun o e=>go _ o (low _ (by simp)) e,Heap.IsList.at Z.ls2 fun o e=>go _ o (low _ (by simp)) e⟩
  · obtain⟨x,y,e1,e2,e3⟩:=Z.pair j m
    exact⟨x,y,e1,e2,go _ _ (De (aN4 S j)) e3⟩
  · exact Ay (Eg (Av m (P.new z (by simp))) (P.low z (by simp)))
  · rcases Z.now with ⟨e0,ez,a,b,eO⟩ | ⟨f,T,oT,ez,mT,eT⟩
    · exact .inl ⟨e0,go _ _ (low _ (by simp)) ez,a,b,go _ _ (low _ (by simp)) eO⟩
    · exact .inr ⟨f,T,oT,go _ _ (low _ (by simp)) ez,mT,go _ _ (De mT) eT⟩
theorem aP1 {E:Value->Shared->Prop}{Q:Value->Shared->Prop}{s:Shared}{a b:Value}(hh:A.handled=none)(D:ZipApart z TI TO i1 i2 l1 l2)(nw:∀ a∈[z,TO,i1,i2],old<=a)
 (ez:IsZip s.heap z TI TO .none) (eO:IsPair s.heap TO a b) (its:IsPair s.heap TI (.ref i1) (.ref i2)) (it1:s.heap.IsListIter i1 l1 0) (it2:s.heap.IsListIter i2 l2 0) (ls1:s.heap.IsList l1 xs) (ls2:s.heap.IsList l2 ys) (big:min xs.size ys.size<=sizeLine)
 (q:∀ h' us c,us.length=min xs.size ys.size->Got s.heap old s.heap.objs.size xs ys us h'->h'.get? s.heap.objs.size=some (mk us c)->Q (.ref s.heap.objs.size) { s with heap:=h' }) :
 wpAny (model prog w) A (call (.type "list") [.ref z]) Q E s:=by
 have up:∀ c o,s.heap.get? c=some o->(s.heap.push (mk [] 0)).get? c=some o:=fun c o=>Aa _;obtain⟨_,q1,_⟩:=id it1;obtain⟨_,q2,_⟩:=id it2;obtain⟨_,q3,_⟩:=id ls1;obtain⟨_,q4,_⟩:=id ls2;have P:Pl old z TI TO i1 i2 l1 l2 s.heap.objs.size:=⟨D,nw,by simpa using ⟨Ae ez,Ae eO,Ae q1,Ae q2⟩,by simpa using ⟨Ae its,Ae q3,Ae q4⟩⟩
 refine aWw (h0:=s.heap) ez (aQ3 (A:=A.in1.in1) (h0:=s.heap) (xs:=xs) (ys:=ys) hh P) (n:=min xs.size ys.size) ⟨⟨fun j v e=>by simp at e,fun j m=>absurd m (Gs _),fun b o _ e=>up b o e⟩,by simp,by rw[Bw];rfl,
  .inl ⟨rfl,up _ _ ez,a,b,up _ _ eO⟩,up _ _ its,it1.at (up _),it2.at (up _),Heap.IsList.at ls1 (up _),Heap.IsList.at ls2 (up _)⟩ big fun h' us c l e=>q h' us c l.1 l.2 e
end
end Zp
namespace L2
open PySem PySem.Spec PyProof.Rows
mutual
inductive Has (K:PySem.W.Frag) (H:Hp):V->PyData->Prop
 | non:Has K H .non .none
 | bl (b:Bool):Has K H (.bl b) (.bool b)
 | int (i:Int):Has K H (.int i) (.int i)
 | str (x:Str):Has K H (.str x) (.str x)
 | lst {a:Addr} {xs:List V} {ds:List PyData}:SqL K H a xs->HasAll K H xs ds->Has K H (.ref a) (.list ds)
 | tup {a:Addr} {xs:List V} {ds:List PyData}:SqT K H a xs->HasAll K H xs ds->Has K H (.ref a) (.tuple ds)
inductive HasAll (K:PySem.W.Frag) (H:Hp):List V->List PyData->Prop
 | nil:HasAll K H [] []
 | cons {v:V} {d:PyData} {vs:List V} {ds:List PyData}:Has K H v d->HasAll K H vs ds->HasAll K H (v :: vs) (d :: ds)
end
theorem aL.seqT {K:PySem.W.Frag}{H H':Hp}{a:Addr}{xs:List V}(e:aL H H')(h:SqT K H a xs):SqT K H' a xs:=by
 rcases h with (h | ⟨o,h⟩) | h
 · exact .inl (.inl (e _ _ h))
 · exact .inl (.inr ⟨o,e _ _ h⟩)
 · exact .inr h
mutual
theorem Has.same {K:PySem.W.Frag}{H H':Hp}(e:aL H H'):∀ {v:V} {d:PyData},Has K H v d->Has K H' v d
 | _,_,.non=>.non
 | _,_,.bl b=>.bl b
 | _,_,.int i=>.int i
 | _,_,.str x=>.str x
 | _,_,.lst h r=>.lst (e.seq h) (HasAll.same e r)
 | _,_,.tup h r=>.tup (e.seqT h) (HasAll.same e r)
theorem HasAll.same {K:PySem.W.Frag}{H H':Hp}(e:aL H H'):∀ {v:List V} {d:List PyData},HasAll K H v d->HasAll K H' v d
 | _,_,.nil=>.nil
 | _,_,.cons h r=>.cons (Has.same e h) (HasAll.same e r)
end
mutual
theorem Has.reads {X:Cx}{pins:List (Addr×Obj)}{σ:St}{H:Hp}{s:Shared}(I:Inv X pins σ H s):∀ {v:V} {d:PyData},Has X.K H v d->∀ {u:Value},bZ v u->∃ as,Reads s.heap u d as
 | _,_,.non,u,r=>by cases (show u=Value.none from r);exact⟨_,.none⟩
 | _,_,.bl b,u,r=>by cases (show u=Value.bool b from r);exact⟨_,.bool b⟩
 | _,_,.int i,u,r=>by obtain⟨t,rfl⟩:=(show ∃ t,u=Value.int i t from r);exact⟨_,.int i t⟩
 | _,_,.str x,u,r=>by obtain⟨t,rfl⟩:=(show ∃ t,u=Value.str x t from r);exact⟨_,.str x t⟩
 | _,_,.lst (a:=a) h r,u,q=>by
  cases (show u=Value.ref a from q)
  obtain⟨its,rv,p,_⟩:=I.list h;obtain⟨as,ra⟩:=HasAll.reads I r rv;obtain⟨o,ho,hc,n,hd⟩:=p.isList;exact⟨_,.list ho hc hd (by rw[List.toList_toArray];exact ra)⟩
 | _,_,.tup (a:=a) h r,u,q=>by
  cases (show u=Value.ref a from q)
  obtain⟨its,rv,p,_⟩:=I.tuple h;obtain⟨as,ra⟩:=HasAll.reads I r rv;obtain⟨o,ho,hc,n,hd⟩:=p;exact⟨_,.tuple ho hc hd (by rw[List.toList_toArray];exact ra)⟩
theorem HasAll.reads {X:Cx}{pins:List (Addr×Obj)}{σ:St}{H:Hp}{s:Shared}(I:Inv X pins σ H s):∀ {vs:List V} {ds:List PyData},HasAll X.K H vs ds->∀ {us:List Value},bU vs us->∃ as,ReadsAll s.heap us ds as
 | _,_,.nil,us,r=>by cases r;exact⟨_,.nil⟩
 | _,_,.cons h t,us,r=>by
  cases r with
  | cons r1 r2 =>
   obtain⟨a1,h1⟩:=Has.reads I h r1;obtain⟨a2,h2⟩:=HasAll.reads I t r2;exact⟨_,.cons h1 h2⟩
end
def dB (ns:List Bool):PyData:=.list (ns.map PyData.bool)
section
variable {X:Cx}
def aV6 (K:PySem.W.Frag):R2:=fun x y H Q=>∃ d e,Has K H x d/\Has K H y e/\SeqAt.shaped d=true/\SeqAt.shaped e=true/\Q (.bl (PyData.eqv d e)) H
def aWa (K:PySem.W.Frag):R2:=fun x y H Q=>∃ d e,Has K H x d/\Has K H y e/\SeqAt.shaped d=true/\SeqAt.shaped e=true/\Q (.bl (!PyData.eqv d e)) H
theorem aLq (hu:X.A.units+64<cLine):OpR X (compareOp .Eq) (aV6 X.K):=by
 intro pins s σ H x y v u Q I rx ry h;obtain⟨d,e,hd,he,sd,se,q⟩:=h;obtain⟨as,ra⟩:=hd.reads I rx;obtain⟨bs,rb⟩:=he.reads I ry;exact SeqAt.compareEq_shaped ra rb sd se hu ⟨.bl _,H,I,rfl,q⟩
theorem aQ2 (hu:X.A.units+64<cLine):OpR X (compareOp .NotEq) (aWa X.K):=by
 intro pins s σ H x y v u Q I rx ry h;obtain⟨d,e,hd,he,sd,se,q⟩:=h;obtain⟨as,ra⟩:=hd.reads I rx;obtain⟨bs,rb⟩:=he.reads I ry;exact SeqAt.compareNe_shaped ra rb sd se hu ⟨.bl _,H,I,rfl,q⟩
theorem lU:∀ {ns:List Int} {us:List Value},bU (ns.map V.int) us->IntsAre us ns:=fun r=>aEd r
theorem aKv (hc:X.calm=true):kI X (.builtin "sum") (fun xs H Q=>∃ (a:Addr) (ns:List Int),xs=[.ref a]/\SqL X.K H a (ns.map V.int)/\Q (.int ns.sum) H):=by
 intro pins s σ H xs us Q I r h;obtain⟨a,ns,rfl,hq,q⟩:=h;obtain⟨u,rfl,rx⟩:=kE r;cases rx;obtain⟨its,rv,p,_⟩:=I.list hq;have hi:=lU rv;obtain⟨nums,hx⟩:=hi.allInts.items;have hl':s.heap.IsList a (intItems nums):=hx▸p.isList;refine sum_intListG (I.ok.hd hc) hl' fun h' tk t' hk=>?_
 have e1:ns=nums.toList.map (fun z=>z.1):=by
  rw[←nums_intItems,←hx];exact(show numsOf its.toArray.toList=ns from hi.numsOf).symm
 have e2:preSum (numAt nums) nums.size=ns.sum:=by rw[preSum_eq,Du (by simp),e1]
 exact⟨.int ns.sum,H,I.kept hk,⟨t',by rw[e2]⟩,q⟩
theorem vU:∀ {bs:List Bool} {us:List Value},bU (bs.map V.bl) us->LSm.BoolsAre us bs
 | [],_,.nil=>.nil
 | b :: r,_,.cons h t=>by
  cases (show _=Value.bool b from h)
  exact .cons b (vU t)
theorem Inv.laidAll {pins:List (Addr×Obj)}{σ:St}{H H2:Hp}{s:Shared}{h':Heap}{t':Nat}(I:Inv X pins σ H s)(k:∀ b u,s.heap.get? b=some u->h'.get? b=some u)(same:aL H H2)
 (new:∀ b o,H2 b=some o->H b=none->s.heap.objs.size<=b/\dD X.prog X.w H2 h' b o):Inv X pins σ H2 { s with heap:=h',toks:=t' }:=by
 refine I.un ⟨fun b u q _ _ _=>k b u q,fun b u q _ _ _=>⟨u.slots,k b u q⟩,fun b u q n _=>?_,fun b u q _=>⟨u,k b u q⟩,fun b xs q=>same b _ q,fun b u xs q=>same b _ q,fun b ps q=>⟨#[],by rw[same b _ q];simp⟩⟩ fun b o e=>?_
 · cases e:H2 b with
   | none=>rfl
   | some o=>exact absurd (Ae q) (Nat.not_lt.mpr (new b o e n).1)
 · cases e1:H b with
   | none=>exact(new b o e e1).2
   | some u =>
    have:=same b u e1
    rw[e]at this;cases this;exact(I.hok b _ e1).stay (fun c v _ q=>k c v q) (fun c q=>same c _ q) fun c xs q=>same c _ q
theorem zO:∀ as:List Addr,bU (as.map V.ref) (as.map Value.ref)
 | []=>.nil
 | _ :: r=>.cons rfl (zO r)
def aUx (xs ys:List V)(H H2:Hp)(l:Addr)(ts:List Addr):Prop :=
 aL H H2/\H l=none/\H2 l=some (.lst (ts.map V.ref))/\ts.length=min xs.length ys.length/\∀ (j:Nat) (t:Addr),ts[j]?=some t->H t=none/\∃ x y,xs[j]?=some x/\ys[j]?=some y/\H2 t=some (.tup [x,y])
def aMb (K:PySem.W.Frag)(t:TA):TE:=fun σ H Q=>t σ H fun vs H1=>∃ a b xs ys,vs=[.ref a,.ref b]/\SqL K H1 a xs/\SqL K H1 b ys/\∀ l ts H2,aUx xs ys H1 H2 l ts->Q (.ref l) H2
theorem aEr {pins:List (Addr×Obj)}{σ:St}{H:Hp}{s:Shared}{a b:Addr}{xs ys:List V}{Q:VK}(hc:X.calm=true)(I:Inv X pins σ H s)(ha:SqL X.K H a xs)(hb:SqL X.K H b ys)(q:∀ l ts H2,aUx xs ys H H2 l ts->Q (.ref l) H2) :
 wpAny (model X.prog X.w) X.A (call (.type "zip") [.ref a,.ref b]) (fun z s1=>wpAny (model X.prog X.w) X.A (call (.type "list") [z]) (EP X pins σ Q) X.xe s1) X.xe s:=by
 obtain⟨us,ru,pu,zu⟩:=I.list ha;obtain⟨vs,rv,pv,zv⟩:=I.list hb;have lu:=ru.length;have lv:=rv.length;have a1:a<s.heap.objs.size:=by obtain⟨_,e,_⟩:=pu.isList;exact Ae e
 have a2:b<s.heap.objs.size:=by obtain⟨_,e,_⟩:=pv.isList;exact Ae e
 refine call_zip_2 pu.isList pv.isList fun h1 hz hTI hTO hi1 hi2 hsz hk=>?_
 refine Zp.aP1 (s:={ s with heap:=h1 }) (old:=s.heap.objs.size) (xs:=us.toArray) (ys:=vs.toArray) (I.ok.hd hc) (zipApart_new a1 a2) (by simp[Da]) hz hTO hTI hi1 hi2 (Heap.IsList.at pu.isList (fun o e=>hk _ o e)) (Heap.IsList.at pv.isList (fun o e=>hk _ o e))
  (by simp only[Am];omega) fun h' ws c hlen G hl=>?_
 dsimp only at hlen G hl ⊢
 have kp':∀ b o,s.heap.get? b=some o->h'.get? b=some o:=fun b o e=>G.keep b o (Ae e) (hk b o e);have big:s.heap.objs.size<=h1.objs.size:=by rw[hsz];exact Da _ _
 obtain⟨as,eas⟩:∃ as,as=Eo (h1.objs.size+1) ws.length:=⟨_,rfl⟩;have hlen':as.length=min xs.length ys.length:=by rw[eas,List.length_range',hlen];simp only[Am];omega
 have gt:∀ (j:Nat) (t:Addr),as[j]?=some t->j<ws.length/\t=h1.objs.size+1+j:=fun j t e=>by
  rw[eas]at e;obtain⟨m,q⟩:=Au.mp e;rw[List.getElem_range',Nat.one_mul]at q;exact⟨by simpa using m,q.symm⟩
 have hws:ws=as.map Value.ref:=Fm (by rw[eas];simp) fun j m1 m2=>by
  rw[G.vals j _ (Aj m1)];simp[eas]
 have above:∀ t∈as,h1.objs.size<t:=fun t m=>by
  obtain⟨j,e⟩:=List.mem_iff_getElem?.mp m;rw[(gt j t e).2];exact Zp.aN4 _ j
 have hasz:∀ t∈as,s.heap.objs.size<=t:=fun t ht=>Ah big (Eh (above t ht));have nd:as.Nodup:=eas▸List.nodup_range';have hfl:H h1.objs.size=none:=I.hok.fresh big
 let H2:Hp:=fun p=>if p=h1.objs.size then some (.lst (as.map V.ref)) else match as.findIdx? (·==p) with
  | some j=>match xs[j]?,ys[j]? with
   | some x,some y=>some (.tup [x,y])
   | _,_=>H p
  | none=>H p
 have fnd:∀ (j:Nat) (t:Addr),as[j]?=some t->as.findIdx? (·==t)=some j:=fun j t e=>by
  rw[Ff];obtain⟨hj,et⟩:=Au.mp e;refine⟨hj,by simp[et],fun k hkj=>?_⟩
  intro z;have z':as[k]=t:=by simpa using z
  have:k=j:=(List.getElem_inj nd).mp (z'.trans et.symm)
  omega
 have ne_l:∀ t∈as,t≠h1.objs.size:=fun t ht=>De (above t ht)
 have at_t:∀ (j:Nat) (t:Addr),as[j]?=some t->∃ x y u v,xs[j]?=some x/\ys[j]?=some y/\bZ x u/\bZ y v/\IsPair h' t u v/\H2 t=some (.tup [x,y]):=fun j t e=>by
  obtain⟨jm,et⟩:=gt j t e;obtain⟨u,v,e1,e2,e3⟩:=G.pair j jm;rw[←et]at e3;have hj:j<as.length:=(Au.mp e).1;have hx:j<xs.length:=by omega
  have hy:j<ys.length:=by omega
  obtain⟨u',f1,r1⟩:=ru.get (Aj hx);obtain⟨v',f2,r2⟩:=rv.get (Aj hy);have g1:us.toArray[j]?=some u':=by simpa using f1
  have g2:vs.toArray[j]?=some v':=by simpa using f2
  rw[e1]at g1;rw[e2]at g2;cases g1;cases g2;refine⟨_,_,u,v,Aj hx,Aj hy,r1,r2,e3,?_⟩
  show (if t=h1.objs.size then _ else _)=_
  rw[if_neg (ne_l t (Er e))];simp only[fnd j t e,Aj hx,Aj hy]
 have same:aL H H2:=fun p o e=>by
  show (if p=h1.objs.size then _ else _)=_
  rw[if_neg (bO e hfl)]
  have:as.findIdx? (·==p)=none:=by
   rw[List.findIdx?_eq_none_iff];intro t ht
   have:t≠p:=fun z=>by
    subst z;have:=I.hok.fresh (hasz t ht)
    rw[e]at this;cases this
   simpa using this
  rw[this];exact e
 have atl:H2 h1.objs.size=some (.lst (as.map V.ref)):=if_pos rfl;refine⟨.ref h1.objs.size,H2,I.laidAll kp' same fun p o e n=>?_,rfl,q _ as H2 ⟨same,hfl,atl,hlen',fun j t e=>?_⟩⟩
 · by_cases hp:p=h1.objs.size
   · subst hp
     rw[atl]at e;cases e;refine⟨big,by rw[Ac,hlen'];omega,as.map Value.ref,c,?_,?_⟩
     · exact zO as
     · rw[hl,hws];rfl
   · have e':(match as.findIdx? (·==p) with
      | some j=>match xs[j]?,ys[j]? with
       | some x,some y=>some (HO.tup [x,y])
       | _,_=>H p
      | none=>H p)=some o:=by
      have:H2 p=_:=if_neg hp
      rw[←this];exact e
     cases ef:as.findIdx? (·==p) with
     | none=>rw[ef,n]at e';cases e'
     | some j =>
      obtain⟨hj,hpj,_⟩:=Ff.mp ef
      have ej:as[j]?=some p:=by
       rw[Aj hj];simpa using hpj
      obtain⟨x,y,u,v,_,_,r1,r2,pr,h2⟩:=at_t j p ej;rw[e]at h2;cases h2;exact⟨hasz p (Er ej),by show 2<=sizeLine;decide,[u,v],.cons r1 (.cons r2 .nil),⟨_,pr,rfl,_,rfl⟩⟩
 · obtain⟨x,y,u,v,f1,f2,r1,r2,pr,h2⟩:=at_t j t e
   exact⟨I.hok.fresh (hasz t (Er e)),x,y,f1,f2,h2⟩
theorem aDm {a b:Expr}{t:TA}{p1 p2 q1 q2:Pos}(hc:X.calm=true)(g1:Gl X "list")(m1:X.mg "list" = none)(g2:Gl X "zip")(m2:X.mg "zip" = none)(ha:PA X [a,b] t)
 (hs:starEach [a,b] X.env=[(false,eval a X.env),(false,eval b X.env)]:=by rfl) (hs2:starEach [b] X.env=[(false,eval b X.env)]:=by rfl)
 (hs3:starEach [Expr.Call (.Name "zip" p2) [a,b] [] q2] X.env=[(false,eval (.Call (.Name "zip" p2) [a,b] [] q2) X.env)]:=by rfl) :
 PE X (.Call (.Name "list" p1) [.Call (.Name "zip" p2) [a,b] [] q2] [] q1) (aMb X.K t):=by
 intro pins s σ H Q I h;refine Call_ (oD I g1 m1 boot_list (Ce ?_ hs3 rfl))
 rw[hs3];refine Calls.spliced_cons ?_
 refine Call_ (oD I g2 m2 boot_zip (Ce (thn (ha q2 pins s σ H _ I h) fun us s1 ⟨vs,H1,I1,r1,x,y,xs,ys,e,h1,h2,q⟩=>?_) (by rw[hs,hs2]) (by rw[hs2];rfl)))
 subst e;obtain⟨u,v,rfl,rx,ry⟩:=aJr r1;cases rx;cases ry;refine thn (aEr hc I1 h1 h2 q) fun z s2 hz=>?_
 exact Calls.spliced_nil hz
end
end L2
namespace L2
open PySem PySem.Spec PyProof.Rows
theorem Inv.turnedNew {X:Cx}{pins:List (Addr×Obj)}{σ:St}{H:Hp}{s:Shared}{h':Heap}{t':Nat}{fp:List Addr}{a:Addr}{o:HO}(I:Inv X pins σ H s)
 (k:∀ b u,b∉fp->s.heap.get? b=some u->h'.get? b=some u) (hf:∀ b∈fp,qA X pins H b) (ho:∀ b∈fp,∃ u,h'.get? b=some u) (hp:s.heap.objs.size<=a) (new:dD X.prog X.w (upd H a o) h' a o) :
 Inv X pins σ (upd H a o) { s with heap:=h',toks:=t' }:=by
 have fr:H a=none:=I.hok.fresh hp
 have nfp:∀ b u,H b=some u->b∉fp:=fun b u e z=>by
  have:=(hf b z).1
  rw[e]at this;cases this
 refine I.step (g':=s.gens) (d':=s.drawn) (ch:=fp) (fun b hb=>⟨(hf b hb).2.2.2.1,(hf b hb).2.1,(hf b hb).2.2.2.2.1,(hf b hb).2.2.2.2.2⟩) (fun b u _ _ hc e _=>k b u hc e) (fun b u _ _ hc e _=>⟨u.slots,k b u hc e⟩)
  (fun b u _ e n=>?_) (fun b u hc e=>⟨u,k b u hc e⟩) (fun b xs e=>?_) (fun b u v e=>?_) (fun b ps e=>⟨#[],?_⟩) (fun m hm=>?_) (fun b u e=>?_) I.bare
 · rw[aR (Ay (Av (Ae e) hp))];exact n
 · rw[aR (bO e fr)];exact e
 · rw[aR (bO e fr)];exact e
 · rw[aR (bO e fr),e];simp
 · obtain⟨ob,es,ep,hob,r⟩:=hm
   exact⟨ob,es,ep,k _ ob (fun z=>(hf _ z).2.1 rfl) hob,r⟩
 · by_cases hb:b=a
   · subst hb
     rw[bL]at e;cases e;exact new
   · rw[aR hb]at e
     refine(I.hok b u e).stay (fun c v hc q=>k c v ?_ q) (fun c q=>by rw[aR (bO q fr)];exact q) fun c xs q=>by rw[aR (bO q fr)];exact q
     rcases hc with z | z
     · rw[z];exact nfp b u e
     · exact nfp c _ z
theorem Inv.turnedL {X:Cx}{pins:List (Addr×Obj)}{σ:St}{H:Hp}{s:Shared}{h':Heap}{t':Nat}{fp:List Addr}(I:Inv X pins σ H s)
 (k:∀ b u,b∉fp->s.heap.get? b=some u->h'.get? b=some u) (hf:∀ b∈fp,qA X pins H b):Inv X pins σ H { s with heap:=h',toks:=t' }:=by
 have nfp:∀ b u,H b=some u->b∉fp:=fun b u e z=>by
  have:=(hf b z).1
  rw[e]at this;cases this
 refine I.step (g':=s.gens) (d':=s.drawn) (ch:=fp) (fun b hb=>⟨(hf b hb).2.2.2.1,(hf b hb).2.1,(hf b hb).2.2.2.2.1,(hf b hb).2.2.2.2.2⟩) (fun b u _ _ hc e _=>k b u hc e) (fun b u _ _ hc e _=>⟨u.slots,k b u hc e⟩)
  (fun b u _ _ n=>n) (fun b u hc e=>⟨u,k b u hc e⟩) (fun b xs e=>e) (fun b u v e=>e) (fun b ps e=>⟨#[],by rw[e];simp⟩) (fun m hm=>?_) (fun b u e=>?_) I.bare
 · obtain⟨ob,es,ep,hob,r⟩:=hm
   exact⟨ob,es,ep,k _ ob (fun z=>(hf _ z).2.1 rfl) hob,r⟩
 · refine(I.hok b u e).stay (fun c v hc q=>k c v ?_ q) (fun c q=>q) fun c xs q=>q
   rcases hc with z | z
   · rw[z];exact nfp b u e
   · exact nfp c _ z
section
variable {X:Cx}
def aT6 (i j:Int):Prop:=i.natAbs.log2<1000000/\j.natAbs.log2<1000000
def aUw (i j:Int):Prop:=0<j/\j.natAbs.log2<9000
theorem qT {i:Int}(h:i.natAbs.log2<1000000):Builtin.Int.intBits i<=2^20:=by
 have million:1000000<(2:Nat)^20:=by decide
 unfold Builtin.Int.intBits
 first
  | omega
  | (split<;>omega)
theorem aNl:OpR X (binaryOp .Mult) (rI aT6 fun i j=>.int (i*j)):=opI fun _ _ _ _ _ _ _ hc q=>mul_int q (.of_bits (qT hc.1) (qT hc.2))
theorem aJ2:OpR X (binaryOp .FloorDiv) (rI aUw fun i j=>.int (i/j)):=opI fun i j _ _ _ _ _ hc q=>by
 have h1:(0:Int)<j:=hc.1;exact floordiv_int (by omega) (by rw[Int.fdiv_eq_ediv_of_nonneg i (by omega)];exact q) (.inl (PyProof.noPylong_of_log2 hc.2))
end
end L2
namespace L2
open PySem PySem.Spec PyProof.Rows
def aG (P:Program)(w:World)(K:PySem.W.Frag)(mg:Str->Option Value)(base:Heap)(CX:CXT)(k:Nat)(x:Str)(ps:List Str)(sp:Sp):Prop :=
 ∃ (f:Addr) (fd:FuncData),FnOk P w K mg base CX k f fd ps sp/\mg x=some (.ref f)/\Fg K (.ref f)=true/\yY K fd ps []
def bF (K:PySem.W.Frag)(mg:Str->Option Value)(x:Str)(st:Stmt)(ps:List Str):Prop :=
 ∃ (f:Addr) (fd:FuncData),Fun K x x st f fd/\mg x=some (.ref f)/\yY K fd ps []
theorem aG.mono {P:Program}{w:World}{K:PySem.W.Frag}{mg:Str->Option Value}{base:Heap}{CX:CXT}{j k:Nat}{x:Str}{ps:List Str}{sp:Sp}(c:aG P w K mg base CX j x ps sp)(h:j<=k):aG P w K mg base CX k x ps sp :=
 let ⟨f,fd,F,m,kp,b⟩:=c
 ⟨f,fd,F.mono h,m,kp,b⟩
theorem bG {K:PySem.W.Frag}{mg:Str->Option Value}{h:Heap}{x:Str}{st:Stmt}{ps:List Str}{f:Addr}{oc:Value}{od an:Option Addr}{osl:Array (Option Value)}{kV doc pm cdv ct:Value}(X:K.In h)(G:h.Ns mainGlobals mg)
 (a:Ch K mainGlobals x=some (some (.ref f))) (l:K.lookup f=some ⟨oc,od,.func (Dt x x (lB st) (iU st) (aT st) .none kV doc pm an cdv ct),osl⟩)
 (c:Fh K cdv x=true) (kp:Fg K (.ref f)=true)
 (hb:∀ (kV doc pm:Value) (an:Option Addr) (cdv ct:Value) (us:List Value),us.length=ps.length->bindArgs (Dt x x (lB st) (iU st) (aT st) .none kV doc pm an cdv ct) ⟨us,[]⟩=pure (ps.zip us)):bF K mg x st ps:=by
 have F:=aI8 (st:=st) l c kp;exact⟨f,_,F,Hc X G a,F.binds hb⟩
def aE8 (sc:Scope)(XN:List Str)(scope:Scope)(N:List Str)(k:Nat)(fs:List Nat):Bool :=
 scope.kind==.function&&decide (scope.names.map (·.1)).Nodup&&scope.names.all (fun y=>y.2 != .free||((sc.names.filter (·.2==.cell)).map (·.1)).contains y.1)&&N.length==k+fs.length &&
  fs.zipIdx.all fun p=>match N[k+p.2]?,XN[p.1]? with
   | some x,some y=>decide (x=y)&&scope.names.lookup x==some .free&&sc.names.lookup x==some .cell
   | _,_=>false
theorem kQ:∀ (names:List (Str×NameKind)) (n:Nat),∀ x,x∈(names.filter (·.2==.cell)).map (·.1)->x∈(cellsFrom n names []).map (·.1)
 | [],_,x,h=>by simp at h
 | (y,k) :: r,n,x,h=>by
  unfold cellsFrom;by_cases hk:(k==NameKind.cell)=true
  · rw[if_pos hk,cX,Bk,Bf]
    rw[Do (by exact hk),Ap,An]at h
    rcases h with h | h
    · right;simp[h]
    · left;exact kQ r (n+1) x h
  · rw[if_neg hk]
    rw[Dq (by exact hk)]at h
    exact kQ r n x h
theorem cR {X:Cx}{sc scope:Scope}{n k:Nat}{N XN:List Str}{fs:List Nat}(hN:X.N=XN)(he:X.env.cells=cellsFrom n sc.names [])(hs:X.env.scope=sc)(h:aE8 sc XN scope N k fs=true):CompOk X scope N k fs:=by
 unfold aE8 at h;simp only[Dm]at h;obtain⟨⟨⟨⟨h1,h2⟩,h3⟩,h4⟩,h5⟩:=h;refine⟨by simpa using h1,of_decide_eq_true h2,fun y hy hf=>?_,by simpa using h4,fun j i e=>?_⟩
 · have:=Ev.mp h3 y hy
   rw[hf]at this;have c:((sc.names.filter (·.2==.cell)).map (·.1)).contains y.1=true:=by simpa using this
   rw[he];exact kQ _ _ _ (by simpa using c)
 · have hm:(i,j)∈fs.zipIdx:=by
    rw[Fw];exact e
   have:=Ev.mp h5 (i,j) hm
   dsimp only at this
   cases e1:N[k+j]? with
   | none=>rw[e1]at this;cases this
   | some x =>
    cases e2:XN[i]? with
    | none=>rw[e1,e2]at this;cases this
    | some y =>
     rw[e1,e2]at this;simp only[Cm]at this;obtain⟨⟨q1,q2⟩,q3⟩:=this;have q1':x=y:=of_decide_eq_true q1;subst q1';refine⟨x,rfl,by rw[hN];exact e2,by simpa using q2,.inl ?_⟩
     show X.env.scope.names.lookup x=some .cell
     rw[hs];simpa using q3
theorem aL.upd_new {H:Hp}{a:Addr}{o:HO}(h:H a=none):aL H (upd H a o):=fun b u e=>by rw[aR (bO e h)];exact e
theorem aL.none {H H':Hp}(e:aL H H'){l:Addr}(h:H' l=Gx):H l=Gx:=e.free h
end L2
namespace Mir
open PySem
inductive XC where
 | NotAlike | BadCount | BadRows | BadRow | OtherSpace | BadSize | BadPlaces | ZeroSum | NoBox | BadTable | NoLine | BadName | NoRow | NoName
 deriving DecidableEq
def XC.nm:XC->Str
 | .NotAlike=>"NotAlike" | .BadCount=>"BadCount" | .BadRows=>"BadRows" | .BadRow=>"BadRow" | .OtherSpace=>"OtherSpace" | .BadSize=>"BadSize" | .BadPlaces=>"BadPlaces"
 | .ZeroSum=>"ZeroSum" | .NoBox=>"NoBox" | .BadTable=>"BadTable" | .NoLine=>"NoLine" | .BadName=>"BadName" | .NoRow=>"NoRow" | .NoName=>"NoName"
inductive D where
 | non | bl (b:Bool) | int (i:Int) | str (x:Str)
 | lst (ds:List D) | tup (ds:List D)
 | obj (c:Nat) (ds:List D)
 | dct (ks:List (List Int)) (ds:List D)
 | any
 | exc (c:XC) (ds:List D)
mutual
/-- no list within -/
def D.imm:D->Bool
 | .lst _=>false
 | .obj _ _=>false
 | .dct _ _=>false
 | .any=>false
 | .tup ds=>D.imms ds
 | .exc _ ds=>D.imms ds
 | _=>true
def D.imms:List D->Bool
 | []=>true
 | d :: r=>d.imm&&D.imms r
end
def D.con:D->Bool
 | .lst _=>true
 | .dct _ _=>true
 | _=>false
inductive Kd where
 | shr | own | tmp | old
 deriving DecidableEq
@[simp] def Kd.rd:Kd->Kd
 | .old=>.shr
 | k=>k
structure Res where
 k:Kd
 fr:Bool
 d:D
abbrev Env:=List (Option Res)
structure Xc where
 c:XC
 ds:List D
inductive R (α:Type) where
 | ok (a:α) | exc (x:Xc) | stk
@[simp] def R.bind {α β:Type}:R α->(α->R β)->R β
 | .ok a,f=>f a
 | .exc x,_=>.exc x
 | .stk,_=>.stk
instance:Monad R where
 pure:=.ok
 bind:=R.bind
@[simp] theorem R.ok_bind {α β:Type} (a:α) (f:α->R β):(R.ok a >>= f)=f a:=rfl
@[simp] theorem R.pure_bind' {α β:Type} (a:α) (f:α->R β):((pure a:R α) >>= f)=f a:=rfl
@[simp] theorem R.exc_bind {α β:Type} (x:Xc) (f:α->R β):(R.exc x >>= f)=.exc x:=rfl
@[simp] theorem R.stk_bind {α β:Type} (f:α->R β):((R.stk:R α) >>= f)=.stk:=rfl
@[simp] theorem R.pure_eq {α:Type} (a:α):(pure a:R α)=.ok a:=rfl
abbrev FE:=Env->R Res
abbrev FT:=Env->R Bool
@[simp] def sc (d:D):Res:=⟨.shr,true,d⟩
def Res.give (r:Res):R Res:=if r.k=.own then .stk else .ok ⟨.shr,r.fr,r.d⟩
def vE (i:Nat):FE:=fun ρ=>match ρ[i]? with
 | some (some e)=>.ok ⟨e.k.rd,e.fr||e.d.imm,e.d⟩
 | _=>.stk
def cE (d:D):FE:=fun _=>.ok (sc d)
def asI:D->R Int
 | .int i=>.ok i
 | _=>.stk
def asB:D->R Bool
 | .bl b=>.ok b
 | _=>.stk
def asL:D->R (List D)
 | .lst ds=>.ok ds
 | _=>.stk
def asS:D->R (List D)
 | .lst ds=>.ok ds
 | .tup ds=>.ok ds
 | _=>.stk
def i2E (C:Int->Int->Bool)(g:Int->Int->Int)(a b:FE):FE:=fun ρ=>do
 let x ← a ρ
 let y ← b ρ
 let i ← asI x.d
 let j ← asI y.d
 if C i j then .ok (sc (.int (g i j))) else .stk
def aG8 (g:Int->Int->Bool)(a b:FE):FE:=fun ρ=>do
 let x ← a ρ
 let y ← b ρ
 let i ← asI x.d
 let j ← asI y.d
 .ok (sc (.bl (g i j)))
def aWt (a:FE):FE:=fun ρ=>do
 let x ← a ρ
 let i ← asI x.d
 .ok (sc (.int (-i)))
def C0:Int->Int->Bool:=fun _ _=>true
def CM:Int->Int->Bool:=fun i j=>decide (i.natAbs.log2<1000000)&&decide (j.natAbs.log2<1000000)
def CD:Int->Int->Bool:=fun _ j=>decide (0<j)&&decide (j.natAbs.log2<9000)
def CP:Int->Int->Bool:=fun _ j=>decide (0<j)
def CW:Int->Int->Bool:=fun i j=>decide (0<=j)&&decide (j<=1000000)&&decide (i.natAbs<2^64)
def cH:=i2E C0 (fun i j=>i+j)
def eM:=i2E C0 (fun i j=>i-j)
def bN:=i2E CM (fun i j=>i*j)
def jR:=i2E CD (fun i j=>i/j)
def cA:=i2E CP (fun i j=>i%j)
def pW:=i2E CW (fun i j=>i^j.toNat)
def ltE:=aG8 fun i j=>decide (i<j)
def gtE:=aG8 fun i j=>decide (j<i)
def geE:=aG8 fun i j=>decide (j<=i)
end Mir
namespace Mir
open PySem L2
noncomputable def cut (H:Hp)(B:Addr->Prop):Hp:=fun a=>haveI:=Classical.propDecidable (B a);if B a then none else H a
theorem bB {H:Hp}{B:Addr->Prop}{a:Addr}{o:HO}:cut H B a=some o↔¬ B a/\H a=some o:=by
 unfold cut;by_cases h:B a
 · simp[h]
 · simp[h]
def stab:HO->Bool
 | .tup _=>true
 | .ext _=>true
 | .frz _ u=>stab u
 | _=>false
def Ban (fr:Bool)(H0:Hp)(B:Addr->Prop):Addr->Prop:=fun a=>B a\/(fr=true/\∃ o,H0 a=some o/\stab o=false)
noncomputable abbrev bH (fr:Bool)(H0 H:Hp)(B:Addr->Prop):Hp:=cut H (Ban fr H0 B)
theorem fG {H:Hp}{B:Addr->Prop}:aL (cut H B) H:=fun b o e=>(bB.mp e).2
theorem fX {H H':Hp}{B B':Addr->Prop}(s:∀ b o,H b=some o->¬ B b->H' b=some o)(h:∀ b,B' b->B b\/H b=none):aL (cut H B) (cut H' B'):=fun b o e=>by
 obtain⟨n,e⟩:=bB.mp e;refine bB.mpr ⟨fun z=>?_,s b o e n⟩
 rcases h b z with h | h
 · exact n h
 · rw[h]at e;cases e
theorem bA {fr:Bool}{H0 H H':Hp}{B B':Addr->Prop}(s:∀ b o,H b=some o->¬ B b->H' b=some o)(h:∀ b,B' b->B b\/H b=none):aL (bH fr H0 H B) (bH fr H0 H' B') :=
 fX (fun b o e n=>s b o e fun z=>n (.inl z)) fun b z=>by
  rcases z with z | z
  · exact(h b z).imp .inl id
  · exact .inl (.inr z)
theorem lY {fr:Bool}{H0 H:Hp}{B:Addr->Prop}:aL (bH fr H0 H B) (bH false H0 H B) :=
 fX (fun _ _ e _=>e) fun b z=>by
  rcases z with z | ⟨z,_⟩
  · exact .inl (.inl z)
  · cases z
theorem aL.rd {H H':Hp}{a:Addr}{u:HO}(e:aL H H')(h:Rd H a u):Rd H' a u:=by
 rcases h with h | ⟨o,h⟩
 · exact .inl (e _ _ h)
 · exact .inr ⟨o,e _ _ h⟩
def clK (K:PySem.W.Frag)(c:XC):Addr:=match Ch K mainGlobals c.nm with
 | some (some (.ref C))=>C
 | _=>0
def aUy (a C:Addr)(h:Heap):Prop:=∃ o,h.get? a=some o/\o.cls=.ref C/\PySem.W.notCls o=true
variable {K:PySem.W.Frag}
def dF (ks:List (List Int))(kvs:List (List Key×V)):Prop:=kvs.map (·.1)=ks.map (·.map Sum.inl)
mutual
def Rep (K:PySem.W.Frag)(G:Hp):D->V->Prop
 | .non,v=>v=.non
 | .bl b,v=>v=.bl b
 | .int i,v=>v=.int i
 | .str x,v=>v=.str x
 | .lst ds,v=>∃ a xs,v=.ref a/\Rd G a (.lst xs)/\aJ K G ds xs
 | .tup ds,v=>∃ a xs,v=.ref a/\G a=some (.tup xs)/\aJ K G ds xs
 | .obj _ _,_=>False
 | .any,_=>True
 | .dct ks ds,v=>∃ a kvs,v=.ref a/\Rd G a (.dT kvs)/\dF ks kvs/\aJ K G ds (kvs.map (·.2))
 | .exc c ds,v=>ds=[]/\∃ a,v=.ref a/\G a=some (.ext (aUy a (clK K c)))
def aJ (K:PySem.W.Frag)(G:Hp):List D->List V->Prop
 | [],xs=>xs=[]
 | d :: r,xs=>∃ x xr,xs=x :: xr/\Rep K G d x/\aJ K G r xr
end
mutual
theorem Rep.same {G G':Hp}(e:aL G G'):∀ {d:D} {v:V},Rep K G d v->Rep K G' d v
 | .non,_,h=>h
 | .bl _,_,h=>h
 | .int _,_,h=>h
 | .str _,_,h=>h
 | .lst _,_,⟨a,xs,h1,h2,h3⟩=>⟨a,xs,h1,aL.rd e h2,aJ.same e h3⟩
 | .tup _,_,⟨a,xs,h1,h2,h3⟩=>⟨a,xs,h1,e _ _ h2,aJ.same e h3⟩
 | .obj _ _,_,h=>h
 | .any,_,h=>h
 | .dct _ _,_,⟨a,xs,h1,h2,h3,h4⟩=>⟨a,xs,h1,aL.rd e h2,h3,aJ.same e h4⟩
 | .exc _ _,_,⟨h,a,h1,h2⟩=>⟨h,a,h1,e _ _ h2⟩
theorem aJ.same {G G':Hp}(e:aL G G'):∀ {ds:List D} {vs:List V},aJ K G ds vs->aJ K G' ds vs
 | [],_,h=>h
 | _ :: _,_,⟨x,xr,h1,h2,h3⟩=>⟨x,xr,h1,Rep.same e h2,aJ.same e h3⟩
end
theorem aJ.length {G:Hp}:∀ {ds:List D} {vs:List V},aJ K G ds vs->ds.length=vs.length
 | [],vs,h=>by have e:vs=[]:=h;rw[e];rfl
 | _ :: _,_,⟨x,xr,h1,_,h3⟩=>by rw[h1];simp[aJ.length h3]
theorem aJ.get {G:Hp}:∀ {ds:List D} {vs:List V} {i:Nat} {d:D},aJ K G ds vs->ds[i]?=some d->∃ v,vs[i]?=some v/\Rep K G d v
 | [],_,_,_,_,e=>by simp at e
 | _ :: _,_,0,_,⟨x,xr,h1,h2,_⟩,e=>by simp at e;subst e;exact⟨x,by rw[h1];rfl,h2⟩
 | _ :: _,_,i+1,d,⟨x,xr,h1,_,h3⟩,e=>by
  obtain⟨v,a,b⟩:=aJ.get (i:=i) (d:=d) h3 (by simpa using e)
  exact⟨v,by rw[h1];simpa using a,b⟩
theorem aJ.getv {G:Hp}:∀ {ds:List D} {vs:List V} {i:Nat} {v:V},aJ K G ds vs->vs[i]?=some v->∃ d,ds[i]?=some d/\Rep K G d v
 | [],_,_,_,h,e=>by rw[show _=[] from h]at e;simp at e
 | _ :: _,_,0,_,⟨x,xr,h1,h2,_⟩,e=>by subst h1;simp at e;subst e;exact⟨_,rfl,h2⟩
 | _ :: _,_,i+1,v,⟨x,xr,h1,_,h3⟩,e=>by
  subst h1;obtain⟨d,a,b⟩:=aJ.getv (i:=i) (v:=v) h3 (by simpa using e)
  exact⟨d,by simpa using a,b⟩
theorem aJ.of_get {G:Hp}:∀ {ds:List D} {vs:List V},ds.length=vs.length->(∀ (i:Nat) d v,ds[i]?=some d->vs[i]?=some v->Rep K G d v)->aJ K G ds vs
 | [],[],_,_=>rfl
 | [],v :: vr,h,_=>absurd h (by simp)
 | d :: r,[],h,_=>absurd h (by simp)
 | d :: r,v :: vr,h,f=>⟨v,vr,rfl,f 0 d v rfl rfl,aJ.of_get (by simpa using h) fun i d v a b=>f (i+1) d v (by simpa using a) (by simpa using b)⟩
theorem aJ.append {G:Hp}:∀ {ds es:List D} {vs ws:List V},aJ K G ds vs->aJ K G es ws->aJ K G (ds++es) (vs++ws)
 | [],_,_,_,h,q=>by rw[show _=[] from h];exact q
 | _ :: _,_,_,_,⟨x,xr,h1,h2,h3⟩,q=>by subst h1;exact⟨x,_,rfl,h2,aJ.append h3 q⟩
theorem aJ.take {G:Hp}:∀ {ds:List D} {vs:List V} (n:Nat),aJ K G ds vs->aJ K G (ds.take n) (vs.take n)
 | _,_,0,_=>by simp only[List.take_zero];rfl
 | [],_,_+1,h=>by rw[show _=[] from h];rfl
 | _ :: _,_,n+1,⟨x,xr,h1,h2,h3⟩=>by subst h1;exact⟨x,_,rfl,h2,aJ.take n h3⟩
theorem aJ.drop {G:Hp}:∀ {ds:List D} {vs:List V} (n:Nat),aJ K G ds vs->aJ K G (ds.drop n) (vs.drop n)
 | _,_,0,h=>h
 | [],_,_+1,h=>by rw[show _=[] from h];rfl
 | _ :: _,_,n+1,⟨x,xr,h1,_,h3⟩=>by subst h1;exact aJ.drop n h3
theorem aJ.set {G:Hp}{d:D}{v:V}(r:Rep K G d v):∀ {ds:List D} {vs:List V} (i:Nat),aJ K G ds vs->aJ K G (ds.set i d) (vs.set i v)
 | [],_,_,h=>by rw[show _=[] from h];rfl
 | _ :: _,_,0,⟨x,xr,h1,_,h3⟩=>by subst h1;exact⟨v,xr,rfl,r,h3⟩
 | _ :: _,_,i+1,⟨x,xr,h1,h2,h3⟩=>by subst h1;exact⟨x,_,rfl,h2,aJ.set r i h3⟩
theorem aJ.one {G:Hp}{d:D}{v:V}(r:Rep K G d v):aJ K G [d] [v]:=⟨v,[],rfl,r,rfl⟩
theorem zL {H0 H:Hp}{B:Addr->Prop}{a:Addr}{o:HO}(s:aL H0 H)(st:stab o=true)(e:bH false H0 H B a=some o):bH true H0 H B a=some o:=by
 obtain⟨n,e⟩:=bB.mp e;refine bB.mpr ⟨fun z=>?_,e⟩
 rcases z with z | ⟨_,o',q1,q2⟩
 · exact n (.inl z)
 · rw[s a o' q1]at e;cases e;rw[st]at q2;cases q2
mutual
theorem Rep.imm {H0 H:Hp}{B:Addr->Prop}(s:aL H0 H):∀ {d:D} {v:V},d.imm=true->Rep K (bH false H0 H B) d v->Rep K (bH true H0 H B) d v
 | .non,_,_,h=>h
 | .bl _,_,_,h=>h
 | .int _,_,_,h=>h
 | .str _,_,_,h=>h
 | .lst _,_,i,_=>by cases i
 | .tup ds,_,i,⟨a,xs,h1,h2,h3⟩=>by
  refine⟨a,xs,h1,?_,aJ.imm s (by simpa[D.imm] using i) h3⟩
  exact zL s rfl h2
 | .obj _ _,_,_,h=>h
 | .any,_,i,_=>by cases i
 | .dct _ _,_,i,_=>by cases i
 | .exc _ _,_,_,⟨h,a,h1,h2⟩=>⟨h,a,h1,zL s rfl h2⟩
theorem aJ.imm {H0 H:Hp}{B:Addr->Prop}(s:aL H0 H):∀ {ds:List D} {vs:List V},D.imms ds=true->aJ K (bH false H0 H B) ds vs->aJ K (bH true H0 H B) ds vs
 | [],_,_,h=>h
 | d :: r,_,i,⟨x,xr,h1,h2,h3⟩=>by
  have i':d.imm=true/\D.imms r=true:=by simpa[D.imms] using i
  exact⟨x,xr,h1,Rep.imm s i'.1 h2,aJ.imm s i'.2 h3⟩
end
theorem Rep.fr {H0 H:Hp}{B:Addr->Prop}{fr:Bool}{d:D}{v:V}(s:aL H0 H)(h:Rep K (bH fr H0 H B) d v):Rep K (bH (fr||d.imm) H0 H B) d v:=by
 cases fr with
 | true=>exact h
 | false =>
  cases e:d.imm with
  | false=>exact h
  | true=>exact Rep.imm s e h
def mC (K:PySem.W.Frag)(G:Hp)(d:D)(o:HO):Prop:=match d with
 | .lst ds=>∃ vs,o=.lst vs/\aJ K G ds vs
 | .dct ks ds=>∃ kvs,o=.dT kvs/\dF ks kvs/\aJ K G ds (kvs.map (·.2))
 | _=>False
theorem mC.same {G G':Hp}(e:aL G G'){d:D}{o:HO}(h:mC K G d o):mC K G' d o:=by
 cases d with
 | lst ds=>obtain⟨vs,h1,h2⟩:=h;exact⟨vs,h1,aJ.same e h2⟩
 | dct ks ds=>obtain⟨kvs,h1,h2,h3⟩:=h;exact⟨kvs,h1,h2,aJ.same e h3⟩
 | _=>exact h.elim
theorem mC.con {G:Hp}{d:D}{o:HO}(h:mC K G d o):d.con=true:=by
 cases d with
 | lst ds=>rfl
 | dct ks ds=>rfl
 | _=>exact h.elim
theorem mC.imm {G:Hp}{d:D}{o:HO}(h:mC K G d o):d.imm=false:=by
 cases d with
 | lst ds=>rfl
 | dct ks ds=>rfl
 | _=>exact h.elim
theorem mC.stab {G:Hp}{d:D}{o:HO}(h:mC K G d o):stab o=false:=by
 cases d with
 | lst ds=>obtain⟨vs,h1,h2⟩:=h;subst h1;rfl
 | dct ks ds=>obtain⟨kvs,h1,h2,h3⟩:=h;subst h1;rfl
 | _=>exact h.elim
theorem mC.lst {G:Hp}{ds:List D}{vs:List V}(h:aJ K G ds vs):mC K G (.lst ds) (.lst vs):=⟨vs,rfl,h⟩
theorem mC.rep {G G':Hp}{a:Addr}{d:D}{o:HO}(h:mC K G d o)(e:aL G G')(q:G' a=some o):Rep K G' d (.ref a):=by
 cases d with
 | lst ds=>obtain⟨vs,h1,h2⟩:=h;subst h1;exact⟨a,vs,rfl,Rd.of q,aJ.same e h2⟩
 | dct ks ds=>obtain⟨kvs,h1,h2,h3⟩:=h;subst h1;exact⟨a,kvs,rfl,Rd.of q,h2,aJ.same e h3⟩
 | _=>exact h.elim
def rO (K:PySem.W.Frag)(H0 H:Hp)(B:Addr->Prop)(v:V)(e:Res):Prop :=
 match e.k with
 | .shr=>Rep K (bH e.fr H0 H B) e.d v
 | .own=>∃ a o,v=.ref a/\B a/\H0 a=none/\H a=some o/\mC K (bH e.fr H0 H B) e.d o
 | .tmp=>False
 | .old=>e.fr=false/\Rep K (cut H0 B) e.d v
structure DenE (K:PySem.W.Frag)(H0 H:Hp)(B:Addr->Prop)(σ:St)(ρ:Env):Prop where
 len:ρ.length=σ.length
 sam:aL H0 H
 bnd:∀ b,B b->∃ o,H b=some o/\stab o=false
 ent:∀ (i:Nat) (e:Res),ρ[i]?=some (some e)->∃ v,σ[i]?=some (some v)/\rO K H0 H B v e
def aW (K:PySem.W.Frag)(H0 H H':Hp)(B:Addr->Prop)(v:V)(r:Res):Prop :=
 match r.k with
 | .shr=>Rep K (bH r.fr H0 H' B) r.d v
 | .own=>∃ a o,v=.ref a/\B a/\H0 a=none/\H' a=some o/\mC K (bH r.fr H0 H' B) r.d o
 | .tmp=>∃ a o,v=.ref a/\H a=none/\H' a=some o/\mC K (bH r.fr H0 H' fun b=>B b\/b=a) r.d o
 | .old=>False
section
variable {H0 H H' H'':Hp}{B B':Addr->Prop}{v:V}{r e:Res}{σ:St}{ρ:Env}
theorem rO.mono (g:rO K H0 H B v e)(s:aL H H'):rO K H0 H' B v e:=by
 unfold rO at g ⊢;have m:∀ fr,aL (bH fr H0 H B) (bH fr H0 H' B):=fun fr=>bA (fun b o e _=>s b o e) fun b z=>.inl z;cases k:e.k with
 | shr=>rw[k]at g;exact Rep.same (m _) g
 | own=>rw[k]at g;obtain⟨a,o,h1,h2,h3,h4,h5⟩:=g;exact⟨a,o,h1,h2,h3,s _ _ h4,h5.same (m _)⟩
 | tmp=>rw[k]at g;exact g
 | old=>rw[k]at g;exact g
theorem DenE.mono (d:DenE K H0 H B σ ρ)(s:aL H H'):DenE K H0 H' B σ ρ :=
 ⟨d.len,d.sam.trans s,fun b h=>let ⟨o,e,n⟩:=d.bnd b h;⟨o,s _ _ e,n⟩,fun i e h=>let ⟨v,a,g⟩:=d.ent i e h;⟨v,a,g.mono s⟩⟩
theorem aW.mono (g:aW K H0 H H' B v r)(s:aL H' H''):aW K H0 H H'' B v r:=by
 unfold aW at g ⊢;have m:∀ fr (B:Addr->Prop),aL (bH fr H0 H' B) (bH fr H0 H'' B):=fun fr B=>bA (fun b o e _=>s b o e) fun b z=>.inl z;cases k:r.k with
 | shr=>rw[k]at g;exact Rep.same (m _ _) g
 | own=>rw[k]at g;obtain⟨a,o,h1,h2,h3,h4,h5⟩:=g;exact⟨a,o,h1,h2,h3,s _ _ h4,h5.same (m _ _)⟩
 | tmp=>rw[k]at g;obtain⟨a,o,h1,h2,h3,h4⟩:=g;exact⟨a,o,h1,h2,s _ _ h3,h4.same (m _ _)⟩
 | old=>rw[k]at g;exact g
theorem aW.sc {d:D}(h:Rep K (bH true H0 H' B) d v):aW K H0 H H' B v (sc d):=h
theorem aW.con (g:aW K H0 H H' B v r)(e:r.k≠.shr):∃ a o,v=.ref a/\H' a=some o/\mC K (bH r.fr H0 H' B) r.d o:=by
 unfold aW at g;cases k:r.k with
 | shr=>exact absurd k e
 | own=>rw[k]at g;obtain⟨a,o,h1,_,_,h4,h5⟩:=g;exact⟨a,o,h1,h4,h5⟩
 | tmp=>rw[k]at g;obtain⟨a,o,h1,_,h3,h4⟩:=g;exact⟨a,o,h1,h3,h4.same (bA (fun b o e _=>e) fun b z=>.inl (.inl z))⟩
 | old=>rw[k]at g;exact g.elim
theorem aW.list {ds:List D}(g:aW K H0 H H' B v r)(e:r.d=.lst ds):∃ a xs,v=.ref a/\Rd H' a (.lst xs)/\aJ K (bH r.fr H0 H' B) ds xs:=by
 by_cases k:r.k=.shr
 · unfold aW at g
   rw[k,e]at g;obtain⟨a,xs,h1,h2,h3⟩:=g;exact⟨a,xs,h1,aL.rd fG h2,h3⟩
 · obtain⟨a,o,h1,h2,h3⟩:=g.con k
   rw[e]at h3;obtain⟨vs,h4,h5⟩:=h3;subst h4;exact⟨a,vs,h1,Rd.of h2,h5⟩
theorem aW.dict {ks:List (List Int)}{ds:List D}(g:aW K H0 H H' B v r)(e:r.d=.dct ks ds):∃ a kvs,v=.ref a/\Rd H' a (.dT kvs)/\dF ks kvs/\aJ K (bH r.fr H0 H' B) ds (kvs.map (·.2)):=by
 by_cases k:r.k=.shr
 · unfold aW at g
   rw[k,e]at g;obtain⟨a,xs,h1,h2,h3,h4⟩:=g;exact⟨a,xs,h1,aL.rd fG h2,h3,h4⟩
 · obtain⟨a,o,h1,h2,h3⟩:=g.con k
   rw[e]at h3;obtain⟨kvs,h4,h5,h6⟩:=h3;subst h4;exact⟨a,kvs,h1,Rd.of h2,h5,h6⟩
theorem aW.shr_of (g:aW K H0 H H' B v r)(h:r.d.con=false):Rep K (bH r.fr H0 H' B) r.d v:=by
 by_cases k:r.k=.shr
 · unfold aW at g
   rw[k]at g;exact g
 · obtain⟨a,o,h1,h2,h3⟩:=g.con k
   rw[h3.con]at h;cases h
theorem aW.int {i:Int}(g:aW K H0 H H' B v r)(e:r.d=.int i):v=.int i:=by
 have:=g.shr_of (by rw[e];rfl)
 rw[e]at this;exact this
theorem aW.bl {b:Bool}(g:aW K H0 H H' B v r)(e:r.d=.bl b):v=.bl b:=by
 have:=g.shr_of (by rw[e];rfl)
 rw[e]at this;exact this
theorem aW.tuple {ds:List D}(g:aW K H0 H H' B v r)(e:r.d=.tup ds):∃ a xs,v=.ref a/\H' a=some (.tup xs)/\aJ K (bH r.fr H0 H' B) ds xs:=by
 have:=g.shr_of (by rw[e];rfl)
 rw[e]at this;obtain⟨a,xs,h1,h2,h3⟩:=this;exact⟨a,xs,h1,fG _ _ h2,h3⟩
theorem aW.give {r':Res}(den:DenE K H0 H B σ ρ)(g:aW K H0 H H' B v r)(e:r.give=.ok r'):r'=⟨.shr,r.fr,r.d⟩/\Rep K (bH r.fr H0 H' B) r.d v:=by
 unfold Res.give at e;unfold aW at g;cases k:r.k with
 | shr=>rw[k]at g e;simp at e;exact⟨e.symm,g⟩
 | own=>rw[k]at e;simp at e
 | old=>rw[k]at g;exact g.elim
 | tmp =>
  rw[k]at g e;simp at e
  obtain⟨a,o,h1,h2,h3,h4⟩:=g;refine⟨e.symm,?_⟩
  subst h1;refine h4.rep (bA (fun b o e _=>e) fun b z=>.inl (.inl z)) (bB.mpr ⟨fun z=>?_,h3⟩)
  rcases z with z | ⟨_,o,z,_⟩
  · obtain⟨o,q,_⟩:=den.bnd a z;rw[h2]at q;cases q
  · rw[den.sam _ _ z]at h2;cases h2
theorem rO.res (s:aL H0 H)(g:rO K H0 H B v e):aW K H0 H H B v ⟨e.k.rd,e.fr||e.d.imm,e.d⟩:=by
 unfold rO at g;unfold aW;cases k:e.k with
 | shr=>rw[k]at g;exact Rep.fr s g
 | own =>
  rw[k]at g;obtain⟨a,o,h1,h2,h3,h4,h5⟩:=g;refine⟨a,o,h1,h2,h3,h4,?_⟩
  rw[h5.imm,Gi];exact h5
 | tmp=>rw[k]at g;exact g.elim
 | old =>
  rw[k]at g;refine Rep.fr s (Rep.same ?_ g.2)
  rw[g.1];intro b o q;obtain⟨n,q⟩:=bB.mp q;refine bB.mpr ⟨fun z=>?_,s b o q⟩
  rcases z with z | ⟨z,_⟩
  · exact n z
  · cases z
end
structure XP where
 p:Xc->St->Hp->Prop
 mono:∀ {x:Xc} {σ:St} {H H':Hp},p x σ H->aL H H'->p x σ H'
def XP0:XP:=⟨fun _ _ _=>False,fun h _=>h⟩
def tE (K:PySem.W.Frag)(P:XP)(f:FE):TE:=fun σ H Q=>∃ H0 B ρ,DenE K H0 H B σ ρ/\match f ρ with
 | .ok r=>∀ v H',aL H H'->aW K H0 H H' B v r->Q v H'
 | .exc x=>P.p x σ H
 | .stk=>False
def tT (K:PySem.W.Frag)(P:XP)(f:FT):TT:=fun σ H Q=>∃ H0 B ρ,DenE K H0 H B σ ρ/\match f ρ with
 | .ok b=>∀ H',aL H H'->Q b H'
 | .exc x=>P.p x σ H
 | .stk=>False
theorem PE.imp {X:Cx}{e:Expr}{t t':TE}(p:PE X e t)(h:∀ σ H Q,t' σ H Q->t σ H Q):PE X e t':=fun pins s σ H Q I q=>p pins s σ H Q I (h σ H Q q)
theorem PT.imp {X:Cx}{e:Expr}{t t':TT}(p:PT X e t)(h:∀ σ H Q,t' σ H Q->t σ H Q):PT X e t':=fun pins s σ H Q I q=>p pins s σ H Q I (h σ H Q q)
theorem fD {X:Cx}{P:XP}{f:FE}{H0 H:Hp}{B:Addr->Prop}{σ:St}{ρ:Env}{Q:VK}{r:Res}(d:DenE X.K H0 H B σ ρ)(e:f ρ=.ok r)
 (h:∀ v H',aL H H'->DenE X.K H0 H' B σ ρ->aW X.K H0 H H' B v r->Q v H'):tE X.K P f σ H Q :=
 ⟨H0,B,ρ,d,by rw[e];exact fun v H' s g=>h v H' s (d.mono s) g⟩
theorem dP {X:Cx}{P:XP}{f:FE}{H0 H:Hp}{B:Addr->Prop}{σ:St}{ρ:Env}{Q:VK}{x:Xc}(d:DenE X.K H0 H B σ ρ)(e:f ρ=.exc x)(h:P.p x σ H):tE X.K P f σ H Q :=
 ⟨H0,B,ρ,d,by rw[e];exact h⟩
end Mir
namespace Mir
open PySem
abbrev FEs:=List FE
def evs:FEs->Env->R (List Res)
 | [],_=>.ok []
 | f :: r,ρ=>do
  let x ← f ρ
  let xs ← evs r ρ
  .ok (x :: xs)
def gives:List Res->R (Bool×List D)
 | []=>.ok (true,[])
 | r :: rs=>do
  let x ← r.give
  let y ← gives rs
  .ok (x.fr&&y.1,x.d :: y.2)
def cN (fs:FEs):FE:=fun ρ=>do
 let rs ← evs fs ρ
 let y ← gives rs
 if y.2.length<=sizeLine then .ok ⟨.tmp,y.1,.lst y.2⟩ else .stk
def dH (fs:FEs):FE:=fun ρ=>do
 let rs ← evs fs ρ
 let y ← gives rs
 if y.2.length<=sizeLine then .ok ⟨.shr,y.1,.tup y.2⟩ else .stk
def bX (a:FE):FE:=fun ρ=>do
 let x ← a ρ
 let ds ← asS x.d
 .ok (sc (.int ds.length))
def bD (a i:FE):FE:=fun ρ=>do
 let x ← a ρ
 let y ← i ρ
 let ds ← asS x.d
 let j ← asI y.d
 match L2.atI ds j with
 | some d=>.ok ⟨.shr,x.fr||d.imm,d⟩
 | none=>.stk
def nK (a:FE):FE:=fun ρ=>do
 let x ← a ρ
 let ds ← asS x.d
 .ok ⟨.shr,x.fr,.tup ds⟩
def pG (a b:FE):FE:=fun ρ=>do
 let x ← a ρ
 let y ← b ρ
 let xs ← asL x.d
 let ys ← asL y.d
 if xs.length+ys.length<=sizeLine then .ok ⟨.tmp,x.fr&&y.fr,.lst (xs++ys)⟩ else .stk
def lG (xs:List D)(lo hi:Option Int):List D:=(xs.drop (HT.sIx xs.length 0 lo)).take (HT.sIx xs.length xs.length hi-HT.sIx xs.length 0 lo)
abbrev FO:=Env->R (Option Int)
def noO:FO:=fun _=>.ok none
def soO (a:FE):FO:=fun ρ=>do
 let x ← a ρ
 let i ← asI x.d
 .ok (some i)
def tP (a:FE)(lo hi:FO):FE:=fun ρ=>do
 let x ← a ρ
 let l ← lo ρ
 let h ← hi ρ
 let ds ← asL x.d
 .ok ⟨.tmp,x.fr,.lst (lG ds l h)⟩
mutual
def lH:D->Option PyData
 | .non=>some .none
 | .bl b=>some (.bool b)
 | .int i=>some (.int i)
 | .str x=>some (.str x)
 | .lst ds=>(sU ds).map .list
 | .tup ds=>(sU ds).map .tuple
 | _=>none
def sU:List D->Option (List PyData)
 | []=>some []
 | d :: r=>(lH d).bind fun p=>(sU r).map (p :: ·)
end
def qC (x y:D):R Bool:=match lH x,lH y with
 | some p,some q=>if SeqAt.shaped p&&SeqAt.shaped q then .ok (PyData.eqv p q) else .stk
 | _,_=>.stk
def eqE (a b:FE):FE:=fun ρ=>do
 let x ← a ρ
 let y ← b ρ
 let t ← qC x.d y.d
 .ok (sc (.bl t))
def neE (a b:FE):FE:=fun ρ=>do
 let x ← a ρ
 let y ← b ρ
 let t ← qC x.d y.d
 .ok (sc (.bl (!t)))
def bT (a:FE):FT:=fun ρ=>do
 let x ← a ρ
 asB x.d
def aAj (t:FT):FT:=fun ρ=>do
 let b ← t ρ
 .ok (!b)
def orT (t u:FT):FT:=fun ρ=>do
 let b ← t ρ
 if b then .ok true else u ρ
structure Its where
 st:Bool
 fr:Bool
 ds:List D
abbrev FI:=Env->R Its
def cW (a:FE):FI:=fun ρ=>do
 let x ← a ρ
 let ds ← asL x.d
 .ok ⟨x.k != .own,x.fr,ds⟩
def pU (a:FE):FI:=fun ρ=>do
 let x ← a ρ
 match x.d with
 | .tup ds=>.ok ⟨true,x.fr,ds⟩
 | _=>.stk
def kP (lo:Int)(n:Nat):List D:=(Ao n).map fun (i:Nat)=>.int (lo+(i:Int))
def cV (a:FE):FI:=fun ρ=>do
 let x ← a ρ
 let j ← asI x.d
 if -(2^62)<=j/\j<2^62 then .ok ⟨true,true,kP 0 j.toNat⟩ else .stk
def zM (a b:FE):FI:=fun ρ=>do
 let x ← a ρ
 let y ← b ρ
 let i ← asI x.d
 let j ← asI y.d
 if -(2^62)<=i/\i<2^62/\-(2^62)<=j/\j<2^62 then .ok ⟨true,true,kP i (j-i).toNat⟩ else .stk
def yI:List D->List D->List D:=List.zipWith fun a b=>.tup [a,b]
inductive Tg where
 | nm (i:Nat) | tp (ts:List Tg)
mutual
def Tg.bind (fr:Bool):Tg->D->Env->R Env
 | .nm i,d,ρ=>.ok (ρ.set i (some ⟨.shr,fr,d⟩))
 | .tp ts,.tup ds,ρ=>Tg.binds fr ts ds ρ
 | .tp _,_,_=>.stk
def Tg.binds (fr:Bool):List Tg->List D->Env->R Env
 | [],[],ρ=>.ok ρ
 | t :: ts,d :: ds,ρ=>do
  let ρ1 ← Tg.bind fr t d ρ
  Tg.binds fr ts ds ρ1
 | _,_,_=>.stk
end
def eF (k:Nat)(fs:List Nat)(ρ:Env):Env:=Dw k none++fs.map fun i=>(ρ[i]?).join
abbrev FB:=Env->R (Option Res)
def bE (f:FE):FB:=fun ρ=>do
 let x ← f ρ
 .ok (some x)
def bIf (t:FT)(f:FE):FB:=fun ρ=>do
 let c ← t ρ
 if c then (do let x ← f ρ;.ok (some x)) else .ok none
def lQ (tg:Tg)(b:FB)(fr:Bool)(ρ:Env):List D->R (Bool×List D)
 | []=>.ok (true,[])
 | d :: r=>do
  let ρ1 ← tg.bind fr d ρ
  match b ρ1 with
  | .ok (some x)=>do
   let x' ← x.give
   let y ← lQ tg b fr ρ r
   .ok (x'.fr&&y.1,x'.d :: y.2)
  | .ok none=>lQ tg b fr ρ r
  | _=>.stk
def bR (it:FI)(k:Nat)(fs:List Nat)(tg:Tg)(b:FB):FE:=fun ρ=>do
 let x ← it ρ
 let y ← lQ tg b x.fr (eF k fs ρ) x.ds
 if x.ds.length<=sizeLine then .ok ⟨.tmp,y.1,.lst y.2⟩ else .stk
abbrev Φ:=List D->R Res
def aC (φ:Φ)(fs:FEs):FE:=fun ρ=>do
 let rs ← evs fs ρ
 let r ← φ (rs.map (·.d))
 if r.fr=true then .ok ⟨if r.k=.shr then .shr else .tmp,true,r.d⟩ else do
  let y ← gives rs
  .ok ⟨if r.k=.shr then .shr else .tmp,y.1,r.d⟩
inductive RS where
 | nx (ρ:Env) | rt (r:Res) | bk (ρ:Env) | ct (ρ:Env) | exc (x:Xc) (ρ:Env) | stk
abbrev FS:=Env->RS
def R.at (r:R α)(ρ:Env)(k:α->RS):RS:=match r with
 | .ok a=>k a
 | .exc x=>.exc x ρ
 | .stk=>.stk
def eC:FS:=.nx
def aP (s t:FS):FS:=fun ρ=>match s ρ with
 | .nx ρ1=>t ρ1
 | r=>r
def Res.keep (r:Res):R Res:=match r.k with
 | .shr=>.ok r
 | .tmp=>.ok ⟨.own,r.fr,r.d⟩
 | .own=>.stk
 | .old=>.stk
def aO (i:Nat)(f:FE):FS:=fun ρ=>(f ρ).at ρ fun r=>(r.keep).at ρ fun e=>.nx (ρ.set i (some e))
def jK (f:FE):FS:=fun ρ=>(f ρ).at ρ fun _=>.nx ρ
def bM (f:FE):FS:=fun ρ=>(f ρ).at ρ fun r=>.rt ⟨if r.k=.shr then .shr else .tmp,r.fr,r.d⟩
def ifS (t:FT)(a b:FS):FS:=fun ρ=>(t ρ).at ρ fun c=>if c then a ρ else b ρ
def frz (i:Nat)(ρ:Env):Env:=match ρ[i]? with
 | some (some e)=>ρ.set i (some ⟨.shr,e.fr,e.d⟩)
 | _=>ρ
def tQ (i:Nat)(s:FS):FS:=fun ρ=>s (frz i ρ)
def lW (i:Nat)(ρ:Env):R (Bool×List D):=match ρ[i]? with
 | some (some ⟨.own,fr,.lst ds⟩)=>.ok (fr,ds)
 | _=>.stk
def mY (i:Nat)(f:FE):FS:=fun ρ=>(lW i ρ).at ρ fun y=>(f ρ).at ρ fun r=>(r.give).at ρ fun x =>
 if y.2.length<sizeLine then .nx (ρ.set i (some ⟨.own,y.1&&x.fr,.lst (y.2++[x.d])⟩)) else .stk
def fN (tg:Tg)(b:FS)(fr:Bool):List D->FS
 | [],ρ=>.nx ρ
 | d :: r,ρ=>(tg.bind fr d ρ).at ρ fun ρ1=>match b ρ1 with
  | .nx ρ2=>fN tg b fr r ρ2
  | .ct ρ2=>fN tg b fr r ρ2
  | .bk ρ2=>.nx ρ2
  | o=>o
def cB (it:FI)(tg:Tg)(b:FS):FS:=fun ρ=>(it ρ).at ρ fun x=>if x.st then fN tg b x.fr x.ds ρ else .stk
def stE (n:Nat)(ds:List D):Env:=ds.map (fun d=>some ⟨.shr,false,d⟩)++Dw (n-ds.length) none
def cG (np n:Nat)(s:FS):Φ:=fun ds=>if ds.length=np then (match s (stE n ds) with
 | .nx _=>.ok (sc .non)
 | .rt r=>.ok ⟨r.k,r.fr||r.d.imm,r.d⟩
 | .exc x _=>.exc x
 | _=>.stk) else .stk
end Mir
namespace Mir
open PySem L2
variable {X:Cx}{P:XP}{a b c:Expr}{f g:FE}{pos:Pos}
theorem aV8 {i:Nat}{x:Str}(hN:X.N[i]?=some x)(hv:Vis X.env.scope x)(hd:(x==("__debug__":Str))=false:=by decide)(hcd:(x==("__classdict__":Str))=false:=by decide):PE X (.Name x pos) (tE X.K P (vE i)):=by
 refine PE.imp (rW hN hv hd hcd) ?_
 rintro σ H Q ⟨H0,B,ρ,d,h⟩
 unfold vE at h;cases e:ρ[i]? with
 | none=>rw[e]at h;exact h.elim
 | some o =>
  cases o with
  | none=>rw[e]at h;exact h.elim
  | some r =>
   rw[e]at h;obtain⟨v,hv,gd⟩:=d.ent i r e;exact⟨v,hv,h v H (aL.refl H) (gd.res d.sam)⟩
theorem m_v (i:Nat){x:Str}(hN:X.N[i]?=some x:=by rfl)(hv:Vis X.env.scope x:=by first | exact Or.inl rfl | exact Or.inr (Or.inl rfl) | exact Or.inr (Or.inr rfl))(hd:(x==("__debug__":Str))=false:=by decide)
 (hcd:(x==("__classdict__":Str))=false:=by decide):PE X (.Name x pos) (tE X.K P (vE i)):=aV8 hN hv hd hcd
theorem m_c {d:D}{v:V}{e:Expr}(h:PE X e (tC v))(r:∀ G,Rep X.K G d v):PE X e (tE X.K P (cE d)):=by
 refine PE.imp h ?_
 rintro σ H Q ⟨H0,B,ρ,den,h⟩
 exact h v H (aL.refl H) (r _)
theorem aI {i:Int}{j pos}:PE X (.Constant (.int i) j pos) (tE X.K P (cE (.int i))):=m_c aRy fun _=>rfl
theorem aIb {b:Bool}{j pos}:PE X (.Constant (.bool b) j pos) (tE X.K P (cE (.bl b))):=m_c aUp fun _=>rfl
theorem eN {d:D}{i:Int}(h:asI d=.ok i):d=.int i:=by cases d<;>simp[asI]at h;rw[h]
theorem dR {d:D}{x:Xc}(h:asI d=.exc x):False:=by cases d<;>simp[asI]at h
theorem aJp {d:D}{i:Bool}(h:asB d=.ok i):d=.bl i:=by cases d<;>simp[asB]at h;rw[h]
theorem aF9 {d:D}{x:Xc}(h:asB d=.exc x):False:=by cases d<;>simp[asB]at h
theorem iL {d:D}{i:List D}(h:asL d=.ok i):d=.lst i:=by cases d<;>simp[asL]at h;rw[h]
theorem gS {d:D}{x:Xc}(h:asL d=.exc x):False:=by cases d<;>simp[asL]at h
theorem aEm {d:D}{i:List D}(h:asS d=.ok i):d=.lst i\/d=.tup i:=by cases d<;>simp[asS]at h<;>simp[h]
theorem qU {d:D}{x:Xc}(h:asS d=.exc x):False:=by cases d<;>simp[asS]at h
theorem t1 {k:Res->R Res}{σ:St}{H:Hp}{Q:VK}{q:VK}(h:tE X.K P (fun ρ=>f ρ >>= k) σ H Q)
 (hk:∀ H0 B ρ v H' r,DenE X.K H0 H' B σ ρ->aW X.K H0 H H' B v r->aL H H'->(match k r with
  | .ok r1=>∀ v1 H1,aL H' H1->aW X.K H0 H H1 B v1 r1->Q v1 H1
  | .exc x=>P.p x σ H'
  | .stk=>False)->q v H'):tE X.K P f σ H q:=by
 obtain⟨H0,B,ρ,d,h⟩:=h;cases e:f ρ with
 | stk=>simp[e]at h
 | exc x=>simp[e]at h;exact dP d e h
 | ok r =>
  simp[e]at h
  refine fD d e fun v H' s d' gd=>hk H0 B ρ v H' r d' gd s ?_
  cases e2:k r with
  | stk=>rw[e2]at h;exact h
  | exc x=>rw[e2]at h;exact P.mono h s
  | ok r1=>rw[e2]at h;exact fun v1 H1 s1 g1=>h v1 H1 (s.trans s1) g1
theorem t2 {k:Res->Res->R Res}{σ:St}{H:Hp}{Q:VK}{q:V->V->Hp->Prop}(h:tE X.K P (fun ρ=>f ρ >>= fun x=>g ρ >>= fun y=>k x y) σ H Q)
 (hk:∀ H0 B ρ v w H' r r',DenE X.K H0 H' B σ ρ->aW X.K H0 H H' B v r->aW X.K H0 H H' B w r'->aL H H'->(match k r r' with
  | .ok r1=>∀ v1 H1,aL H' H1->aW X.K H0 H H1 B v1 r1->Q v1 H1
  | .exc x=>P.p x σ H'
  | .stk=>False)->q v w H'):tE X.K P f σ H fun v H1=>tE X.K P g σ H1 fun w H2=>q v w H2:=by
 obtain⟨H0,B,ρ,d,h⟩:=h;cases e:f ρ with
 | stk=>simp[e]at h
 | exc x=>simp[e]at h;exact dP d e h
 | ok r =>
  simp[e]at h
  refine fD d e fun v H1 s1 d1 g1=>?_
  cases e2:g ρ with
  | stk=>simp[e2]at h
  | exc x=>simp[e2]at h;exact dP d1 e2 (P.mono h s1)
  | ok r' =>
   simp[e2]at h
   refine fD d1 e2 fun w H2 s2 d2 g2=>hk H0 B ρ v w H2 r r' d2 (g1.mono s2) ?_ (s1.trans s2) ?_
   · unfold aW at g2 ⊢
     cases k:r'.k with
     | shr=>rw[k]at g2;exact g2
     | own=>rw[k]at g2;exact g2
     | tmp=>rw[k]at g2;obtain⟨a,o,h1,h2,h3⟩:=g2;exact⟨a,o,h1,s1.none h2,h3⟩
     | old=>rw[k]at g2;exact g2
   · cases e3:k r r' with
     | stk=>rw[e3]at h;exact h
     | exc x=>rw[e3]at h;exact P.mono h (s1.trans s2)
     | ok r1=>rw[e3]at h;exact fun v1 H3 s3 g3=>h v1 H3 ((s1.trans s2).trans s3) g3
theorem aIm {op:Operator}{C:Int->Int->Bool}{C':Int->Int->Prop}{G:Int->Int->Int}(ho:OpR X (binaryOp op) (rI C' fun i j=>.int (G i j)))(hC:∀ i j,C i j=true->C' i j)(ha:PE X a (tE X.K P f))(hb:PE X b (tE X.K P g)) :
 PE X (.BinOp a op b pos) (tE X.K P (i2E C G f g)):=by
 refine PE.imp (aJk ho ha hb) ?_
 intro σ H Q h;refine t2 (q:=fun x y H2=>rI C' (fun i j=>.int (G i j)) x y H2 Q) h ?_
 intro H0 B ρ v w H' r r' d g1 g2 s h;cases e1:asI r.d with
 | stk=>simp[e1]at h
 | exc x=>exact(dR e1).elim
 | ok i =>
  cases e2:asI r'.d with
  | stk=>simp[e1,e2]at h
  | exc x=>exact(dR e2).elim
  | ok j =>
   simp only[e1,e2,R.ok_bind]at h;by_cases hc:C i j=true
   · rw[if_pos hc]at h
     exact⟨i,j,g1.int (eN e1),g2.int (eN e2),hC i j hc,h _ H' (aL.refl _) (aW.sc (show Rep _ _ (.int (G i j)) _ from rfl))⟩
   · rw[if_neg hc]at h;exact h.elim
theorem aQv {G:Int->Int->Int}{F:Value->Value->Sem Value}(h:OpR X F (rI0 fun i j=>.int (G i j))):OpR X F (rI (fun _ _=>True) fun i j=>.int (G i j)) :=
 fun pins s σ H x y v u Q I rx ry ⟨i,j,e1,e2,_,q⟩=>h pins s σ H x y v u Q I rx ry ⟨i,j,e1,e2,q⟩
theorem gP (ha:PE X a (tE X.K P f))(hb:PE X b (tE X.K P g)):PE X (.BinOp a .Add b pos) (tE X.K P (cH f g)):=aIm (aQv aTq) (fun _ _ _=>trivial) ha hb
theorem kM (ha:PE X a (tE X.K P f))(hb:PE X b (tE X.K P g)):PE X (.BinOp a .Sub b pos) (tE X.K P (eM f g)):=aIm (aQv aR5) (fun _ _ _=>trivial) ha hb
theorem dW (ha:PE X a (tE X.K P f))(hb:PE X b (tE X.K P g)):PE X (.BinOp a .Mult b pos) (tE X.K P (bN f g)):=aIm aNl (fun i j h=>by
 unfold CM at h;simp at h;exact h) ha hb
theorem sV (ha:PE X a (tE X.K P f))(hb:PE X b (tE X.K P g)):PE X (.BinOp a .FloorDiv b pos) (tE X.K P (jR f g)):=aIm aJ2 (fun i j h=>by
 unfold CD at h;simp at h;exact h) ha hb
theorem eW (ha:PE X a (tE X.K P f))(hb:PE X b (tE X.K P g)):PE X (.BinOp a .Mod b pos) (tE X.K P (cA f g)):=aIm aQz (fun i j h=>by
 unfold CP at h;simp at h;exact h) ha hb
theorem aGc (ha:PE X a (tE X.K P f))(hb:PE X b (tE X.K P g)):PE X (.BinOp a .Pow b pos) (tE X.K P (pW f g)):=aIm aRl (fun i j h=>by
 unfold CW at h;simp at h;exact⟨h.1.1,h.1.2,h.2⟩) ha hb
theorem aL6 {G:Int->Int->Bool}(σ:St)(H:Hp)(Q:VK)(h:tE X.K P (aG8 G f g) σ H Q):tOp (rI0 fun i j=>.bl (G i j)) (tE X.K P f) (tE X.K P g) σ H Q:=by
 refine t2 (q:=fun x y H2=>rI0 (fun i j=>.bl (G i j)) x y H2 Q) h ?_
 intro H0 B ρ v w H' r r' d g1 g2 s h;cases e1:asI r.d with
 | stk=>simp[e1]at h
 | exc x=>exact(dR e1).elim
 | ok i =>
  cases e2:asI r'.d with
  | stk=>simp[e1,e2]at h
  | exc x=>exact(dR e2).elim
  | ok j =>
   simp only[e1,e2,R.ok_bind]at h;exact⟨i,j,g1.int (eN e1),g2.int (eN e2),h _ H' (aL.refl _) (aW.sc (show Rep _ _ (.bl (G i j)) _ from rfl))⟩
mutual
theorem Rep.has {G H:Hp}(s:aL G H):∀ {d:D} {p:PyData} {v:V},lH d=some p->Rep X.K G d v->Has X.K H v p
 | .non,_,_,e,h=>by simp[lH]at e;subst e;rw[show _=V.non from h];exact .non
 | .bl b,_,_,e,h=>by simp[lH]at e;subst e;rw[show _=V.bl b from h];exact .bl b
 | .int i,_,_,e,h=>by simp[lH]at e;subst e;rw[show _=V.int i from h];exact .int i
 | .str x,_,_,e,h=>by simp[lH]at e;subst e;rw[show _=V.str x from h];exact .str x
 | .lst ds,_,_,e,⟨a,xs,h1,h2,h3⟩=>by
  simp[lH]at e
  obtain⟨ps,e1,e2⟩:=e;subst e2;subst h1;exact .lst (.inl (aL.rd s h2)) (aJ.has s e1 h3)
 | .tup ds,_,_,e,⟨a,xs,h1,h2,h3⟩=>by
  simp[lH]at e
  obtain⟨ps,e1,e2⟩:=e;subst e2;subst h1;exact .tup (.inl (.inl (s _ _ h2))) (aJ.has s e1 h3)
 | .obj _ _,_,_,e,h=>h.elim
 | .any,_,_,e,_=>by simp[lH]at e
 | .dct _ _,_,_,e,_=>by simp[lH]at e
 | .exc _ _,_,_,e,_=>by simp[lH]at e
theorem aJ.has {G H:Hp}(s:aL G H):∀ {ds:List D} {ps:List PyData} {vs:List V},sU ds=some ps->aJ X.K G ds vs->HasAll X.K H vs ps
 | [],_,_,e,h=>by simp[sU]at e;subst e;rw[show _=[] from h];exact .nil
 | d :: r,_,_,e,⟨x,xr,h1,h2,h3⟩=>by
  simp[sU,Option.bind_eq_some_iff]at e
  obtain⟨p,e1,q,e2,e3⟩:=e;subst e3;subst h1;exact .cons (Rep.has s e1 h2) (aJ.has s e2 h3)
end
theorem aW.has {H0 H H':Hp}{B:Addr->Prop}{v:V}{r:Res}{p:PyData}(g:aW X.K H0 H H' B v r)(e:lH r.d=some p):Has X.K H' v p:=by
 cases k:r.d with
 | lst ds =>
  obtain⟨a,xs,h1,h2,h3⟩:=g.list k;rw[k]at e;simp[lH]at e
  obtain⟨ps,e1,e2⟩:=e;subst e2;subst h1;exact .lst (.inl h2) (aJ.has fG e1 h3)
 | dct ks ds=>rw[k]at e;simp[lH]at e
 | _=>exact Rep.has fG e (g.shr_of (by rw[k];rfl))
theorem aKx {x y:D}{z:Xc}(h:qC x y=.exc z):False:=by
 unfold qC at h;split at h
 · split at h<;>cases h
 · cases h
theorem aLj {n:Bool->Bool}(σ:St)(H:Hp)(Q:VK)(h:tE X.K P (fun ρ=>f ρ >>= fun x=>g ρ >>= fun y=>qC x.d y.d >>= fun t=>.ok (sc (.bl (n t)))) σ H Q) :
 tOp (fun x y H Q=>∃ d e,Has X.K H x d/\Has X.K H y e/\SeqAt.shaped d=true/\SeqAt.shaped e=true/\Q (.bl (n (PyData.eqv d e))) H) (tE X.K P f) (tE X.K P g) σ H Q:=by
 refine t2 (q:=fun x y H2=>∃ d e,Has X.K H2 x d/\Has X.K H2 y e/\SeqAt.shaped d=true/\SeqAt.shaped e=true/\Q (.bl (n (PyData.eqv d e))) H2) h ?_
 intro H0 B ρ v w H' r r' d g1 g2 s h;cases e1:qC r.d r'.d with
 | stk=>simp[e1]at h
 | exc x=>exact(aKx e1).elim
 | ok t =>
  simp only[e1,R.ok_bind]at h;unfold qC at e1;split at e1
  · rename_i p q hp hq
    split at e1
    · rename_i hs
      rw[Cm]at hs;cases e1;exact⟨p,q,g1.has hp,g2.has hq,hs.1,hs.2,h _ H' (aL.refl _) (aW.sc (show Rep _ _ (.bl _) _ from rfl))⟩
    · cases e1
  · cases e1
theorem aF8 {σ:St}{H:Hp}{Q:Bool->Hp->Prop}(h:tT X.K P (bT f) σ H Q):tE X.K P f σ H fun x H1=>∃ k,x=.bl k/\Q k H1:=by
 obtain⟨H0,B,ρ,d,h⟩:=h;unfold bT at h;cases e:f ρ with
 | stk=>simp[e]at h
 | exc x=>simp[e]at h;exact dP d e h
 | ok r =>
  cases e1:asB r.d with
  | stk=>simp[e,e1]at h
  | exc x=>exact(aF9 e1).elim
  | ok t =>
   simp[e,e1]at h
   exact fD d e fun v H' s d' g'=>⟨t,g'.bl (aJp e1),h H' s⟩
theorem aWk (ha:PE X a (tE X.K P f))(hb:PE X b (tE X.K P g)):PE X (.Compare a [.GtE] [b] pos) (tE X.K P (geE f g)):=PE.imp (aFp aT8 ha hb (sM _)) aL6
theorem aTe (hu:X.A.units+64<cLine)(ha:PE X a (tE X.K P f))(hb:PE X b (tE X.K P g)):PE X (.Compare a [.Eq] [b] pos) (tE X.K P (eqE f g)):=PE.imp (aFp (aLq hu) ha hb (sM _)) (aLj (n:=id))
theorem vJ {op:CmpOp}{r:R2}(ho:OpR X (compareOp op) r)(ha:PE X a (tE X.K P f))(hb:PE X b (tE X.K P g))(hm:behindInMarks op b=false){F:FE}(himp:∀ σ H Q,tE X.K P F σ H Q->tOp r (tE X.K P f) (tE X.K P g) σ H Q) :
 PT X (.Compare a [op] [b] pos) (tT X.K P (bT F)):=by
 refine PT.imp (aPl ho ha hb hm) ?_
 intro σ H Q h;exact himp σ H _ (aF8 h)
theorem aBz (ha:PE X a (tE X.K P f))(hb:PE X b (tE X.K P g)):PT X (.Compare a [.Lt] [b] pos) (tT X.K P (bT (ltE f g))):=vJ aU6 ha hb (sM _) aL6
theorem aL2 (ha:PE X a (tE X.K P f))(hb:PE X b (tE X.K P g)):PT X (.Compare a [.Gt] [b] pos) (tT X.K P (bT (gtE f g))):=vJ aUj ha hb (sM _) aL6
theorem aFy (hu:X.A.units+64<cLine)(ha:PE X a (tE X.K P f))(hb:PE X b (tE X.K P g)):PT X (.Compare a [.Eq] [b] pos) (tT X.K P (bT (eqE f g))):=vJ (aLq hu) ha hb (sM _) (aLj (n:=id))
theorem sW (hu:X.A.units+64<cLine)(ha:PE X a (tE X.K P f))(hb:PE X b (tE X.K P g)):PT X (.Compare a [.NotEq] [b] pos) (tT X.K P (bT (neE f g))):=vJ (aQ2 hu) ha hb (sM _) (aLj (n:=not))
theorem aDq {e:Expr}(h:PE X e (tE X.K P f))(he:∀ whole,isTrue e X.env whole=(do let v ← whole;standAt e.pos;holding [v] (truthy v)):=by intro _;rfl):PT X e (tT X.K P (bT f)):=by
 refine PT.imp (aTf h he) ?_
 intro σ H Q h;exact aF8 h
variable {t u:FT}{rest:List Expr}
theorem tT1 {k:Bool->R Bool}{σ:St}{H:Hp}{Q:Bool->Hp->Prop}{q:Bool->Hp->Prop}(h:tT X.K P (fun ρ=>t ρ >>= k) σ H Q)
 (hk:∀ c H',aL H H'->(match k c with
  | .ok b=>∀ H1,aL H' H1->Q b H1
  | .exc x=>P.p x σ H'
  | .stk=>False)->q c H'):tT X.K P t σ H q:=by
 obtain⟨H0,B,ρ,d,h⟩:=h;cases e:t ρ with
 | stk=>simp[e]at h
 | exc x=>simp[e]at h;exact⟨H0,B,ρ,d,by rw[e];exact h⟩
 | ok c =>
  simp[e]at h
  refine⟨H0,B,ρ,d,?_⟩
  rw[e];intro H' s;refine hk c H' s ?_
  cases e2:k c with
  | stk=>rw[e2]at h;exact h
  | exc x=>rw[e2]at h;exact P.mono h s
  | ok b=>rw[e2]at h;exact fun H1 s1=>h H1 (s.trans s1)
theorem aK4 (h:PT X a (tT X.K P t)):PT X (.UnaryOp .Not a pos) (tT X.K P (aAj t)):=by
 refine PT.imp (aS0 h) ?_
 intro σ H Q h;exact tT1 (q:=fun c H1=>Q (!c) H1) h fun c H' s h=>h H' (aL.refl _)
theorem tT2 {σ:St}{H:Hp}{Q:Bool->Hp->Prop}{stop:Bool}{h2:Hp->Prop}
 (h:tT X.K P (fun ρ=>t ρ >>= fun b=>if b=stop then .ok stop else u ρ) σ H Q):tT X.K P t σ H fun c H1=>if c=stop then Q stop H1 else tT X.K P u σ H1 Q:=by
 obtain⟨H0,B,ρ,d,h⟩:=h;cases e:t ρ with
 | stk=>simp[e]at h
 | exc x=>simp[e]at h;exact⟨H0,B,ρ,d,by rw[e];exact h⟩
 | ok c =>
  simp only[e,R.ok_bind]at h;refine⟨H0,B,ρ,d,?_⟩
  rw[e];intro H' s;by_cases hc:c=stop
  · rw[if_pos hc]at h ⊢
    exact h H' s
  · rw[if_neg hc]at h ⊢
    refine⟨H0,B,ρ,d.mono s,?_⟩
    cases e2:u ρ with
    | stk=>rw[e2]at h;exact h
    | exc x=>rw[e2]at h;exact P.mono h s
    | ok b=>rw[e2]at h;exact fun H1 s1=>h H1 (s.trans s1)
theorem aQ9:orT t u=fun ρ=>t ρ >>= fun b=>if b=true then .ok true else u ρ:=by
 funext ρ
 unfold orT;cases t ρ with
 | ok b=>cases b<;>rfl
 | _=>rfl
theorem aKq (ha:PT X a (tT X.K P t)):PW X (.BoolOp .Or [a] pos) (tT X.K P t):=aRb ha
theorem PW.imp {e:Expr}{t t':TT}(p:PW X e t)(h:∀ σ H Q,t' σ H Q->t σ H Q):PW X e t':=fun wh pins s σ H Q I q=>p wh pins s σ H Q I (h σ H Q q)
theorem aQs (ha:PT X a (tT X.K P t))(hb:PW X (.BoolOp .Or (b :: rest) pos) (tT X.K P u)):PW X (.BoolOp .Or (a :: b :: rest) pos) (tT X.K P (orT t u)):=by
 refine PW.imp (aUt ha hb) ?_
 intro σ H Q h;rw[aQ9]at h;exact tT2 (h2:=fun _=>True) h
end Mir
namespace Mir
open PySem L2
variable {X:Cx}{P:XP}{a b c e:Expr}{es:List Expr}{f g:FE}{fs:FEs}{pos:Pos}
def fH (K:PySem.W.Frag)(H0 H H':Hp)(B:Addr->Prop):List V->List Res->Prop
 | [],rs=>rs=[]
 | v :: vs,rs=>∃ r rr,rs=r :: rr/\aW K H0 H H' B v r/\fH K H0 H H' B vs rr
theorem aW.old {K:PySem.W.Frag}{H0 H H1 H2:Hp}{B:Addr->Prop}{v:V}{r:Res}(s:aL H H1)(g:aW K H0 H1 H2 B v r):aW K H0 H H2 B v r:=by
 unfold aW at g ⊢;cases k:r.k with
 | shr=>rw[k]at g;exact g
 | own=>rw[k]at g;exact g
 | tmp=>rw[k]at g;obtain⟨a,o,h1,h2,h3⟩:=g;exact⟨a,o,h1,s.none h2,h3⟩
 | old=>rw[k]at g;exact g
theorem fH.old {K:PySem.W.Frag}{H0 H H1 H2:Hp}{B:Addr->Prop}(s:aL H H1):∀ {vs:List V} {rs:List Res},fH K H0 H1 H2 B vs rs->fH K H0 H H2 B vs rs
 | [],_,h=>h
 | _ :: _,_,⟨r,rr,e,g,gs⟩=>⟨r,rr,e,g.old s,fH.old s gs⟩
theorem fH.len {K:PySem.W.Frag}{H0 H H1:Hp}{B:Addr->Prop}:∀ {vs:List V} {rs:List Res},fH K H0 H H1 B vs rs->vs.length=rs.length
 | [],rs,h=>by have e:rs=[]:=h;rw[e];rfl
 | _ :: _,_,⟨r,rr,e,g,gs⟩=>by rw[e];simp[fH.len gs]
def tAs (K:PySem.W.Frag)(P:XP)(fs:FEs):TA:=fun σ H Q=>∃ H0 B ρ,DenE K H0 H B σ ρ/\match evs fs ρ with
 | .ok rs=>∀ vs H',aL H H'->fH K H0 H H' B vs rs->Q vs H'
 | .exc x=>P.p x σ H
 | .stk=>False
theorem PA.imp {t t':TA}(p:PA X es t)(h:∀ σ H Q,t' σ H Q->t σ H Q):PA X es t':=fun pos pins s σ H Q I q=>p pos pins s σ H Q I (h σ H Q q)
theorem aF:PA X [] (tAs X.K P []):=PA.imp nZ fun σ H Q ⟨H0,B,ρ,d,h⟩=>h [] H (aL.refl H) rfl
theorem aA (ha:PE X e (tE X.K P f))(hr:PA X es (tAs X.K P fs))(hs:starEach (e :: es) X.env=(false,eval e X.env) :: starEach es X.env:=by rfl):PA X (e :: es) (tAs X.K P (f :: fs)):=by
 refine PA.imp (kX ha hr hs) ?_
 rintro σ H Q ⟨H0,B,ρ,d,h⟩
 unfold evs at h;show tE X.K P f σ H fun x H1=>tAs X.K P fs σ H1 fun xs H2=>Q (x :: xs) H2
 cases e1:f ρ with
 | stk=>simp[e1]at h
 | exc x=>simp[e1]at h;exact dP d e1 h
 | ok r =>
  simp only[e1,R.ok_bind]at h;refine fD d e1 fun v H1 s1 d1 g1=>⟨H0,B,ρ,d1,?_⟩
  cases e2:evs fs ρ with
  | stk=>simp[e2]at h
  | exc x=>simp[e2]at h;exact P.mono h s1
  | ok rs =>
   simp only[e2,R.ok_bind]at h;exact fun vs H2 s2 gs=>h (v :: vs) H2 (s1.trans s2) ⟨r,rs,rfl,g1.mono s2,gs.old s1⟩
theorem tA1 {k:List Res->R Res}{σ:St}{H:Hp}{Q:VK}{q:List V->Hp->Prop}(h:tE X.K P (fun ρ=>evs fs ρ >>= k) σ H Q)
 (hk:∀ H0 B ρ vs H' rs,DenE X.K H0 H B σ ρ->DenE X.K H0 H' B σ ρ->fH X.K H0 H H' B vs rs->aL H H'->(match k rs with
  | .ok r1=>∀ v1 H1,aL H' H1->aW X.K H0 H H1 B v1 r1->Q v1 H1
  | .exc x=>P.p x σ H'
  | .stk=>False)->q vs H'):tAs X.K P fs σ H q:=by
 obtain⟨H0,B,ρ,d,h⟩:=h;refine⟨H0,B,ρ,d,?_⟩
 cases e:evs fs ρ with
 | stk=>simp[e]at h
 | exc x=>simp[e]at h;exact h
 | ok rs =>
  simp only[e,R.ok_bind]at h;intro vs H' s gs;refine hk H0 B ρ vs H' rs d (d.mono s) gs s ?_
  cases e2:k rs with
  | stk=>rw[e2]at h;exact h
  | exc x=>rw[e2]at h;exact P.mono h s
  | ok r1=>rw[e2]at h;exact fun v1 H1 s1 g1=>h v1 H1 (s.trans s1) g1
theorem fH.gives {K:PySem.W.Frag}{H0 H H':Hp}{B:Addr->Prop}{σ:St}{ρ:Env}(den:DenE K H0 H B σ ρ):∀ {vs:List V} {rs:List Res} {y:Bool×List D},fH K H0 H H' B vs rs->gives rs=.ok y->aJ K (bH y.1 H0 H' B) y.2 vs
 | [],_,y,h,e=>by rw[show _=[] from h]at e;simp[Mir.gives]at e;subst e;rfl
 | v :: vs,_,y,⟨r,rr,e1,g,gs⟩,e=>by
  subst e1;simp only[Mir.gives]at e;cases e2:r.give with
  | stk=>simp[e2]at e
  | exc x=>simp[e2]at e
  | ok r' =>
   cases e3:Mir.gives rr with
   | stk=>simp[e2,e3]at e
   | exc x=>simp[e2,e3]at e
   | ok y' =>
    simp only[e2,e3,R.ok_bind]at e;cases e;obtain⟨q1,q2⟩:=g.give den e2;have q3:=fH.gives den gs e3;subst q1
    have w:∀ {fr fr':Bool} {d:D} {v:V},Rep K (bH fr H0 H' B) d v->Rep K (bH (fr&&fr') H0 H' B) d v:=fun {fr fr' d v} h=>by
     cases fr' with
     | true=>simpa using h
     | false=>simp;exact Rep.same lY h
    have w2:∀ {fr fr':Bool} {d:List D} {v:List V},aJ K (bH fr' H0 H' B) d v->aJ K (bH (fr&&fr') H0 H' B) d v:=fun {fr fr' d v} h=>by
     cases fr with
     | true=>simpa using h
     | false=>simp;exact aJ.same lY h
    exact⟨v,vs,rfl,w q2,w2 q3⟩
theorem oZ {x:Xc}:∀ {rs:List Res},gives rs=.exc x->False
 | [],h=>by simp[gives]at h
 | r :: rs,h=>by
  simp only[gives]at h;cases e2:r.give with
  | stk=>simp[e2]at h
  | exc x=>unfold Res.give at e2;split at e2<;>cases e2
  | ok r' =>
   cases e3:gives rs with
   | stk=>simp[e2,e3]at h
   | exc x=>exact oZ e3
   | ok y=>simp[e2,e3]at h
theorem kA {K:PySem.W.Frag}{H0 H H':Hp}{B:Addr->Prop}{σ:St}{ρ:Env}{p:Addr}{vs:List V}{ds:List D}{fr:Bool}(den:DenE K H0 H' B σ ρ)(s:aL H H')(hp:H' p=none)(r:aJ K (bH fr H0 H' B) ds vs) :
 aW K H0 H (upd H' p (.lst vs)) B (.ref p) ⟨.tmp,fr,.lst ds⟩:=by
 refine⟨p,_,rfl,s.none hp,bL,.lst (aJ.same (bA (fun b o e _=>aL.upd_new hp b o e) fun b z=>?_) r)⟩
 rcases z with z | z
 · exact .inl z
 · exact .inr (by rw[z];exact hp)
theorem oP {K:PySem.W.Frag}{H0 H':Hp}{B:Addr->Prop}{σ:St}{ρ:Env}{p:Addr}{vs:List V}{ds:List D}{fr:Bool}(den:DenE K H0 H' B σ ρ)(hp:H' p=none)(r:aJ K (bH fr H0 H' B) ds vs) :
 Rep K (bH fr H0 (upd H' p (.tup vs)) B) (.tup ds) (.ref p):=by
 refine⟨p,vs,rfl,bB.mpr ⟨fun z=>?_,bL⟩,aJ.same (bA (fun b o e _=>aL.upd_new hp b o e) fun b z=>.inl z) r⟩
 rcases z with z | ⟨_,o,z,_⟩
 · obtain⟨o,q,_⟩:=den.bnd p z;rw[hp]at q;cases q
 · rw[den.sam _ _ z]at hp;cases hp
theorem fU (h:PA X es (tAs X.K P fs)):PE X (.List es pos) (tE X.K P (cN fs)):=by
 refine PE.imp (aSo h) ?_
 intro σ H Q h;refine tA1 h ?_
 intro H0 B ρ vs H' rs d0 d gs s h;cases e:gives rs with
 | stk=>simp[e]at h
 | exc x=>exact(oZ e).elim
 | ok y =>
  simp only[e,R.ok_bind]at h;have r:=gs.gives d0 e;by_cases hz:y.2.length<=sizeLine
  · rw[if_pos hz]at h
    exact⟨by rw[←r.length];exact hz,fun p hp=>h _ _ (aL.upd_new hp) (kA d s hp r)⟩
  · rw[if_neg hz]at h;exact h.elim
theorem jH {x1}(h:PA X es (tAs X.K P fs)):PE X (.Tuple es x1 pos) (tE X.K P (dH fs)):=by
 refine PE.imp (aR4 h) ?_
 intro σ H Q h;refine tA1 h ?_
 intro H0 B ρ vs H' rs d0 d gs s h;cases e:gives rs with
 | stk=>simp[e]at h
 | exc x=>exact(oZ e).elim
 | ok y =>
  simp only[e,R.ok_bind]at h;have r:=gs.gives d0 e;by_cases hz:y.2.length<=sizeLine
  · rw[if_pos hz]at h
    exact⟨by rw[←r.length];exact hz,fun p hp=>h _ _ (aL.upd_new hp) (oP d hp r)⟩
  · rw[if_neg hz]at h;exact h.elim
theorem aW.seq {K:PySem.W.Frag}{H0 H H':Hp}{B:Addr->Prop}{v:V}{r:Res}{ds:List D}(g:aW K H0 H H' B v r)(e:asS r.d=.ok ds):∃ a xs,v=.ref a/\(Rd H' a (.lst xs)\/H' a=some (.tup xs))/\aJ K (bH r.fr H0 H' B) ds xs:=by
 rcases aEm e with e | e
 · obtain⟨a,xs,h1,h2,h3⟩:=g.list e
   exact⟨a,xs,h1,.inl h2,h3⟩
 · obtain⟨a,xs,h1,h2,h3⟩:=g.tuple e
   exact⟨a,xs,h1,.inr h2,h3⟩
theorem oK {k:Res->R Res}{rule:List V->Hp->VK->Prop}{σ:St}{H:Hp}{Q:VK}(h:tE X.K P (fun ρ=>f ρ >>= k) σ H Q)
 (hk:∀ H0 B ρ v H' r,DenE X.K H0 H B σ ρ->DenE X.K H0 H' B σ ρ->aW X.K H0 H H' B v r->aL H H'->(match k r with
  | .ok r1=>∀ v1 H1,aL H' H1->aW X.K H0 H H1 B v1 r1->Q v1 H1
  | .exc x=>P.p x σ H'
  | .stk=>False)->rule [v] H' Q):tCB rule (tAs X.K P [f]) σ H Q:=by
 show tAs X.K P [f] σ H fun vs H1=>rule vs H1 Q
 have e:(fun ρ=>evs [f] ρ >>= fun rs=>match rs with | [r]=>k r | _=>.stk)=fun ρ=>f ρ >>= k:=by
  funext ρ
  unfold evs;cases f ρ with
  | ok r=>rfl
  | _=>rfl
 rw[←e]at h;refine tA1 h ?_
 intro H0 B ρ vs H' rs d0 d gs s h;match vs,rs,gs with
 | [],rs,gs=>have e:rs=[]:=gs;subst e;exact h.elim
 | [v],_,⟨r,rr,e1,g1,g2⟩ =>
  subst e1;rw[show rr=[] from g2]at h
  exact hk H0 B ρ v H' r d0 d g1 s h
 | v :: w :: _,_,⟨r,rr,e1,g1,r2,rr2,e2,g2⟩ =>
  subst e1;subst e2;exact h.elim
variable {x:Str}{p:Pos}
theorem jE (hg:Gl X "len")(hm:X.mg "len" = none)(ha:PE X a (tE X.K P f))(he:starEach [a] X.env=[(false,eval a X.env)]:=by rfl):PE X (.Call (.Name "len" p) [a] [] pos) (tE X.K P (bX f)):=by
 refine PE.imp (kG aA0 hg hm PySem.boot_len (aA ha aF he) (he:=he)) ?_
 intro σ H Q h;refine oK h ?_
 intro H0 B ρ v H' r d0 d g s h;cases e:asS r.d with
 | stk=>simp[e]at h
 | exc x=>exact(qU e).elim
 | ok ds =>
  simp only[e,R.ok_bind]at h;obtain⟨a,xs,h1,h2,h3⟩:=g.seq e;exact⟨a,xs,by rw[h1],h2.imp .inl fun z=>.inl (.inl z),h _ H' (aL.refl _) (by rw[h3.length];exact aW.sc (show Rep _ _ (.int _) _ from rfl))⟩
theorem aBs (hg:Gl X "tuple")(hm:X.mg "tuple" = none)(ha:PE X a (tE X.K P f))(he:starEach [a] X.env=[(false,eval a X.env)]:=by rfl):PE X (.Call (.Name "tuple" p) [a] [] pos) (tE X.K P (nK f)):=by
 refine PE.imp (iP xO hg hm (by decide +kernel) (aA ha aF he) (he:=he)) ?_
 intro σ H Q h;refine oK h ?_
 intro H0 B ρ v H' r d0 d g s h;cases e:asS r.d with
 | stk=>simp[e]at h
 | exc x=>exact(qU e).elim
 | ok ds =>
  simp only[e,R.ok_bind]at h;rcases aEm e with e' | e'
  · obtain⟨a,xs,h1,h2,h3⟩:=g.list e'
    exact⟨a,xs,by rw[h1],.inl ⟨.inl h2,fun l hl=>h _ _ (aL.upd_new hl) (oP d hl h3)⟩⟩
  · obtain⟨a,xs,h1,h2,h3⟩:=g.tuple e'
    have:=g.shr_of (by rw[e'];rfl)
    rw[e',h1]at this;exact⟨a,xs,by rw[h1],.inr ⟨.inl (.inl h2),h _ H' (aL.refl _) this⟩⟩
theorem aGr {K:PySem.W.Frag}{G:Hp}{ds:List D}{xs:List V}{j:Int}{d:D}(r:aJ K G ds xs)(e:atI ds j=some d):∃ v,atI xs j=some v/\Rep K G d v:=by
 unfold atI at e ⊢;rw[←r.length];cases q:ixN ds.length j with
 | none=>rw[q]at e;cases e
 | some n=>rw[q]at e;exact r.get e
theorem aVr {σ:St}{H:Hp}{Q:VK}(h:tE X.K P (bD f g) σ H Q):tOp (fun x y H Q=>aN1 X.K x y H Q\/aNj X.K x y H Q) (tE X.K P f) (tE X.K P g) σ H Q:=by
 refine t2 (q:=fun x y H2=>aN1 X.K x y H2 Q\/aNj X.K x y H2 Q) h ?_
 intro H0 B ρ v w H' r r' d g1 g2 s h;cases e1:asS r.d with
 | stk=>simp[e1]at h
 | exc x=>exact(qU e1).elim
 | ok ds =>
  cases e2:asI r'.d with
  | stk=>simp[e1,e2]at h
  | exc x=>exact(dR e2).elim
  | ok j =>
   simp only[e1,e2,R.ok_bind]at h;cases e3:atI ds j with
   | none=>rw[e3]at h;exact h.elim
   | some dd =>
    rw[e3]at h;rcases aEm e1 with e | e
    · obtain⟨a,xs,h1,h2,h3⟩:=g1.list e
      obtain⟨z,z1,z2⟩:=aGr h3 e3;exact .inl ⟨a,xs,j,z,h1,g2.int (eN e2),.inl h2,z1,h z H' (aL.refl _) (Rep.fr d.sam z2)⟩
    · obtain⟨a,xs,h1,h2,h3⟩:=g1.tuple e
      obtain⟨z,z1,z2⟩:=aGr h3 e3;exact .inr ⟨a,xs,j,z,h1,g2.int (eN e2),.inl (.inl h2),z1,h z H' (aL.refl _) (Rep.fr d.sam z2)⟩
theorem aS8:IxR X (fun x y H Q=>aN1 X.K x y H Q\/aNj X.K x y H Q):=by
 intro value slice pins s σ H x y v u Q I rx ry h hs;rcases h with h | h
 · exact aPk value slice pins s σ H x y v u Q I rx ry h hs
 · exact aTl value slice pins s σ H x y v u Q I rx ry h hs
theorem dN (ha:PE X a (tE X.K P f))(hb:PE X b (tE X.K P g))(hs:aGq b:=by exact fun _ _=>rfl):PE X (.Subscript a b pos) (tE X.K P (bD f g)):=PE.imp (aVd aS8 ha hb hs) fun σ H Q h=>aVr h
theorem Inv.rdL {pins:List (Addr×Obj)}{σ:St}{H:Hp}{s:Shared}{l:Addr}{xs:List V}(I:Inv X pins σ H s)(h:Rd H l (.lst xs)):xs.length<=sizeLine/\∃ (its:List Value) (n:Nat),bU xs its/\s.heap.get? l=some { cls:=.type "list",data:=.seq its.toArray n }:=h.ok I.hok
def aQl:R2:=fun x y H Q=>∃ l b xs zs,x=.ref l/\y=.ref b/\Rd H l (.lst xs)/\Rd H b (.lst zs)/\xs.length+zs.length<=sizeLine/\∀ p,H p=none->Q (.ref p) (upd H p (.lst (xs++zs)))
theorem aN8:OpR X (binaryOp .Add) aQl:=by
 intro pins s σ H x y v u Q I rx ry h;obtain⟨l,b,xs,zs,rfl,rfl,hH,hB,hz,q⟩:=h;cases rx;cases ry;obtain⟨z,its,n,r,e⟩:=Inv.rdL I hH;obtain⟨z2,its2,n2,r2,e2⟩:=Inv.rdL I hB;have hl:=r.length;have hl2:=r2.length;refine PySem.P.add_list e e2 ?_ (by rw[Am,Am];omega)
 have ea:its.toArray++its2.toArray=(its++its2).toArray:=by simp
 rw[ea];exact⟨.ref _,_,I.lnew (t':=s.toks) (r.append r2) (by rw[Ai];omega),rfl,q _ I.fresh⟩
theorem aJ.andL {K:PySem.W.Frag}{H0 H:Hp}{B:Addr->Prop}{fr fr':Bool}{ds:List D}{vs:List V}(h:aJ K (bH fr H0 H B) ds vs):aJ K (bH (fr&&fr') H0 H B) ds vs:=by
 cases fr' with
 | true=>simpa using h
 | false=>simp;exact aJ.same lY h
theorem aJ.andR {K:PySem.W.Frag}{H0 H:Hp}{B:Addr->Prop}{fr fr':Bool}{ds:List D}{vs:List V}(h:aJ K (bH fr' H0 H B) ds vs):aJ K (bH (fr&&fr') H0 H B) ds vs:=by
 cases fr with
 | true=>simpa using h
 | false=>simp;exact aJ.same lY h
theorem aGl (ha:PE X a (tE X.K P f))(hb:PE X b (tE X.K P g)):PE X (.BinOp a .Add b pos) (tE X.K P (pG f g)):=by
 refine PE.imp (aJk aN8 ha hb) ?_
 intro σ H Q h;refine t2 (q:=fun x y H2=>aQl x y H2 Q) h ?_
 intro H0 B ρ v w H' r r' d g1 g2 s h;cases e1:asL r.d with
 | stk=>simp[e1]at h
 | exc x=>exact(gS e1).elim
 | ok xs =>
  cases e2:asL r'.d with
  | stk=>simp[e1,e2]at h
  | exc x=>exact(gS e2).elim
  | ok ys =>
   simp only[e1,e2,R.ok_bind]at h;obtain⟨a1,xs1,h1,h2,h3⟩:=g1.list (iL e1);obtain⟨a2,xs2,k1,k2,k3⟩:=g2.list (iL e2);by_cases hz:xs.length+ys.length<=sizeLine
   · rw[if_pos hz]at h
     exact⟨a1,a2,xs1,xs2,h1,k1,h2,k2,by rw[←h3.length,←k3.length];exact hz,fun p hp=>h _ _ (aL.upd_new hp) (kA d s hp (h3.andL.append k3.andR))⟩
   · rw[if_neg hz]at h;exact h.elim
def tO (K:PySem.W.Frag)(P:XP)(f:FO):TO:=fun σ H Q=>∃ H0 B ρ,DenE K H0 H B σ ρ/\match f ρ with
 | .ok o=>∀ H',aL H H'->Q o H'
 | .exc x=>P.p x σ H
 | .stk=>False
theorem PO.imp {e:Option Expr}{t t':TO}(p:PO X e t)(h:∀ σ H Q,t' σ H Q->t σ H Q):PO X e t':=fun pins s σ H Q I q=>p pins s σ H Q I (h σ H Q q)
theorem aB6:PO X none (tO X.K P noO):=PO.imp aPo fun σ H Q ⟨H0,B,ρ,d,h⟩=>h H (aL.refl H)
theorem nT (ha:PE X a (tE X.K P f)):PO X (some a) (tO X.K P (soO f)):=by
 refine PO.imp (aOw ha) ?_
 rintro σ H Q ⟨H0,B,ρ,d,h⟩
 unfold soO at h;show tE X.K P f σ H fun x H1=>∃ i,x=.int i/\Q (some i) H1
 cases e:f ρ with
 | stk=>simp[e]at h
 | exc x=>simp[e]at h;exact dP d e h
 | ok r =>
  cases e1:asI r.d with
  | stk=>simp[e,e1]at h
  | exc x=>exact(dR e1).elim
  | ok i =>
   simp only[e,e1,R.ok_bind]at h;exact fD d e fun v H' s d' g'=>⟨i,g'.int (eN e1),h H' s⟩
theorem aK2 {lo hi:Option Expr}{fl fh:FO}{p2:Pos}(ha:PE X a (tE X.K P f))(hl:PO X lo (tO X.K P fl))(hh:PO X hi (tO X.K P fh)):PE X (.Subscript a (.Slice lo hi none p2) pos) (tE X.K P (tP f fl fh)):=by
 refine PE.imp (vC aNh ha hl hh) ?_
 rintro σ H Q ⟨H0,B,ρ,d,h⟩
 unfold tP at h;show tE X.K P f σ H fun x H1=>tO X.K P fl σ H1 fun l H2=>tO X.K P fh σ H2 fun u H3=>aU0 X.K x l u H3 Q
 cases e:f ρ with
 | stk=>simp[e]at h
 | exc x=>simp[e]at h;exact dP d e h
 | ok r =>
  simp only[e,R.ok_bind]at h;refine fD d e fun v H1 s1 d1 g1=>⟨H0,B,ρ,d1,?_⟩
  cases e1:fl ρ with
  | stk=>simp[e1]at h
  | exc x=>simp[e1]at h;exact P.mono h s1
  | ok l =>
   simp only[e1,R.ok_bind]at h;intro H2 s2;refine⟨H0,B,ρ,d1.mono s2,?_⟩
   cases e2:fh ρ with
   | stk=>simp[e2]at h
   | exc x=>simp[e2]at h;exact P.mono h (s1.trans s2)
   | ok u =>
    simp only[e2,R.ok_bind]at h;intro H3 s3;cases e3:asL r.d with
    | stk=>simp[e3]at h
    | exc x=>exact(gS e3).elim
    | ok ds =>
     simp only[e3,R.ok_bind]at h;obtain⟨a1,xs,h1,h2,h3⟩:=(g1.mono (s2.trans s3)).list (iL e3);have s:=(s1.trans s2).trans s3;refine⟨a1,xs,h1,.inl h2,fun p hp=>h _ _ (s.trans (aL.upd_new hp)) ?_⟩
     have q:aJ X.K (bH r.fr H0 H3 B) (lG ds l u) (sA xs l u):=by
      unfold lG sA;rw[←h3.length];exact(h3.drop _).take _
     exact kA (d.mono s) s hp q
end Mir
namespace Mir
open PySem L2
variable {X:Cx}{P:XP}{a b c e:Expr}{es:List Expr}{f g:FE}{fs:FEs}{pos:Pos}
def yA (K:PySem.W.Frag)(H0 H':Hp)(B:Addr->Prop)(J:It)(w:Its):Prop:=∃ A:Addr->Prop,(w.st=true->∀ a,A a->¬ B a) /\
 ∀ (H2:Hp) (B2:Addr->Prop),(∀ a o,A a->H' a=some o->H2 a=some o)->(∀ b o,H' b=some o->¬ B b->H2 b=some o)->(∀ b,B2 b->B b\/H' b=none)->(∀ b,B2 b->∃ o,H2 b=some o)->aL H0 H2->∀ i,
  (w.ds.length<=i->J.stop i H2)/\∀ d,w.ds[i]?=some d->J.go i H2/\∀ x H3,J.yld i H2 x H3->aL H2 H3/\Rep K (bH w.fr H0 H3 B2) d x
def tI (K:PySem.W.Frag)(P:XP)(f:FI):TI:=fun σ H Rq=>∃ H0 B ρ,DenE K H0 H B σ ρ/\match f ρ with
 | .ok w=>∀ J H',aL H H'->yA K H0 H' B J w->Rq J H'
 | .exc x=>P.p x σ H
 | .stk=>False
theorem PI.imp {tg:Expr}{t t':TI}(p:PI X tg e t)(h:∀ σ H Rq,t' σ H Rq->t σ H Rq):PI X tg e t':=fun pins s σ H Rq I q=>p pins s σ H Rq I (h σ H Rq q)
theorem aW.notB {K:PySem.W.Frag}{H0 H H':Hp}{B:Addr->Prop}{v:V}{r:Res}{σ:St}{ρ:Env}{ds:List D}{a:Addr}(den:DenE K H0 H B σ ρ)(g:aW K H0 H H' B v r)(e:r.d=.lst ds)(hv:v=.ref a)(hk:(r.k != .own)=true):¬ B a:=by
 unfold aW at g;cases k:r.k with
 | shr =>
  rw[k,e,hv]at g;obtain⟨a',xs,h1,h2,h3⟩:=g;cases h1;rcases h2 with h | ⟨o,h⟩
  · exact fun z=>(bB.mp h).1 (.inl z)
  · exact fun z=>(bB.mp h).1 (.inl z)
 | own=>rw[k]at hk;cases hk
 | old=>rw[k]at g;exact g.elim
 | tmp =>
  rw[k,hv]at g;obtain⟨a',o',h1,h2,_⟩:=g;cases h1;intro z;obtain⟨o,q,_⟩:=den.bnd a z;rw[h2]at q;cases q
theorem aFk {H H2:Hp}{a:Addr}{u:HO}(h:Rd H a u)(k:∀ o,H a=some o->H2 a=some o):Rd H2 a u:=by
 rcases h with h | ⟨o,h⟩
 · exact .inl (k _ h)
 · exact .inr ⟨o,k _ h⟩
theorem aIo {K:PySem.W.Frag}{H0 H':Hp}{B:Addr->Prop}{a:Addr}{xs:List V}{ds:List D}{st fr:Bool}(hs:st=true->¬ B a)(h2:Rd H' a (.lst xs))(h3:aJ K (bH fr H0 H' B) ds xs):yA K H0 H' B (Itl K a) ⟨st,fr,ds⟩:=by
 refine⟨fun b=>b=a,fun h b z=>by rw[z];exact hs h,fun H2 B2 k1 k2 k3 k4 k5 i=>?_⟩
 have q:SqL K H2 a xs:=.inl (aFk h2 fun o=>k1 a o rfl);refine⟨fun hi=>⟨xs,q,by rw[←h3.length];exact hi⟩,fun d hd=>?_⟩
 obtain⟨v,hv,rv⟩:=h3.get hd;refine⟨⟨xs,v,q,hv⟩,fun x H3 y=>?_⟩
 obtain⟨e,y⟩:=y;subst e;have:=y xs q
 rw[hv]at this;cases this;exact⟨aL.refl _,Rep.same (bA k2 k3) rv⟩
theorem aI6 {K:PySem.W.Frag}{H0 H':Hp}{B:Addr->Prop}{a:Addr}{xs:List V}{ds:List D}{fr:Bool}(hs:¬ B a)(h2:H' a=some (.tup xs))(h3:aJ K (bH fr H0 H' B) ds xs):yA K H0 H' B (Itt K a) ⟨true,fr,ds⟩:=by
 refine⟨fun b=>b=a,fun h b z=>by rw[z];exact hs,fun H2 B2 k1 k2 k3 k4 k5 i=>?_⟩
 have q:SqT K H2 a xs:=.inl (.inl (k1 a _ rfl h2));refine⟨fun hi=>⟨xs,q,by rw[←h3.length];exact hi⟩,fun d hd=>?_⟩
 obtain⟨v,hv,rv⟩:=h3.get hd;refine⟨⟨xs,v,q,hv⟩,fun x H3 y=>?_⟩
 obtain⟨e,y⟩:=y;subst e;have:=y xs q
 rw[hv]at this;cases this;exact⟨aL.refl _,Rep.same (bA k2 k3) rv⟩
theorem aDe {K:PySem.W.Frag}{H0 H':Hp}{B:Addr->Prop}{lo:Int}{n:Nat}:yA K H0 H' B (Itr lo n) ⟨true,true,kP lo n⟩:=by
 refine⟨fun _=>False,fun _ _ z=>z.elim,fun H2 B2 _ _ _ _ _ i=>⟨fun hi=>?_,fun d hd=>?_⟩⟩
 · show n<=i
   simpa[kP] using hi
 · unfold kP at hd
   rw[Aw]at hd;cases q:(Ao n)[i]? with
   | none=>rw[q]at hd;cases hd
   | some k =>
    rw[q]at hd;cases hd;obtain⟨q1,q2⟩:=Au.mp q;have hi:i<n:=by simpa using q1
    have:k=i:=by rw[←q2];simp
    subst this;refine⟨hi,fun x H3 y=>?_⟩
    obtain⟨e1,e2⟩:=y;subst e1;exact⟨aL.refl _,e2⟩
theorem fJ {tg:Expr}(ha:PE X a (tE X.K P f)):PI X tg a (tI X.K P (cW f)):=by
 refine PI.imp (aPq ha) ?_
 rintro σ H Rq ⟨H0,B,ρ,d,h⟩
 unfold cW at h;show tE X.K P f σ H fun x H1=>∃ a,x=.ref a/\(∃ xs,SqL X.K H1 a xs)/\Rq (Itl X.K a) H1
 cases e:f ρ with
 | stk=>simp[e]at h
 | exc x=>simp[e]at h;exact dP d e h
 | ok r =>
  cases e1:asL r.d with
  | stk=>simp[e,e1]at h
  | exc x=>exact(gS e1).elim
  | ok ds =>
   simp only[e,e1,R.ok_bind]at h;refine fD d e fun v H' s d' g'=>?_
   obtain⟨a,xs,h1,h2,h3⟩:=g'.list (iL e1);exact⟨a,h1,⟨xs,.inl h2⟩,h _ H' s (aIo (fun hk=>g'.notB d (iL e1) h1 hk) h2 h3)⟩
theorem aLb {tg:Expr}(ha:PE X a (tE X.K P f)):PI X tg a (tI X.K P (pU f)):=by
 refine PI.imp (aRc ha) ?_
 rintro σ H Rq ⟨H0,B,ρ,d,h⟩
 unfold pU at h;show tE X.K P f σ H fun x H1=>∃ a,x=.ref a/\(∃ xs,SqT X.K H1 a xs)/\Rq (Itt X.K a) H1
 cases e:f ρ with
 | stk=>simp[e]at h
 | exc x=>simp[e]at h;exact dP d e h
 | ok r =>
  simp only[e,R.ok_bind]at h;cases e1:r.d with
  | tup ds =>
   simp only[e1]at h;refine fD d e fun v H' s d' g'=>?_
   obtain⟨a,xs,h1,h2,h3⟩:=g'.tuple e1
   have nB:¬ B a:=by
    have:=g'.shr_of (by rw[e1];rfl)
    rw[e1,h1]at this;obtain⟨a',xs',q1,q2,_⟩:=this;cases q1;exact fun z=>(bB.mp q2).1 (.inl z)
   exact⟨a,h1,⟨xs,.inl (.inl h2)⟩,h _ H' s (aI6 nB h2 h3)⟩
  | _=>simp[e1]at h
variable {p:Pos}
theorem aOo {k:List Res->R Its}{σ:St}{H:Hp}{Rq:It->Hp->Prop}{q:List V->Hp->Prop}(h:tI X.K P (fun ρ=>evs fs ρ >>= k) σ H Rq)
 (hk:∀ H0 B ρ vs H' rs,DenE X.K H0 H B σ ρ->DenE X.K H0 H' B σ ρ->fH X.K H0 H H' B vs rs->aL H H'->(match k rs with
  | .ok w=>∀ J H1,aL H' H1->yA X.K H0 H1 B J w->Rq J H1
  | .exc x=>P.p x σ H'
  | .stk=>False)->q vs H'):tAs X.K P fs σ H q:=by
 obtain⟨H0,B,ρ,d,h⟩:=h;refine⟨H0,B,ρ,d,?_⟩
 cases e:evs fs ρ with
 | stk=>simp[e]at h
 | exc x=>simp[e]at h;exact h
 | ok rs =>
  simp only[e,R.ok_bind]at h;intro vs H' s gs;refine hk H0 B ρ vs H' rs d (d.mono s) gs s ?_
  cases e2:k rs with
  | stk=>rw[e2]at h;exact h
  | exc x=>rw[e2]at h;exact P.mono h s
  | ok r1=>rw[e2]at h;exact fun v1 H1 s1 g1=>h v1 H1 (s.trans s1) g1
theorem iZ {tg:Expr}(hg:Gl X "range")(hm:X.mg "range" = none)(ha:PE X a (tE X.K P f))(hs:starEach [a] X.env=[(false,eval a X.env)]:=by rfl):PI X tg (.Call (.Name "range" p) [a] [] pos) (tI X.K P (cV f)):=by
 refine PI.imp (aH5 hg hm (aA ha aF hs) hs) ?_
 intro σ H Rq h;show tAs X.K P [f] σ H fun vs H1=>∃ j:Int,vs=[.int j]/\-(2^62)<=j/\j<2^62/\Rq (Itr 0 j.toNat) H1
 have e:cV f=fun ρ=>evs [f] ρ >>= fun rs=>match rs with | [x]=>(asI x.d >>= fun j=>if -(2^62)<=j/\j<2^62 then .ok ⟨true,true,kP 0 j.toNat⟩ else .stk) | _=>.stk:=by
  funext ρ
  unfold cV evs;cases f ρ with
  | ok r=>rfl
  | _=>rfl
 rw[e]at h;refine aOo h ?_
 intro H0 B ρ vs H' rs d0 d gs s h;match vs,rs,gs with
 | [],rs,gs=>have e:rs=[]:=gs;subst e;exact h.elim
 | [v],_,⟨r,rr,e1,g1,g2⟩ =>
  subst e1;rw[show rr=[] from g2]at h
  cases e2:asI r.d with
  | stk=>simp[e2]at h
  | exc x=>exact(dR e2).elim
  | ok j =>
   simp only[e2,R.ok_bind]at h;by_cases hj:-(2^62)<=j/\j<2^62
   · rw[if_pos hj]at h
     exact⟨j,by rw[g1.int (eN e2)],hj.1,hj.2,h _ H' (aL.refl _) aDe⟩
   · rw[if_neg hj]at h;exact h.elim
 | v :: w :: _,_,⟨r,rr,e1,g1,r2,rr2,e2,g2⟩ =>
  subst e1;subst e2;exact h.elim
theorem two {k:Res->Res->R Its}{F:FI}(hF:F=fun ρ=>f ρ >>= fun x=>g ρ >>= fun y=>k x y){σ:St}{H:Hp}{Rq:It->Hp->Prop}{q:List V->Hp->Prop}(h:tI X.K P F σ H Rq)
 (hk:∀ H0 B ρ v w H' r r',DenE X.K H0 H B σ ρ->DenE X.K H0 H' B σ ρ->aW X.K H0 H H' B v r->aW X.K H0 H H' B w r'->aL H H'->(match k r r' with
  | .ok w=>∀ J H1,aL H' H1->yA X.K H0 H1 B J w->Rq J H1
  | .exc x=>P.p x σ H'
  | .stk=>False)->q [v,w] H'):tAs X.K P [f,g] σ H q:=by
 have e:F=fun ρ=>evs [f,g] ρ >>= fun rs=>match rs with | [x,y]=>k x y | _=>.stk:=by
  rw[hF];funext ρ
  unfold evs evs;cases f ρ with
  | ok r =>
   show (g ρ >>= fun y=>k r y)=_
   cases g ρ with
   | ok r'=>rfl
   | _=>rfl
  | _=>rfl
 rw[e]at h;refine aOo h ?_
 intro H0 B ρ vs H' rs d0 d gs s h;match vs,rs,gs with
 | [],rs,gs=>have e:rs=[]:=gs;subst e;exact h.elim
 | [v],_,⟨r,rr,e1,g1,g2⟩ =>
  subst e1;rw[show rr=[] from g2]at h
  exact h.elim
 | [v,w],_,⟨r,rr,e1,g1,r2,rr2,e2,g2,g3⟩ =>
  subst e1;subst e2;rw[show rr2=[] from g3]at h
  exact hk H0 B ρ v w H' r r2 d0 d g1 g2 s h
 | _ :: _ :: _ :: _,_,⟨r,rr,e1,g1,r2,rr2,e2,g2,r3,rr3,e3,_⟩ =>
  subst e1;subst e2;subst e3;exact h.elim
theorem aOc {tg:Expr}(hg:Gl X "range")(hm:X.mg "range" = none)(ha:PE X a (tE X.K P f))(hb:PE X b (tE X.K P g))(hs:starEach [a,b] X.env=[(false,eval a X.env),(false,eval b X.env)]:=by rfl)(hs2:starEach [b] X.env=[(false,eval b X.env)]:=by rfl) :
 PI X tg (.Call (.Name "range" p) [a,b] [] pos) (tI X.K P (zM f g)):=by
 refine PI.imp (aHb hg hm (aA ha (aA hb aF hs2) (by rw[hs,hs2])) hs hs2) ?_
 intro σ H Rq h;refine two rfl h ?_
 intro H0 B ρ v w H' r r' d0 d g1 g2 s h;cases e1:asI r.d with
 | stk=>simp[e1]at h
 | exc x=>exact(dR e1).elim
 | ok i =>
  cases e2:asI r'.d with
  | stk=>simp[e1,e2]at h
  | exc x=>exact(dR e2).elim
  | ok j =>
   simp only[e1,e2,R.ok_bind]at h;by_cases hj:-(2^62)<=i/\i<2^62/\-(2^62)<=j/\j<2^62
   · rw[if_pos hj]at h
     exact⟨i,j,by rw[g1.int (eN e1),g2.int (eN e2)],hj,h _ H' (aL.refl _) aDe⟩
   · rw[if_neg hj]at h;exact h.elim
end Mir
namespace Mir
open PySem L2
variable {X:Cx}{P:XP}{a b c e:Expr}{es:List Expr}{f g:FE}{fs:FEs}{pos:Pos}
mutual
def gOf (K:PySem.W.Frag):Tg->TG
 | .nm i=>aCb i
 | .tp ts=>aNg K ts.length (oH K ts)
def oH (K:PySem.W.Frag):List Tg->TGs
 | []=>aPi
 | t :: ts=>aFs (gOf K t) (oH K ts)
end
theorem yT {fr:Bool}:∀ (ts:List Tg) (ds:List D) (ρ ρ':Env),Tg.binds fr ts ds ρ=.ok ρ'->ds.length=ts.length
 | [],ds,ρ,ρ',e=>by
  cases ds with
  | nil=>rfl
  | cons d ds=>simp[Tg.binds]at e
 | t :: ts,ds,ρ,ρ',e=>by
  cases ds with
  | nil=>simp[Tg.binds]at e
  | cons d ds =>
   simp only[Tg.binds]at e;cases e1:Tg.bind fr t d ρ with
   | stk=>simp[e1]at e
   | exc x=>simp[e1]at e
   | ok ρ1 =>
    simp only[e1,R.ok_bind]at e;simp[yT ts ds ρ1 ρ' e]
section
variable {K:PySem.W.Frag}{G H:Hp}{fr:Bool}{I:St->Env->Prop}
mutual
theorem aAs (sub:aL G H)(hI:∀ σ ρ i d v,I σ ρ->Rep K G d v->I (σ.set i (some v)) (ρ.set i (some ⟨.shr,fr,d⟩))):∀ (t:Tg) (d:D) (v:V) (σ:St) (ρ ρ':Env) (Q:St->Hp->Prop),Tg.bind fr t d ρ=.ok ρ'->Rep K G d v->I σ ρ->(∀ σ',I σ' ρ'->Q σ' H)->gOf K t v σ H Q
 | .nm i,d,v,σ,ρ,ρ',Q,e,r,i0,q=>by
  unfold gOf;simp only[Tg.bind]at e;cases e;exact q _ (hI σ ρ i d v i0 r)
 | .tp ts,d,v,σ,ρ,ρ',Q,e,r,i0,q=>by
  unfold gOf;cases d with
  | tup ds =>
   simp only[Tg.bind]at e;obtain⟨a,xs,h1,h2,h3⟩:=r;have:=aCa sub hI ts ds xs σ ρ ρ' Q e h3 i0 q
   exact⟨a,xs,h1,.inl (.inl (sub _ _ h2)),by rw[←h3.length];exact this.2,this.1⟩
  | _=>simp[Tg.bind]at e
theorem aCa (sub:aL G H)(hI:∀ σ ρ i d v,I σ ρ->Rep K G d v->I (σ.set i (some v)) (ρ.set i (some ⟨.shr,fr,d⟩))):∀ (ts:List Tg) (ds:List D) (vs:List V) (σ:St) (ρ ρ':Env) (Q:St->Hp->Prop),Tg.binds fr ts ds ρ=.ok ρ'->aJ K G ds vs->I σ ρ->(∀ σ',I σ' ρ'->Q σ' H)->oH K ts vs σ H Q/\ds.length=ts.length
 | [],ds,vs,σ,ρ,ρ',Q,e,r,i0,q=>by
  cases ds with
  | nil =>
   simp only[Tg.binds]at e;cases e;exact⟨by unfold oH;exact⟨r,q σ i0⟩,rfl⟩
  | cons d ds=>simp[Tg.binds]at e
 | t :: ts,ds,vs,σ,ρ,ρ',Q,e,r,i0,q=>by
  cases ds with
  | nil=>simp[Tg.binds]at e
  | cons d ds =>
   simp only[Tg.binds]at e;obtain⟨x,xr,h1,h2,h3⟩:=r;cases e1:Tg.bind fr t d ρ with
   | stk=>simp[e1]at e
   | exc x=>simp[e1]at e
   | ok ρ1 =>
    simp only[e1,R.ok_bind]at e;have len:=yT ts ds ρ1 ρ' e;refine⟨?_,by simp[len]⟩
    unfold oH;exact⟨x,xr,h1,aAs sub hI t d x σ ρ ρ1 _ e1 h2 i0 fun σ' i1=>(aCa sub hI ts ds xr σ' ρ1 ρ' Q e h3 i1 q).1⟩
end
end
theorem rO.to {K:PySem.W.Frag}{H0 H H':Hp}{B B':Addr->Prop}{v:V}{r:Res}(sm:aL H0 H)(g:rO K H0 H B v r)(k:∀ b o,H b=some o->¬ B b->H' b=some o)(ko:∀ b o,H b=some o->B b->r.k=.own->v=.ref b->H' b=some o/\B' b)(h:∀ b,B' b->B b\/H b=none):rO K H0 H' B' v r:=by
 unfold rO at g ⊢;have m:∀ fr,aL (bH fr H0 H B) (bH fr H0 H' B'):=fun fr=>bA k h;cases e:r.k with
 | shr=>rw[e]at g;exact Rep.same (m _) g
 | own =>
  rw[e]at g;obtain⟨a,o,h1,h2,h3,h4,h5⟩:=g;obtain⟨q1,q2⟩:=ko a _ h4 h2 e h1;exact⟨a,o,h1,q2,h3,q1,h5.same (m _)⟩
 | tmp=>rw[e]at g;exact g
 | old=>rw[e]at g;exact⟨g.1,Rep.same (fX (fun _ _ q _=>q) fun b z=>(h b z).imp id fun q=>sm.none q) g.2⟩
theorem DenE.to {K:PySem.W.Frag}{H0 H H':Hp}{B B':Addr->Prop}{σ:St}{ρ:Env}(d:DenE K H0 H B σ ρ)(s:aL H H')(hB:∀ b,B b->B' b)(h:∀ b,B' b->B b\/H b=none)(bnd:∀ b,B' b->∃ o,H' b=some o/\stab o=false):DenE K H0 H' B' σ ρ :=
 ⟨d.len,d.sam.trans s,bnd,fun i e he=>let ⟨v,a,g⟩:=d.ent i e he;⟨v,a,g.to d.sam (fun b o q _=>s b o q) (fun b o q q2 _ _=>⟨s b o q,hB b q2⟩) h⟩⟩
theorem DenE.set {K:PySem.W.Frag}{H0 H:Hp}{B:Addr->Prop}{σ:St}{ρ:Env}{i:Nat}{v:V}{r:Res}(d:DenE K H0 H B σ ρ)(g:rO K H0 H B v r):DenE K H0 H B (σ.set i (some v)) (ρ.set i (some r)):=by
 refine⟨by rw[Ci,Ci];exact d.len,d.sam,d.bnd,fun j e he=>?_⟩
 by_cases hj:i=j
 · subst hj
   by_cases hi:i<ρ.length
   · rw[Bc hi]at he
     cases he;exact⟨v,Bc (by rw[←d.len];exact hi),g⟩
   · rw[Bx (by rw[Ci];omega)]at he
     cases he
 · rw[Ax hj]at he
   obtain⟨w,q1,q2⟩:=d.ent j e he;exact⟨w,by rw[Ax hj];exact q1,q2⟩
theorem DenE.comp {K:PySem.W.Frag}{H0 H:Hp}{B:Addr->Prop}{σ:St}{ρ:Env}(d:DenE K H0 H B σ ρ)(k:Nat)(fs:List Nat):DenE K H0 H B (gN k fs σ) (eF k fs ρ):=by
 refine⟨by simp[gN,eF],d.sam,d.bnd,fun i e he=>?_⟩
 unfold eF at he;unfold gN;by_cases hi:i<k
 · rw[By (by simpa using hi),Ee,if_pos hi]at he
   cases he
 · rw[Cn (by simpa using hi),El,Aw]at he
   rw[Cn (by simpa using hi),El,Aw]
   cases q:fs[i-k]? with
   | none=>rw[q]at he;cases he
   | some j =>
    rw[q]at he;simp only[Fc,Db.injEq]at he ⊢
    have he':ρ[j]?=some (some e):=by
     cases z:ρ[j]? with
     | none=>rw[z]at he;cases he
     | some y=>rw[z]at he;simp at he;rw[he]
    obtain⟨v,q1,q2⟩:=d.ent j e he';exact⟨v,by rw[q1];rfl,q2⟩
def tBm (K:PySem.W.Frag)(P:XP)(f:FB):St->Hp->(Option V->Hp->Prop)->Prop:=fun σ H Q=>∃ H0 B ρ,DenE K H0 H B σ ρ/\match f ρ with
 | .ok (some r)=>∀ v H',aL H H'->aW K H0 H H' B v r->Q (some v) H'
 | .ok none=>∀ H',aL H H'->Q none H'
 | .exc x=>P.p x σ H
 | .stk=>False
theorem PB.imp {ifs:List Expr}{t t':St->Hp->(Option V->Hp->Prop)->Prop}(p:PB X ifs e t)(h:∀ σ H Q,t' σ H Q->t σ H Q):PB X ifs e t':=fun pins s σ H Q I q=>p pins s σ H Q I (h σ H Q q)
theorem lC (he:PE X e (tE X.K P f)):PB X [] e (tBm X.K P (bE f)):=by
 refine PB.imp (aSt he) ?_
 rintro σ H Q ⟨H0,B,ρ,d,h⟩
 unfold bE at h;show tE X.K P f σ H fun v H'=>Q (some v) H'
 cases e1:f ρ with
 | stk=>simp[e1]at h
 | exc x=>simp[e1]at h;exact dP d e1 h
 | ok r=>simp only[e1,R.ok_bind]at h;exact fD d e1 fun v H' s d' g'=>h v H' s g'
theorem aGe {t:FT}(hc:PT X c (tT X.K P t))(he:PE X e (tE X.K P f)):PB X [c] e (tBm X.K P (Mir.bIf t f)):=by
 refine PB.imp (aUg hc he) ?_
 rintro σ H Q ⟨H0,B,ρ,d,h⟩
 unfold Mir.bIf at h;show tT X.K P t σ H fun b H1=>if b=true then tE X.K P f σ H1 fun v H'=>Q (some v) H' else Q none H1
 refine⟨H0,B,ρ,d,?_⟩
 cases e1:t ρ with
 | stk=>simp[e1]at h
 | exc x=>simp[e1]at h;exact h
 | ok k =>
  simp only[e1,R.ok_bind]at h;intro H1 s1;cases k with
  | false=>exact aU7 (h H1 s1)
  | true =>
   refine aUl ⟨H0,B,ρ,d.mono s1,?_⟩
   rw[if_pos rfl]at h;cases e2:f ρ with
   | stk=>simp[e2]at h
   | exc x=>simp[e2]at h;exact P.mono h s1
   | ok r=>simp only[e2,R.ok_bind]at h;exact fun v H' s g'=>h v H' (s1.trans s) (g'.old s1)
theorem aBh {fr:Bool}{x:Xc}:∀ (t:Tg) (d:D) (ρ:Env),Tg.bind fr t d ρ=.exc x->False:=by
 have hs:∀ (n:Nat),(∀ (t:Tg) (d:D) (ρ:Env),sizeOf t<=n->Tg.bind fr t d ρ=.exc x->False)/\(∀ (ts:List Tg) (ds:List D) (ρ:Env),sizeOf ts<=n->Tg.binds fr ts ds ρ=.exc x->False):=by
  intro n;induction n with
  | zero =>
   refine⟨fun t d ρ h=>?_,fun ts ds ρ h=>?_⟩
   · cases t<;>simp at h
   · cases ts<;>simp at h
  | succ n ih =>
   refine⟨fun t d ρ h e=>?_,fun ts ds ρ h e=>?_⟩
   · cases t with
     | nm i=>simp[Tg.bind]at e
     | tp ts =>
      cases d with
      | tup ds=>simp only[Tg.bind]at e;exact ih.2 ts ds ρ (by simp at h;omega) e
      | _=>simp[Tg.bind]at e
   · cases ts with
     | nil=>cases ds<;>simp[Tg.binds]at e
     | cons t ts =>
      cases ds with
      | nil=>simp[Tg.binds]at e
      | cons d ds =>
       simp only[Tg.binds]at e;simp at h
       cases e1:Tg.bind fr t d ρ with
       | stk=>simp[e1]at e
       | exc y=>simp[e1]at e;subst e;exact ih.1 t d ρ (by omega) e1
       | ok ρ1=>simp only[e1,R.ok_bind]at e;exact ih.2 ts ds ρ1 (by omega) e
 exact fun t d ρ e=>(hs (sizeOf t)).1 t d ρ (Af _) e
theorem rM {tg:Tg}{fb:FB}{fr:Bool}{ρ:Env}{x:Xc}:∀ {ds:List D},lQ tg fb fr ρ ds=.exc x->False
 | [],e=>by simp[lQ]at e
 | d :: r,e=>by
  simp only[lQ]at e;cases e1:tg.bind fr d ρ with
  | stk=>simp[e1]at e
  | exc y=>exact aBh _ _ _ e1
  | ok ρ1 =>
   simp only[e1,R.ok_bind]at e;cases e2:fb ρ1 with
   | stk=>simp[e2]at e
   | exc y=>simp[e2]at e
   | ok o =>
    cases o with
    | none=>simp only[e2]at e;exact rM e
    | some r' =>
     simp only[e2]at e;cases e3:r'.give with
     | stk=>simp[e3]at e
     | exc y=>unfold Res.give at e3;split at e3<;>cases e3
     | ok z =>
      simp only[e3,R.ok_bind]at e;cases e4:lQ tg fb fr ρ r with
      | stk=>simp[e4]at e
      | exc y=>exact rM e4
      | ok z=>simp[e4]at e
theorem aDa {K:PySem.W.Frag}{H0 H H1:Hp}{B:Addr->Prop}{σ:St}{ρ:Env}{J:It}{w:Its}{k:Nat}{fs:List Nat}{tg:Tg}{fb:FB}{y:Bool×List D}{acc:Addr}{Qf:Hp->Prop}
 (d:DenE K H0 H B σ ρ) (s1:aL H H1) (hw:yA K H0 H1 B J w) (e:lQ tg fb w.fr (eF k fs ρ) w.ds=.ok y) (hz:w.ds.length<=sizeLine) (hacc:H1 acc=none)
 (hq:∀ H2,aL H H2->aW K H0 H H2 B (.ref acc) ⟨.tmp,y.1,.lst y.2⟩->Qf H2):uP J k fs (gOf K tg) (tBm K XP0 fb) σ acc Qf H1:=by
 obtain⟨A,hst,hwk⟩:=hw;have hacc0:H acc=none:=s1.none hacc;have nB:¬ B acc:=fun z=>by obtain⟨o,q,_⟩:=d.bnd acc z;rw[hacc0]at q;cases q
 refine⟨fun i m ys H2=>m=w.ds.length-i/\i<=w.ds.length/\ys.length<=i/\aL H1 H2/\H2 acc=some (.lst ys)/\∃ es1 esS frS,y.2=es1++esS/\lQ tg fb w.fr (eF k fs ρ) (w.ds.drop i)=.ok (frS,esS)/\(y.1=true->frS=true) /\
  aJ K (bH y.1 H0 H2 fun b=>B b\/b=acc) es1 ys,⟨w.ds.length,rfl,Cc _,Af _,aL.upd_new hacc,bL,[],y.2,y.1,rfl,e,fun h=>h,rfl⟩,?_⟩
 rintro i m ys H2 ⟨hm,hi,hys,s2,ha2,es1,esS,frS,hy,hS,hfr,hR⟩
 refine⟨ha2,?_⟩
 have sH2:=s1.trans s2
 have bnd2:∀ b,(B b\/b=acc)->∃ o,H2 b=some o/\stab o=false:=fun b z=>by
  rcases z with z | z
  · obtain⟨o,q,n⟩:=d.bnd b z
    exact⟨o,sH2 _ _ q,n⟩
  · exact⟨_,by rw[z];exact ha2,rfl⟩
 have cond:∀ b,(B b\/b=acc)->B b\/H1 b=none:=fun b z=>z.imp id fun z=>by rw[z];exact hacc
 have cond0:∀ b,(B b\/b=acc)->B b\/H b=none:=fun b z=>z.imp id fun z=>by rw[z];exact hacc0
 have wk:=hwk H2 (fun b=>B b\/b=acc) (fun a o _ q=>s2 _ _ q) (fun b o q _=>s2 _ _ q) cond (fun b z=>let ⟨o,q,_⟩:=bnd2 b z;⟨o,q⟩) (d.sam.trans sH2) i
 by_cases hlt:i<w.ds.length
 · refine .inr ?_
   have hd:w.ds[i]?=some w.ds[i]:=Aj hlt;obtain⟨go,yl⟩:=wk.2 _ hd;refine⟨go,Cy hys (Av hlt hz),fun x H3 y3=>?_⟩
   obtain⟨s3,rx⟩:=yl x H3 y3;rw[List.drop_eq_getElem_cons hlt]at hS;simp only[lQ]at hS
   have den3:DenE K H0 H3 (fun b=>B b\/b=acc) (gN k fs σ) (eF k fs ρ) :=
    (d.to (sH2.trans s3) (fun b z=>.inl z) cond0 fun b z=>let ⟨o,q,n⟩:=bnd2 b z;⟨o,s3 _ _ q,n⟩).comp k fs
   cases e1:tg.bind w.fr w.ds[i] (eF k fs ρ) with
   | stk=>simp[e1]at hS
   | exc x=>simp[e1]at hS
   | ok ρ1 =>
    simp only[e1,R.ok_bind]at hS;refine aAs (G:=bH w.fr H0 H3 fun b=>B b\/b=acc) (fr:=w.fr) (I:=fun σ' ρ'=>DenE K H0 H3 (fun b=>B b\/b=acc) σ' ρ') fG (fun σ' ρ' i d' v' D r=>D.set r) tg _ x _ _ ρ1 _ e1 rx den3 fun σ4 den4=>?_
    refine⟨H0,_,ρ1,den4,?_⟩
    cases e2:fb ρ1 with
    | stk=>simp[e2]at hS
    | exc x=>simp[e2]at hS
    | ok o =>
     cases o with
     | none =>
      simp only[e2]at hS;intro H5 s5;refine⟨w.ds.length-(i+1),by omega,rfl,hlt,by omega,(s2.trans s3).trans s5,s5 _ _ (s3 _ _ ha2),es1,esS,frS,hy,hS,hfr,aJ.same (bA (fun b o q _=>s5 _ _ (s3 _ _ q)) fun b z=>.inl z) hR⟩
     | some r =>
      simp only[e2]at hS;cases e3:r.give with
      | stk=>simp[e3]at hS
      | exc x=>simp[e3]at hS
      | ok r' =>
       simp only[e3,R.ok_bind]at hS;cases e4:lQ tg fb w.fr (eF k fs ρ) (w.ds.drop (i+1)) with
       | stk=>simp[e4]at hS
       | exc x=>simp[e4]at hS
       | ok z =>
        simp only[e4,R.ok_bind]at hS;cases hS;intro v H5 s5 g5;obtain⟨q1,q2⟩:=g5.give den4 e3;subst q1;refine⟨s5 _ _ (s3 _ _ ha2),w.ds.length-(i+1),by omega,rfl,hlt,by simp;omega,?_,bL,es1++[r.d],z.2,z.1,by rw[hy];simp,e4,fun h=>?_,?_⟩
        · intro b o q
          rw[aR (bO q hacc)];exact s5 _ _ (s3 _ _ (s2 _ _ q))
        · have:=hfr h
          simp at this
          exact this.2
        · have m:∀ fr,aL (bH fr H0 H5 fun b=>B b\/b=acc) (bH fr H0 (upd H5 acc (.lst (ys++[v]))) fun b=>B b\/b=acc):=fun fr=>bA (fun b o q n=>by rw[aR (fun z=>n (.inr z))];exact q) fun b z=>.inl z
          have m2:aL (bH y.1 H0 H2 fun b=>B b\/b=acc) (bH y.1 H0 H5 fun b=>B b\/b=acc):=bA (fun b o q _=>s5 _ _ (s3 _ _ q)) fun b z=>.inl z;refine aJ.append (aJ.same (m _) (aJ.same m2 hR)) (aJ.one (Rep.same (m _) ?_))
          cases hy1:y.1 with
          | false=>exact Rep.same lY q2
          | true =>
           have:=hfr hy1
           simp at this
           rw[this.1]at q2;exact q2
 · have hi':i=w.ds.length:=by omega
   refine .inl ⟨wk.1 (by omega),hq H2 sH2 ⟨acc,_,rfl,hacc0,ha2,.lst ?_⟩⟩
   rw[Ej (by omega)]at hS
   simp only[lQ]at hS;cases hS;rw[hy,Bt];exact hR
variable {scope:Scope}{N:List Str}{k:Nat}{cs:List Nat}{tg iter elt:Expr}{ifs:List Expr}{t:Tg}{it:FI}{fb:FB}
theorem aJy (σ:St)(H:Hp)(Q:VK)(h:tE X.K P (bR it k cs t fb) σ H Q):aQi (tI X.K P it) k cs (gOf X.K t) (tBm X.K XP0 fb) σ H Q:=by
 obtain⟨H0,B,ρ,d,h⟩:=h;unfold bR at h;refine⟨H0,B,ρ,d,?_⟩
 cases e:it ρ with
 | stk=>simp[e]at h
 | exc x=>simp[e]at h;exact h
 | ok w =>
  simp only[e,R.ok_bind]at h;intro J H1 s1 hw acc hacc;cases e2:lQ t fb w.fr (eF k cs ρ) w.ds with
  | stk=>simp[e2]at h
  | exc x=>exact(rM e2).elim
  | ok y =>
   simp only[e2,R.ok_bind]at h;by_cases hz:w.ds.length<=sizeLine
   · rw[if_pos hz]at h
     exact aDa d s1 hw e2 hz hacc fun H2 s2 g2=>h _ H2 s2 g2
   · rw[if_neg hz]at h;exact h.elim
theorem lF (hc:X.calm=true)(C:CompOk X scope N k cs)(hi:PI X tg iter (tI X.K P it))(hg:∀ fp s H,PG (dI X scope N fp s H) tg (gOf X.K t))(gl:xN k (gOf X.K t))(hb:∀ fp s H,PB (dI X scope N fp s H) ifs elt (tBm X.K XP0 fb))
 (hs:∀ x,foldedSetIterable iter X.env x=pure x:=by intro _;rfl):PE X (.ListComp elt [⟨tg,iter,ifs,0⟩] scope pos) (tE X.K P (bR it k cs t fb)) :=
 PE.imp (aGm hc C hi hg gl hb hs) aJy
end Mir
namespace Mir
open PySem L2
variable {X:Cx}{P:XP}{a b c e:Expr}{es:List Expr}{f g:FE}{fs:FEs}{pos:Pos}
def iF (σ:St)(ρ:Env)(i:Nat)(a:Addr):Prop:=σ[i]?=some (some (.ref a))/\∃ e,ρ[i]?=some (some e)/\e.k=.own
def qI (σ:St)(ρ:Env)(a:Addr):Prop:=∃ i,iF σ ρ i a
abbrev Bs (T:Addr->Prop)(σ:St)(ρ:Env):Addr->Prop:=fun a=>qI σ ρ a\/T a
structure DenS (K:PySem.W.Frag)(H0 H:Hp)(T:Addr->Prop)(σ:St)(ρ:Env):Prop where
 e:DenE K H0 H (Bs T σ ρ) σ ρ
 sep:∀ a,qI σ ρ a->¬ T a
 dis:∀ i j a,iF σ ρ i a->iF σ ρ j a->i=j
structure Ext (H:Hp)(σ:St)(ρ:Env)(H':Hp)(σ':St)(ρ':Env):Prop where
 kp:∀ b o,H b=some o->¬ qI σ ρ b->H' b=some o
 ow:∀ b,qI σ' ρ' b->qI σ ρ b\/H b=none
section
variable {K:PySem.W.Frag}{H0 H H' H'':Hp}{T:Addr->Prop}{σ σ' σ'':St}{ρ ρ' ρ'':Env}
theorem Ext.refl:Ext H σ ρ H σ ρ:=⟨fun _ _ h _=>h,fun _ h=>.inl h⟩
theorem Ext.trans (x:Ext H σ ρ H' σ' ρ')(y:Ext H' σ' ρ' H'' σ'' ρ''):Ext H σ ρ H'' σ'' ρ'':=by
 refine⟨fun b o h n=>y.kp b o (x.kp b o h n) fun z=>?_,fun b z=>?_⟩
 · rcases x.ow b z with q | q
   · exact n q
   · rw[h]at q;cases q
 · rcases y.ow b z with q | q
   · exact x.ow b q
   · cases e:H b with
     | none=>exact .inr rfl
     | some o =>
      by_cases hb:qI σ ρ b
      · exact .inl hb
      · rw[x.kp b o e hb]at q;cases q
theorem Ext.same (s:aL H H'):Ext H σ ρ H' σ ρ:=⟨fun b o h _=>s b o h,fun _ h=>.inl h⟩
theorem DenS.mono (d:DenS K H0 H T σ ρ)(s:aL H H'):DenS K H0 H' T σ ρ:=⟨d.e.mono s,d.sep,d.dis⟩
theorem iM {i j:Nat}{v:V}{r:Res}{a:Addr}(h:iF (σ.set i (some v)) (ρ.set i (some r)) j a):(j=i/\v=.ref a/\r.k=.own)\/(j≠i/\iF σ ρ j a):=by
 obtain⟨h1,e,h2,h3⟩:=h;by_cases hj:i=j
 · subst hj
   by_cases hi:i<σ.length
   · rw[Bc hi]at h1
     cases h1;by_cases hr:i<ρ.length
     · rw[Bc hr]at h2;cases h2
       exact .inl ⟨rfl,rfl,h3⟩
     · rw[Bx (by rw[Ci];omega)]at h2;cases h2
   · rw[Bx (by rw[Ci];omega)]at h1;cases h1
 · rw[Ax hj]at h1 h2
   exact .inr ⟨fun z=>hj z.symm,h1,e,h2,h3⟩
theorem uX {i j:Nat}{v:V}{r:Res}{a:Addr}(h:iF σ ρ j a)(hj:j≠i):iF (σ.set i (some v)) (ρ.set i (some r)) j a:=by
 obtain⟨h1,e,h2,h3⟩:=h;exact⟨by rw[Ax (Ne.symm hj)];exact h1,e,by rw[Ax (Ne.symm hj)];exact h2,h3⟩
theorem DenS.set_shr {i:Nat}{v:V}{fr:Bool}{dd:D}(d:DenS K H0 H T σ ρ)(r:Rep K (bH fr H0 H (Bs T σ ρ)) dd v):DenS K H0 H T (σ.set i (some v)) (ρ.set i (some ⟨.shr,fr,dd⟩))/\∀ a,qI (σ.set i (some v)) (ρ.set i (some ⟨.shr,fr,dd⟩)) a->qI σ ρ a:=by
 have sub:∀ a,qI (σ.set i (some v)) (ρ.set i (some ⟨.shr,fr,dd⟩)) a->qI σ ρ a:=fun a ⟨j,h⟩=>by
  rcases iM h with ⟨_,_,h⟩ | ⟨_,h⟩
  · cases h
  · exact⟨j,h⟩
 have subB:∀ a,Bs T (σ.set i (some v)) (ρ.set i (some ⟨.shr,fr,dd⟩)) a->Bs T σ ρ a:=fun a z=>z.imp (sub a) id;refine⟨⟨⟨by rw[Ci,Ci];exact d.e.len,d.e.sam,fun b z=>d.e.bnd b (subB b z),fun j e he=>?_⟩,fun a z=>d.sep a (sub a z),fun j k a h1 h2=>?_⟩,sub⟩
 · by_cases hj:i=j
   · subst hj
     by_cases hi:i<ρ.length
     · rw[Bc hi]at he
       cases he;exact⟨v,Bc (by rw[←d.e.len];exact hi),Rep.same (bA (fun _ _ q _=>q) fun b z=>.inl (subB b z)) r⟩
     · rw[Bx (by rw[Ci];omega)]at he;cases he
   · rw[Ax hj]at he
     obtain⟨w,q1,q2⟩:=d.e.ent j e he;refine⟨w,by rw[Ax hj];exact q1,q2.to d.e.sam (fun _ _ q _=>q) (fun b o q _ k1 k2=>⟨q,.inl ⟨j,uX ⟨by rw[q1,k2],e,he,k1⟩ (fun z=>hj z.symm)⟩⟩) fun b z=>.inl (subB b z)⟩
 · rcases iM h1 with ⟨_,_,h⟩ | ⟨_,h1⟩
   · cases h
   · rcases iM h2 with ⟨_,_,h⟩ | ⟨_,h2⟩
     · cases h
     · exact d.dis j k a h1 h2
theorem DenS.set_con {i:Nat}{a:Addr}{o:HO}{dd:D}{fr:Bool}(d:DenS K H0 H T σ ρ)(s:aL H H')(ha:H a=none)(ha':H' a=some o)(r:mC K (bH fr H0 H' fun b=>Bs T σ ρ b\/b=a) dd o) :
 DenS K H0 H' T (σ.set i (some (.ref a))) (ρ.set i (some ⟨.own,fr,dd⟩))/\Ext H σ ρ H' (σ.set i (some (.ref a))) (ρ.set i (some ⟨.own,fr,dd⟩)):=by
 have sub:∀ b,qI (σ.set i (some (.ref a))) (ρ.set i (some ⟨.own,fr,dd⟩)) b->qI σ ρ b\/b=a:=fun b ⟨j,h⟩=>by
  rcases iM h with ⟨_,h,_⟩ | ⟨_,h⟩
  · cases h;exact .inr rfl
  · exact .inl ⟨j,h⟩
 have subB:∀ b,Bs T (σ.set i (some (.ref a))) (ρ.set i (some ⟨.own,fr,dd⟩)) b->Bs T σ ρ b\/b=a:=fun b z=>by
  rcases z with z | z
  · exact(sub b z).imp .inl id
  · exact .inl (.inr z)
 have subH:∀ b,Bs T (σ.set i (some (.ref a))) (ρ.set i (some ⟨.own,fr,dd⟩)) b->Bs T σ ρ b\/H b=none:=fun b z=>(subB b z).imp id fun z=>by rw[z];exact ha
 have nB:∀ b,Bs T σ ρ b->b≠a:=fun b z q=>by obtain⟨o,w,_⟩:=d.e.bnd b z;rw[q,ha]at w;cases w
 refine⟨⟨⟨by rw[Ci,Ci];exact d.e.len,d.e.sam.trans s,fun b z=>?_,fun j e he=>?_⟩,fun b z=>?_,fun j k b h1 h2=>?_⟩,fun b o h _=>s b o h,fun b z=>(sub b z).imp id fun z=>by rw[z];exact ha⟩
 · rcases subB b z with z | z
   · obtain⟨o,w,n⟩:=d.e.bnd b z;exact⟨o,s _ _ w,n⟩
   · exact⟨_,by rw[z];exact ha',r.stab⟩
 · by_cases hj:i=j
   · subst hj
     by_cases hi:i<ρ.length
     · rw[Bc hi]at he
       cases he;have hσ:(σ.set i (some (V.ref a)))[i]?=some (some (V.ref a)):=Bc (by rw[←d.e.len];exact hi)
       refine⟨.ref a,hσ,a,o,rfl,.inl ⟨i,hσ,_,Bc hi,rfl⟩,d.e.sam.none ha,ha',r.same (bA (fun _ _ q _=>q) fun b z=>.inl (subB b z))⟩
     · rw[Bx (by rw[Ci];omega)]at he;cases he
   · rw[Ax hj]at he
     obtain⟨w,q1,q2⟩:=d.e.ent j e he;refine⟨w,by rw[Ax hj];exact q1,q2.to d.e.sam (fun _ _ q _=>s _ _ q) (fun b o q _ k1 k2=>⟨s _ _ q,.inl ⟨j,uX ⟨by rw[q1,k2],e,he,k1⟩ (fun z=>hj z.symm)⟩⟩) subH⟩
 · rcases sub b z with z | z
   · exact d.sep b z
   · intro q;exact nB b (.inr q) z
 · rcases iM h1 with ⟨e1,h,_⟩ | ⟨_,h1⟩
   · cases h
     rcases iM h2 with ⟨e2,_,_⟩ | ⟨_,h2⟩
     · rw[e1,e2]
     · exact absurd rfl (nB _ (.inl ⟨k,h2⟩))
   · rcases iM h2 with ⟨_,h,_⟩ | ⟨_,h2⟩
     · cases h;exact absurd rfl (nB _ (.inl ⟨j,h1⟩))
     · exact d.dis j k b h1 h2
theorem DenS.writeO {i:Nat}{a:Addr}{e:Res}{o':HO}{dd:D}{fr:Bool}(d:DenS K H0 H T σ ρ)(hσ:σ[i]?=some (some (.ref a)))(he:ρ[i]?=some (some e))(hk:e.k=.own)(h0:H0 a=none)(r:mC K (bH fr H0 H (Bs T σ ρ)) dd o') :
 DenS K H0 (upd H a o') T σ (ρ.set i (some ⟨.own,fr,dd⟩))/\Ext H σ ρ (upd H a o') σ (ρ.set i (some ⟨.own,fr,dd⟩)):=by
 have oi:iF σ ρ i a:=⟨hσ,e,he,hk⟩
 have hi:i<ρ.length:=by
  obtain⟨h,_⟩:=Au.mp he;exact h
 have fwd:∀ j b,iF σ (ρ.set i (some ⟨.own,fr,dd⟩)) j b->iF σ ρ j b:=fun j b ⟨h1,e',h2,h3⟩=>by
  by_cases hj:i=j
  · subst hj;exact⟨h1,e,he,hk⟩
  · rw[Ax hj]at h2;exact⟨h1,e',h2,h3⟩
 have bwd:∀ j b,iF σ ρ j b->iF σ (ρ.set i (some ⟨.own,fr,dd⟩)) j b:=fun j b ⟨h1,e',h2,h3⟩=>by
  by_cases hj:i=j
  · subst hj;exact⟨h1,_,Bc hi,rfl⟩
  · exact⟨h1,e',by rw[Ax hj];exact h2,h3⟩
 have subB:∀ b,Bs T σ (ρ.set i (some ⟨.own,fr,dd⟩)) b->Bs T σ ρ b:=fun b z=>z.imp (fun⟨j,h⟩=>⟨j,fwd j b h⟩) id;have Ba:Bs T σ ρ a:=.inl ⟨i,oi⟩;have kp:∀ b o,H b=some o->¬ Bs T σ ρ b->upd H a o' b=some o:=fun b o q n=>by rw[aR (fun z=>n (by rw[z];exact Ba))];exact q
 refine⟨⟨⟨by rw[Ci];exact d.e.len,fun b o q=>?_,fun b z=>?_,fun j e' he'=>?_⟩,fun b z=>d.sep b (let ⟨j,h⟩:=z;⟨j,fwd j b h⟩),fun j k b h1 h2=>d.dis j k b (fwd j b h1) (fwd k b h2)⟩,fun b o q n=>?_,fun b z=>.inl (let ⟨j,h⟩:=z;⟨j,fwd j b h⟩)⟩
 · rw[aR (bO q h0)];exact d.e.sam b o q
 · by_cases hb:b=a
   · subst hb;exact⟨_,bL,r.stab⟩
   · obtain⟨o,w,n⟩:=d.e.bnd b (subB b z);exact⟨o,by rw[aR hb];exact w,n⟩
 · by_cases hj:i=j
   · subst hj
     rw[Bc hi]at he';cases he';exact⟨.ref a,hσ,a,o',rfl,.inl ⟨i,bwd i a oi⟩,h0,bL,r.same (bA kp fun b z=>.inl (subB b z))⟩
   · rw[Ax hj]at he'
     obtain⟨w,q1,q2⟩:=d.e.ent j e' he';refine⟨w,q1,q2.to d.e.sam kp (fun b o q _ k1 k2=>?_) fun b z=>.inl (subB b z)⟩
     have oj:iF σ ρ j b:=⟨by rw[q1,k2],e',he',k1⟩
     refine⟨?_,.inl ⟨j,bwd j b oj⟩⟩
     rw[aR (fun z=>hj (d.dis i j a oi (by rw[z]at oj;exact oj)))]
     exact q
 · rw[aR (fun z=>n (by rw[z];exact⟨i,oi⟩))];exact q
theorem DenS.write {i:Nat}{a:Addr}{e:Res}{vs:List V}{ds:List D}{fr:Bool}(d:DenS K H0 H T σ ρ)(hσ:σ[i]?=some (some (.ref a)))(he:ρ[i]?=some (some e))(hk:e.k=.own)(h0:H0 a=none)(r:aJ K (bH fr H0 H (Bs T σ ρ)) ds vs) :
 DenS K H0 (upd H a (.lst vs)) T σ (ρ.set i (some ⟨.own,fr,.lst ds⟩))/\Ext H σ ρ (upd H a (.lst vs)) σ (ρ.set i (some ⟨.own,fr,.lst ds⟩)):=d.writeO hσ he hk h0 (.lst r)
theorem uK {i:Nat}{y:Bool×List D}(h:lW i ρ=.ok y):ρ[i]?=some (some ⟨.own,y.1,.lst y.2⟩):=by
 unfold lW at h;split at h
 · rename_i e;cases h;exact e
 · cases h
theorem DenS.own {i:Nat}{fr:Bool}{ds:List D}(d:DenS K H0 H T σ ρ)(he:ρ[i]?=some (some ⟨.own,fr,.lst ds⟩)):∃ a vs,σ[i]?=some (some (.ref a))/\H0 a=none/\H a=some (.lst vs)/\aJ K (bH fr H0 H (Bs T σ ρ)) ds vs:=by
 obtain⟨v,q1,a,o,h1,h2,h3,h4,vs,h5,h6⟩:=d.e.ent i _ he;subst h1;subst h5;exact⟨a,vs,q1,h3,h4,h6⟩
theorem DenS.ownD {i:Nat}{fr:Bool}{ks:List (List Int)}{ds:List D}(d:DenS K H0 H T σ ρ)(he:ρ[i]?=some (some ⟨.own,fr,.dct ks ds⟩)):∃ a kvs,σ[i]?=some (some (.ref a))/\H0 a=none/\H a=some (.dT kvs)/\dF ks kvs/\aJ K (bH fr H0 H (Bs T σ ρ)) ds (kvs.map (·.2)):=by
 obtain⟨v,q1,a,o,h1,h2,h3,h4,kvs,h5,h6,h7⟩:=d.e.ent i _ he;subst h1;subst h5;exact⟨a,kvs,q1,h3,h4,h6,h7⟩
theorem DenS.freeze (d:DenS K H0 H T σ ρ)(i:Nat):DenS K H0 H T σ (frz i ρ)/\Ext H σ ρ H σ (frz i ρ):=by
 unfold frz;split
 · rename_i e he
   have hi:i<ρ.length:=by
    obtain⟨h,_⟩:=Au.mp he;exact h
   have fwd:∀ j b,iF σ (ρ.set i (some ⟨.shr,e.fr,e.d⟩)) j b->j≠i/\iF σ ρ j b:=fun j b ⟨h1,e',h2,h3⟩=>by
    by_cases hj:i=j
    · subst hj;rw[Bc hi]at h2;cases h2;cases h3
    · rw[Ax hj]at h2;exact⟨fun z=>hj z.symm,h1,e',h2,h3⟩
   have subB:∀ b,Bs T σ (ρ.set i (some ⟨.shr,e.fr,e.d⟩)) b->Bs T σ ρ b:=fun b z=>z.imp (fun⟨j,h⟩=>⟨j,(fwd j b h).2⟩) id;refine⟨⟨⟨by rw[Ci];exact d.e.len,d.e.sam,fun b z=>d.e.bnd b (subB b z),fun j e' he'=>?_⟩,fun b z=>d.sep b (let ⟨j,h⟩:=z;⟨j,(fwd j b h).2⟩),fun j k b h1 h2=>d.dis j k b (fwd j b h1).2 (fwd k b h2).2⟩,fun b o q _=>q,fun b z=>.inl (let ⟨j,h⟩:=z;⟨j,(fwd j b h).2⟩)⟩
   by_cases hj:i=j
   · subst hj
     rw[Bc hi]at he';cases he';obtain⟨w,q1,q2⟩:=d.e.ent i e he;refine⟨w,q1,?_⟩
     have m:aL (bH e.fr H0 H (Bs T σ ρ)) (bH e.fr H0 H (Bs T σ (ρ.set i (some ⟨.shr,e.fr,e.d⟩)))):=bA (fun _ _ q _=>q) fun b z=>.inl (subB b z);unfold rO at q2;cases k:e.k with
     | shr=>rw[k]at q2;exact Rep.same m q2
     | own =>
      rw[k]at q2;obtain⟨a,o,h1,h2,h3,h4,h5⟩:=q2;show Rep K (bH e.fr H0 H (Bs T σ (ρ.set i (some ⟨.shr,e.fr,e.d⟩)))) e.d w
      rw[h1];refine h5.rep m (bB.mpr ⟨fun z=>?_,h4⟩)
      rcases z with z | ⟨_,o,z,_⟩
      · rcases z with ⟨j,z⟩ | z
        · obtain⟨z1,z2⟩:=fwd j a z
          exact z1 (d.dis j i a z2 ⟨by rw[q1,h1],e,he,k⟩)
        · exact d.sep a ⟨i,by rw[q1,h1],e,he,k⟩ z
      · rw[h3]at z;cases z
     | tmp=>rw[k]at q2;exact q2.elim
     | old =>
      rw[k]at q2;refine Rep.same (fun b o q=>?_) q2.2
      obtain⟨n,q⟩:=bB.mp q;refine bB.mpr ⟨fun z=>?_,d.e.sam b o q⟩
      rcases z with z | ⟨z,_⟩
      · exact n (subB b z)
      · rw[q2.1]at z;cases z
   · rw[Ax hj]at he'
     obtain⟨w,q1,q2⟩:=d.e.ent j e' he';refine⟨w,q1,q2.to d.e.sam (fun _ _ q _=>q) (fun b o q _ k1 k2=>⟨q,.inl ⟨j,by rw[q1,k2],e',by rw[Ax hj];exact he',k1⟩⟩) fun b z=>.inl (subB b z)⟩
 · exact⟨d,Ext.refl⟩
end
end Mir
namespace Mir
open PySem L2
variable {X:Cx}{P:XP}{a b c e:Expr}{es:List Expr}{f g:FE}{fs:FEs}{pos:Pos}
def pR (K:PySem.W.Frag)(H0 H':Hp)(T:Addr->Prop)(v:V)(r:Res):Prop :=
 match r.k with
 | .shr=>Rep K (bH r.fr H0 H' T) r.d v
 | _=>∃ a o,v=.ref a/\H0 a=none/\H' a=some o/\mC K (bH r.fr H0 H' fun b=>T b\/b=a) r.d o
def nI (K:PySem.W.Frag)(P:XP)(D:Ends)(H0:Hp)(T:Addr->Prop)(H:Hp)(σ:St)(ρ:Env)(r:RS):Prop :=
 match r with
 | .nx ρ'=>∀ σ' H',DenS K H0 H' T σ' ρ'->Ext H σ ρ H' σ' ρ'->D.nx σ' H'
 | .bk ρ'=>∀ σ' H',DenS K H0 H' T σ' ρ'->Ext H σ ρ H' σ' ρ'->D.bk σ' H'
 | .ct ρ'=>∀ σ' H',DenS K H0 H' T σ' ρ'->Ext H σ ρ H' σ' ρ'->D.ct σ' H'
 | .rt r=>∀ v H',aL H0 H'->pR K H0 H' T v r->D.rt v H'
 | .exc x ρ'=>∀ σ' H',DenS K H0 H' T σ' ρ'->Ext H σ ρ H' σ' ρ'->P.p x σ' H'
 | .stk=>False
def tS (K:PySem.W.Frag)(P:XP)(F:FS):TS:=fun D σ H=>∃ H0 T ρ,DenS K H0 H T σ ρ/\nI K P D H0 T H σ ρ (F ρ)
theorem nI.trans {K:PySem.W.Frag}{D:Ends}{H0 H H1:Hp}{T:Addr->Prop}{σ σ1:St}{ρ ρ1:Env}{r:RS}(x:Ext H σ ρ H1 σ1 ρ1)(h:nI K P D H0 T H σ ρ r):nI K P D H0 T H1 σ1 ρ1 r:=by
 cases r with
 | nx ρ'=>exact fun σ' H' d y=>h σ' H' d (x.trans y)
 | bk ρ'=>exact fun σ' H' d y=>h σ' H' d (x.trans y)
 | ct ρ'=>exact fun σ' H' d y=>h σ' H' d (x.trans y)
 | rt r=>exact h
 | exc z ρ'=>exact fun σ' H' d y=>h σ' H' d (x.trans y)
 | stk=>exact h
theorem PS.imp {st:Stmt}{t t':TS}(p:PS X st t)(h:∀ D σ H,t' D σ H->t D σ H):PS X st t':=fun pins s σ H D I q=>p pins s σ H D I (h D σ H q)
theorem PSs.imp {st:List Stmt}{t t':TS}(p:PSs X st t)(h:∀ D σ H,t' D σ H->t D σ H):PSs X st t':=fun pins s σ H D I q=>p pins s σ H D I (h D σ H q)
variable {st:Stmt}{rest:List Stmt}{F G:FS}
theorem fF:PSs X [] (tS X.K P eC):=PSs.imp aP9 fun D σ H ⟨H0,T,ρ,d,h⟩=>h σ H d Ext.refl
theorem aUu {K:PySem.W.Frag}(D:Ends)(σ:St)(H:Hp)(h:tS K P (aP F G) D σ H):aUi (tS K P F) (tS K P G) D σ H:=by
 obtain⟨H0,T,ρ,d,h⟩:=h;refine⟨H0,T,ρ,d,?_⟩
 unfold aP at h;cases e:F ρ with
 | nx ρ1 =>
  rw[e]at h;exact fun σ1 H1 d1 x1=>⟨H0,T,ρ1,d1,h.trans x1⟩
 | bk ρ'=>rw[e]at h;exact h
 | ct ρ'=>rw[e]at h;exact h
 | rt r=>rw[e]at h;exact h
 | exc z ρ'=>rw[e]at h;exact h
 | stk=>rw[e]at h;exact h
theorem aH (h1:PS X st (tS X.K P F))(h2:PSs X rest (tS X.K P G)):PSs X (st :: rest) (tS X.K P (aP F G)):=PSs.imp (aK8 h1 h2) aUu
theorem aQ (h1:PS X st (tS X.K P F)):PSs X [st] (tS X.K P F):=aN2 h1
theorem aPt {K:PySem.W.Frag}{k:Res->Env->RS}{D:Ends}{σ:St}{H:Hp}{q:VK}(hX:X.K=K)(h:tS K P (fun ρ=>(f ρ).at ρ fun r=>k r ρ) D σ H)
 (hk:∀ H0 T ρ v H' r,DenS K H0 H T σ ρ->DenS K H0 H' T σ ρ->aL H H'->aW K H0 H H' (Bs T σ ρ) v r->nI K P D H0 T H σ ρ (k r ρ)->q v H'):tE K P f σ H q:=by
 subst hX;obtain⟨H0,T,ρ,d,h⟩:=h;cases e:f ρ with
 | stk=>simp only[e,R.at]at h;exact h.elim
 | exc x=>simp only[e,R.at]at h;exact dP d.e e (h σ H d Ext.refl)
 | ok r =>
  simp only[e,R.at]at h;exact fD d.e e fun v H' s d' g'=>hk H0 T ρ v H' r d (d.mono s) s g' h
theorem vK (he:PE X e (tE X.K P f))(hs:swapsWith e none pos.line X.env=pure false:=by rfl):PS X (.Expr e pos) (tS X.K P (jK f)):=by
 refine PS.imp (uH he hs) ?_
 intro D σ H h;exact aPt (q:=fun _ H1=>D.nx σ H1) rfl h fun H0 T ρ v H' r d d' s g h=>h σ H' d' (Ext.same s)
theorem aSg {K:PySem.W.Frag}{H0 H H':Hp}{T:Addr->Prop}{σ:St}{ρ:Env}{v:V}{r:Res}(d:DenS K H0 H T σ ρ)(g:aW K H0 H H' (Bs T σ ρ) v r):pR K H0 H' T v ⟨if r.k=.shr then .shr else .tmp,r.fr,r.d⟩:=by
 unfold aW at g;unfold pR;cases k:r.k with
 | shr=>rw[k]at g;exact Rep.same (bA (fun _ _ q _=>q) fun b z=>.inl (.inr z)) g
 | own =>
  rw[k]at g;obtain⟨a,o,h1,h2,h3,h4,h5⟩:=g;exact⟨a,o,h1,h3,h4,h5.same (bA (fun _ _ q _=>q) fun b z=>.inl (z.elim .inr fun z=>by rw[z];exact h2))⟩
 | tmp =>
  rw[k]at g;obtain⟨a,o,h1,h2,h3,h4⟩:=g;exact⟨a,o,h1,d.e.sam.none h2,h3,h4.same (bA (fun _ _ q _=>q) fun b z=>.inl (z.imp .inr id))⟩
 | old=>rw[k]at g;exact g.elim
theorem cU (he:PE X e (tE X.K P f)):PS X (.Return (some e) pos) (tS X.K P (bM f)):=by
 refine PS.imp (aSs he) ?_
 intro D σ H h;exact aPt (q:=D.rt) (k:=fun r ρ=>.rt ⟨if r.k=.shr then .shr else .tmp,r.fr,r.d⟩) rfl h fun H0 T ρ v H' r d d' s g h=>h v H' d'.e.sam (aSg d g)
theorem aCe {K:PySem.W.Frag}{D:Ends}{H0 H H':Hp}{T:Addr->Prop}{σ:St}{ρ:Env}{v:V}{r:Res}{i:Nat}(d:DenS K H0 H T σ ρ)(s:aL H H')(g:aW K H0 H H' (Bs T σ ρ) v r)(h:nI K P D H0 T H σ ρ ((r.keep).at ρ fun e=>.nx (ρ.set i (some e)))) :
 D.nx (σ.set i (some v)) H':=by
 unfold Res.keep at h;unfold aW at g;cases k:r.k with
 | shr =>
  rw[k]at g h;have d':=(d.mono s).set_shr (i:=i) g;refine h _ H' ?_ ⟨fun b o q _=>s b o q,fun b z=>.inl ?_⟩
  · have e:r=⟨.shr,r.fr,r.d⟩:=by rw[←k]
    rw[e];exact d'.1
  · have e:r=⟨.shr,r.fr,r.d⟩:=by rw[←k]
    rw[e]at z;exact d'.2 b z
 | own=>rw[k]at h;exact h.elim
 | old=>rw[k]at h;exact h.elim
 | tmp =>
  rw[k]at g h;obtain⟨a,o,h1,h2,h3,h4⟩:=g;subst h1;have d':=d.set_con (i:=i) s h2 h3 h4;simp only[R.at]at h;exact h _ H' d'.1 d'.2
theorem bW {i:Nat}{x:Str}{pos':Pos}(hN:X.N.Nodup)(hi:X.N[i]?=some x)(hx:Loc X.env.scope x)(he:PE X e (tE X.K P f))(hs:swapsWith e (some (.Name x pos')) pos.line X.env=pure false:=by rfl)(hf:X.fn x=true\/X.env.scope.names.lookup x=some .local:=by first | exact .inl rfl | exact .inr rfl | assumption) :
 PS X (.Assign [.Name x pos'] e pos) (tS X.K P (aO i f)):=by
 refine PS.imp (aSy hN hi hx he hs hf) ?_
 intro D σ H h;exact aPt (q:=fun v H1=>D.nx (σ.set i (some v)) H1) (k:=fun r ρ=>(r.keep).at ρ fun e=>.nx (ρ.set i (some e))) rfl h fun H0 T ρ v H' r d d' s g h=>aCe d s g h
theorem aD0 {scope:Scope}{N:List Str}{k:Nat}{cs:List Nat}{tg iter elt:Expr}{ifs:List Expr}{t:Tg}{it:FI}{fb:FB}{i:Nat}{y:Str}{py spos:Pos}(hc:X.calm=true)(hN:X.N.Nodup)(hi':X.N[i]?=some y)(hy:X.env.scope.names.lookup y=some .local)
 (C:CompOk X scope N k cs) (hi:PI X tg iter (tI X.K P it)) (hg:∀ fp s H,PG (dI X scope N fp s H) tg (gOf X.K t)) (gl:xN k (gOf X.K t)) (hb:∀ fp s H,PB (dI X scope N fp s H) ifs elt (tBm X.K XP0 fb))
 (hsw:swapsWith (.ListComp elt [⟨tg,iter,ifs,0⟩] scope pos) (some (.Name y py)) spos.line X.env=pure true:=by rfl) (hs:∀ x,foldedSetIterable iter X.env x=pure x:=by intro _;rfl) :
 PS X (.Assign [.Name y py] (.ListComp elt [⟨tg,iter,ifs,0⟩] scope pos) spos) (tS X.K P (aO i (bR it k cs t fb))):=by
 refine PS.imp (aNr (i:=i) hc hN hi' hy C hi hg gl hb hsw hs) ?_
 intro D σ H h;have h':=aPt (f:=bR it k cs t fb) (q:=fun v H1=>D.nx (σ.set i (some v)) H1) (k:=fun r ρ=>(r.keep).at ρ fun e=>.nx (ρ.set i (some e))) rfl h fun H0 T ρ v H' r d d' s g h=>aCe d s g h;exact aJy σ H _ h'
theorem aW2 {t:FT}{D:Ends}{σ:St}{H:Hp}{F G:FS}(h:tS X.K P (ifS t F G) D σ H):tT X.K P t σ H fun b H1=>if b=true then tS X.K P F D σ H1 else tS X.K P G D σ H1:=by
 obtain⟨H0,T,ρ,d,h⟩:=h;unfold ifS at h;refine⟨H0,_,ρ,d.e,?_⟩
 cases e:t ρ with
 | stk=>simp only[e,R.at]at h;exact h.elim
 | exc x=>simp only[e,R.at]at h;exact h σ H d Ext.refl
 | ok k =>
  simp only[e,R.at]at h;intro H1 s1;cases k with
  | true=>exact aUl ⟨H0,T,ρ,d.mono s1,nI.trans (Ext.same s1) h⟩
  | false=>exact aU7 ⟨H0,T,ρ,d.mono s1,nI.trans (Ext.same s1) h⟩
theorem iG {t:FT}{sa sb:List Stmt}(hc:PT X c (tT X.K P t))(ha:PSs X sa (tS X.K P F))(hb:PSs X sb (tS X.K P G)):PS X (.If c sa sb pos) (tS X.K P (ifS t F G)):=by
 refine PS.imp (aUc hc ha hb) ?_
 intro D σ H h;exact aW2 h
theorem aL5 {i:Nat}(h:PS X st (tS X.K P F)):PS X st (tS X.K P (tQ i F)):=by
 refine PS.imp h ?_
 rintro D σ H ⟨H0,T,ρ,d,h⟩
 obtain⟨d',x⟩:=d.freeze i;exact⟨H0,T,frz i ρ,d',nI.trans x h⟩
theorem zG {i:Nat}{x:Str}{p ap cp:Pos}(hN:X.N[i]?=some x)(hv:Vis X.env.scope x)(he:PE X e (tE X.K P f))(hd:(x==("__debug__":Str))=false:=by decide)(hcd:(x==("__classdict__":Str))=false:=by decide)
 (h1:starEach [e] X.env=[(false,eval e X.env)]:=by rfl) (hbase:attributeBase (.Name x p) "append" X.env (eval (.Name x p) X.env)=eval (.Name x p) X.env:=by rfl)
 (hfew:((backTo cp (starEach [e] X.env)).all (fun x=>!x.1)&&(backToKw cp (keywordEach [] X.env)).all (fun x=>x.1.isSome)&&decide ([e].length+([]:List Keyword).length+(if ([]:List Keyword).isEmpty then 0 else 1)<30))=true:=by rfl)
 (hline:(ap.endLine==cp.line)=true:=by rfl)
 (hs:swapsWith (.Call (.Attribute (.Name x p) "append" ap) [e] [] cp) none pos.line X.env=pure false:=by rfl) :
 PS X (.Expr (.Call (.Attribute (.Name x p) "append" ap) [e] [] cp) pos) (tS X.K P (mY i f)):=by
 refine PS.imp (uH (aFz PySem.F.plainAttrs_list PySem.F.slot_list_append PySem.F.type_list_append sE (rW hN hv hd hcd) (kX he nZ h1) hbase hfew hline (hs:=h1)) hs) ?_
 rintro D σ H ⟨H0,T,ρ,d,h⟩
 unfold mY at h;cases e3:lW i ρ with
 | stk=>simp only[e3,R.at]at h;exact h.elim
 | exc z=>unfold lW at e3;split at e3<;>cases e3
 | ok y =>
  simp only[e3,R.at]at h;have ho:=uK e3;obtain⟨a,vs,q1,q2,q3,q4⟩:=d.own ho;refine⟨_,q1,.inl ⟨rfl,vs,SqL.of q3⟩,?_⟩
  cases e1:f ρ with
  | stk=>simp only[e1]at h;exact h.elim
  | exc z=>simp only[e1]at h;exact dP d.e e1 (h σ H d Ext.refl)
  | ok r =>
   simp only[e1]at h;refine fD d.e e1 fun v H' s d' g'=>?_
   cases e2:r.give with
   | stk=>simp only[e2]at h;exact h.elim
   | exc z=>unfold Res.give at e2;split at e2<;>cases e2
   | ok r' =>
    simp only[e2]at h;obtain⟨g1,g2⟩:=g'.give d.e e2;subst g1;by_cases hz:y.2.length<sizeLine
    · rw[if_pos hz]at h
      have dS:=d.mono s;have q4':aJ X.K (bH y.1 H0 H' (Bs T σ ρ)) y.2 vs:=aJ.same (bA (fun b o q _=>s b o q) fun b z=>.inl z) q4;refine⟨a,vs,v,rfl,rfl,s _ _ q3,by rw[←q4.length];exact hz,?_⟩
      obtain⟨w1,w2⟩:=dS.write (fr:=y.1&&r.fr) (ds:=y.2++[r.d]) (vs:=vs++[v]) q1 ho rfl q2 (q4'.andL.append (aJ.one g2).andR);exact h σ _ w1 ((Ext.same s).trans w2)
    · rw[if_neg hz]at h;exact h.elim
theorem fW {iter:Expr}{body:List Stmt}{tg:Expr}{t:Tg}{it:FI}(hp:PassesOwn (model X.prog X.w) X.A X.env X.xe)(hc:X.calm=true)(hi:PI X tg iter (tI X.K P it))(hg:PG X tg (gOf X.K t))(hb:PSs X body (tS X.K P F))
 (hs:∀ x,foldedSetIterable iter X.env x=pure x:=by intro _;rfl):PS X (.For tg iter body [] pos) (tS X.K P (cB it t F)):=by
 refine PS.imp (aQ4 hp hc hi hg hb hs) ?_
 rintro D σ H ⟨H0,T,ρ,d,h⟩
 unfold cB at h;refine⟨H0,_,ρ,d.e,?_⟩
 cases e:it ρ with
 | stk=>simp only[e,R.at]at h;exact h.elim
 | exc z=>simp only[e,R.at]at h;exact h σ H d Ext.refl
 | ok w =>
  simp only[e,R.at]at h;by_cases hst:w.st=true
  · rw[if_pos hst]at h
    intro J H1 s1 hw;obtain⟨A,hA,hwk⟩:=hw;refine⟨fun i m σ' H'=>m=w.ds.length-i/\i<=w.ds.length/\∃ ρi,DenS X.K H0 H' T σ' ρi/\Ext H1 σ ρ H' σ' ρi/\nI X.K P D H0 T H1 σ ρ (fN t F w.fr (w.ds.drop i) ρi),⟨w.ds.length,rfl,Cc _,ρ,d.mono s1,Ext.refl,nI.trans (Ext.same s1) h⟩,?_⟩
    rintro i m σ' H' ⟨hm,hi',ρi,di,xi,pi⟩
    have wk:=hwk H' (Bs T σ' ρi) (fun a o ha q=>xi.kp a o q fun z=>hA hst a ha (.inl z)) (fun b o q n=>xi.kp b o q fun z=>n (.inl z)) (fun b z=>?_) (fun b z=>let ⟨o,q,_⟩:=di.e.bnd b z;⟨o,q⟩) di.e.sam i
    · by_cases hlt:i<w.ds.length
      · refine .inr ?_
        have hd:w.ds[i]?=some w.ds[i]:=Aj hlt;obtain⟨go,yl⟩:=wk.2 _ hd;refine⟨go,fun σ'' H''=>w.ds.length-(i+1)=w.ds.length-(i+1)/\i+1<=w.ds.length/\∃ ρi,DenS X.K H0 H'' T σ'' ρi/\Ext H1 σ ρ H'' σ'' ρi/\nI X.K P D H0 T H1 σ ρ (fN t F w.fr (w.ds.drop (i+1)) ρi),fun σ'' H'' q=>⟨_,by omega,q⟩,fun x H3 y3=>?_⟩
        obtain⟨s3,rx⟩:=yl x H3 y3;rw[List.drop_eq_getElem_cons hlt]at pi;simp only[fN]at pi;cases e1:t.bind w.fr w.ds[i] ρi with
        | stk=>simp only[e1,R.at]at pi;exact pi.elim
        | exc z=>exact(aBh _ _ _ e1).elim
        | ok ρ1 =>
         simp only[e1,R.at]at pi;refine aAs (G:=bH w.fr H0 H3 (Bs T σ' ρi)) (fr:=w.fr) (I:=fun σ2 ρ2=>DenS X.K H0 H3 T σ2 ρ2/\∀ a,qI σ2 ρ2 a->qI σ' ρi a) fG (fun σ2 ρ2 j dd v ⟨D2,O2⟩ r=>?_) t _ x σ' ρi ρ1 _ e1 rx ⟨di.mono s3,fun a z=>z⟩ fun σ4 ⟨d4,o4⟩=>?_
         · have:=D2.set_shr (i:=j) (Rep.same (bA (fun _ _ q _=>q) fun b z=>.inl (z.imp (O2 b) id)) r)
           exact⟨this.1,fun a z=>O2 a (this.2 a z)⟩
         · have x4:Ext H1 σ ρ H3 σ4 ρ1:=xi.trans ⟨fun b o q _=>s3 b o q,fun b z=>.inl (o4 b z)⟩
           refine⟨H0,T,ρ1,d4,?_⟩
           cases e2:F ρ1 with
           | stk=>simp only[e2]at pi;exact pi
           | nx ρ2=>simp only[e2]at pi;exact fun σ5 H5 d5 x5=>⟨rfl,hlt,ρ2,d5,x4.trans x5,pi⟩
           | ct ρ2=>simp only[e2]at pi;exact fun σ5 H5 d5 x5=>⟨rfl,hlt,ρ2,d5,x4.trans x5,pi⟩
           | bk ρ2=>simp only[e2]at pi;exact fun σ5 H5 d5 x5=>pi σ5 H5 d5 (x4.trans x5)
           | rt r=>simp only[e2]at pi;exact pi
           | exc z ρ2=>simp only[e2]at pi;exact fun σ5 H5 d5 x5=>pi σ5 H5 d5 (x4.trans x5)
      · refine .inl ⟨wk.1 (by omega),?_⟩
        rw[Ej (by omega)]at pi
        exact pi σ' H' di xi
    · rcases z with z | z
      · exact(xi.ow b z).imp .inl id
      · exact .inl (.inr z)
  · rw[if_neg hst]at h;exact h.elim
end Mir
namespace Mir
open PySem L2
variable {X:Cx}{P:XP}{a b c e:Expr}{es:List Expr}{f g:FE}{fs:FEs}{pos:Pos}
def spM (K:PySem.W.Frag)(cl:XC->Addr)(φ:Φ):Sp:=fun vs H Q E=>∃ ds B,(∀ b,B b->∃ o,H b=some o/\stab o=false)/\aJ K (cut H B) ds vs/\match φ ds with
 | .ok r=>∀ v H',aL H H'->pR K H H' B v r->Q v H'
 | .exc x=>∀ H',aL H H'->E (.ref (cl x.c)) none H'
 | .stk=>False
def Thr (CX:CXT)(cl:XC->Addr)(X:Cx)(P:XP):Prop:=∀ (pins:List (Addr×Obj)) (σ:St) (H:Hp) (s:Shared) (e:Value) (s':Shared),Inv X pins σ H s->CX X.stack H s (fun c _ H'=>∃ x:Xc,c=.ref (cl x.c)/\P.p x σ H') e s'->X.xe e s'
theorem aPj {CX:CXT}{k:Nat}{fa:Addr}{fd:FuncData}{ps:List Str}{sp:Sp}{E:XK}{pins:List (Addr×Obj)}{σ:St}{H:Hp}{s:Shared}{Q:VK}{us:List Value}{vs:List V}(F:FnOk X.prog X.w X.K X.mg X.base CX k fa fd ps sp)(hr:Room k X.A)(hb:yY X.K fd ps [])
 (hx:∀ e s',CX X.stack H s E e s'->X.xe e s') (I:Inv X pins σ H s) (r:bU vs us) (h:sp vs H Q E):wpAny (model X.prog X.w) X.A (call (.ref fa) us) (EP X pins σ Q) X.xe s:=by
 have hl:us.length=ps.length:=by rw[←r.length];exact F.len _ _ _ _ h
 have hb':=hb s us I.kIn (by rw[Bt];exact hl)
 rw[Bt]at hb';refine wpAny_call (codeAny_mono (F.run X.A X.stack s H ⟨us,[]⟩ us vs Q E hr I.env0 hb' r h) fun r s' hq=>?_)
 cases r with
 | error e=>exact hx e s' hq
 | ok fl =>
  cases fl with
  | ret u=>exact I.after hq
  | next=>exact False.elim hq
  | brk=>exact False.elim hq
  | cont=>exact False.elim hq
theorem fH.plain {K:PySem.W.Frag}{H0 H H':Hp}{B:Addr->Prop}{σ:St}{ρ:Env}{Z:Addr->Prop}(den:DenE K H0 H B σ ρ):∀ {vs:List V} {rs:List Res},fH K H0 H H' B vs rs->(∀ b,Z b->B b/\V.ref b∉vs)->aJ K (cut H' Z) (rs.map (·.d)) vs
 | [],_,h,_=>by rw[show _=[] from h];rfl
 | v :: vs,_,⟨r,rr,e,g,gs⟩,hz=>by
  subst e;refine⟨v,vs,rfl,?_,fH.plain den gs fun b z=>⟨(hz b z).1,fun q=>(hz b z).2 (Ad _ q)⟩⟩
  have m:∀ fr,aL (bH fr H0 H' B) (cut H' Z):=fun fr=>fX (fun _ _ q _=>q) fun b z=>.inl (.inl (hz b z).1);unfold aW at g;cases k:r.k with
  | shr=>rw[k]at g;exact Rep.same (m _) g
  | own =>
   rw[k]at g;obtain⟨a,o,h1,h2,h3,h4,h5⟩:=g;subst h1;exact h5.rep (m _) (bB.mpr ⟨fun z=>(hz a z).2 Ab,h4⟩)
  | old=>rw[k]at g;exact g.elim
  | tmp =>
   rw[k]at g;obtain⟨a,o,h1,h2,h3,h4⟩:=g;subst h1;exact h4.rep (fX (fun _ _ q _=>q) fun b z=>.inl (.inl (.inl (hz b z).1))) (bB.mpr ⟨fun z=>(hz a z).2 Ab,h3⟩)
theorem aCd:∀ {rs:List Res} {y:Bool×List D},gives rs=.ok y->y.2=rs.map (·.d)
 | [],y,e=>by simp[gives]at e;subst e;rfl
 | r :: rs,y,e=>by
  simp only[gives]at e;cases e2:r.give with
  | stk=>simp[e2]at e
  | exc x=>simp[e2]at e
  | ok r' =>
   cases e3:gives rs with
   | stk=>simp[e2,e3]at e
   | exc x=>simp[e2,e3]at e
   | ok y' =>
    simp only[e2,e3,R.ok_bind]at e;cases e
    have:r'.d=r.d:=by
     unfold Res.give at e2;split at e2
     · cases e2
     · cases e2;rfl
    simp[aCd e3,this]
theorem aHl {cl:XC->Addr}{φ:Φ}{σ:St}{H:Hp}{Q:VK}(h:tE X.K P (aC φ fs) σ H Q):tAs X.K P fs σ H fun vs H1=>spM X.K cl φ vs H1 Q (fun c _ H'=>∃ x:Xc,c=.ref (cl x.c)/\P.p x σ H'):=by
 refine tA1 h ?_
 intro H0 B ρ vs H' rs d0 d gs s h;cases e:φ (rs.map (·.d)) with
 | stk=>simp[e]at h
 | exc x =>
  simp[e]at h
  refine⟨rs.map (·.d),fun _=>False,fun _ z=>z.elim,gs.plain d0 (fun _ z=>z.elim),?_⟩
  rw[e];exact fun H2 s2=>⟨x,rfl,P.mono h s2⟩
 | ok r =>
  simp only[e,R.ok_bind]at h;by_cases hf:r.fr=true
  · rw[if_pos hf]at h
    refine⟨rs.map (·.d),fun b=>B b/\V.ref b∉vs,fun b z=>d.bnd b z.1,gs.plain d0 (fun _ z=>z),?_⟩
    rw[e];intro v H2 s2 ro;refine h v H2 s2 ?_
    have ban:∀ b o,H2 b=some o->¬ Ban true H' (fun b=>B b/\V.ref b∉vs) b->¬ Ban true H0 B b:=fun b o q n z=>by
     rcases z with z | ⟨_,o',z1,z2⟩
     · obtain⟨o',z1,z2⟩:=d.bnd b z
       exact n (.inr ⟨rfl,o',z1,z2⟩)
     · exact n (.inr ⟨rfl,o',d.sam _ _ z1,z2⟩)
    unfold pR at ro;unfold aW;cases k:r.k with
    | shr =>
     rw[k]at ro;simp only[if_true];rw[hf]at ro;exact Rep.same (fun b o q=>let ⟨q1,q2⟩:=bB.mp q;bB.mpr ⟨ban b o q2 q1,q2⟩) ro
    | own =>
     rw[k]at ro;obtain⟨a,o',h1,h2,h3,h5⟩:=ro;rw[hf]at h5;refine⟨a,o',h1,s.none h2,h3,h5.same (fun b o q=>?_)⟩
     obtain⟨q1,q2⟩:=bB.mp q;refine bB.mpr ⟨fun z=>?_,q2⟩
     rcases z with (z | z) | z
     · exact ban b o q2 (fun w=>q1 (w.imp .inl id)) (.inl z)
     · exact q1 (.inl (.inr z))
     · exact ban b o q2 (fun w=>q1 (w.imp .inl id)) (.inr z)
    | old =>
     rw[k]at ro;obtain⟨a,o',h1,h2,h3,h5⟩:=ro;rw[hf]at h5;refine⟨a,o',h1,s.none h2,h3,h5.same (fun b o q=>?_)⟩
     obtain⟨q1,q2⟩:=bB.mp q;refine bB.mpr ⟨fun z=>?_,q2⟩
     rcases z with (z | z) | z
     · exact ban b o q2 (fun w=>q1 (w.imp .inl id)) (.inl z)
     · exact q1 (.inl (.inr z))
     · exact ban b o q2 (fun w=>q1 (w.imp .inl id)) (.inr z)
    | tmp =>
     rw[k]at ro;obtain⟨a,o',h1,h2,h3,h5⟩:=ro;rw[hf]at h5;refine⟨a,o',h1,s.none h2,h3,h5.same (fun b o q=>?_)⟩
     obtain⟨q1,q2⟩:=bB.mp q;refine bB.mpr ⟨fun z=>?_,q2⟩
     rcases z with (z | z) | z
     · exact ban b o q2 (fun w=>q1 (w.imp .inl id)) (.inl z)
     · exact q1 (.inl (.inr z))
     · exact ban b o q2 (fun w=>q1 (w.imp .inl id)) (.inr z)
  · rw[if_neg hf]at h
    have hf':r.fr=false:=by cases q:r.fr with | true=>exact absurd q hf | false=>rfl
    cases e2:gives rs with
    | stk=>simp[e2]at h
    | exc x=>exact(oZ e2).elim
    | ok y =>
     simp only[e2,R.ok_bind]at h;have re:=gs.gives d0 e2;rw[aCd e2]at re;refine⟨rs.map (·.d),Ban y.1 H0 B,fun b z=>?_,re,?_⟩
     · rcases z with z | ⟨_,o,z1,z2⟩
       · exact d.bnd b z
       · exact⟨o,d.sam _ _ z1,z2⟩
     · rw[e]
       intro v H2 s2 ro;refine h v H2 s2 ?_
       unfold pR at ro;unfold aW;cases k:r.k with
       | shr =>
        rw[k,hf']at ro;simp only[if_true];exact Rep.same (fX (fun _ _ q _=>q) fun b z=>.inl (.inl z)) ro
       | own =>
        rw[k,hf']at ro;obtain⟨a,o',h1,h2,h3,h5⟩:=ro;refine⟨a,o',h1,s.none h2,h3,h5.same (fX (fun _ _ q _=>q) fun b z=>.inl (.inl ?_))⟩
        rcases z with (z | z) | z
        · exact .inl (.inl z)
        · exact .inr z
        · exact .inl (.inr z)
       | old =>
        rw[k,hf']at ro;obtain⟨a,o',h1,h2,h3,h5⟩:=ro;refine⟨a,o',h1,s.none h2,h3,h5.same (fX (fun _ _ q _=>q) fun b z=>.inl (.inl ?_))⟩
        rcases z with (z | z) | z
        · exact .inl (.inl z)
        · exact .inr z
        · exact .inl (.inr z)
       | tmp =>
        rw[k,hf']at ro;obtain⟨a,o',h1,h2,h3,h5⟩:=ro;refine⟨a,o',h1,s.none h2,h3,h5.same (fX (fun _ _ q _=>q) fun b z=>.inl (.inl ?_))⟩
        rcases z with (z | z) | z
        · exact .inl (.inl z)
        · exact .inr z
        · exact .inl (.inr z)
variable {x:Str}{p:Pos}{ps:List Str}{k:Nat}{CX:CXT}{cl:XC->Addr}{φ:Φ}
theorem aS (cc:aG X.prog X.w X.K X.mg X.base CX k x ps (spM X.K cl φ))(hr:Room k X.A)(hg:Gl X x)(ht:Thr CX cl X P)(ha:PA X (e :: es) (tAs X.K P fs))
 (hdb:(x==("__debug__":Str))=false:=by decide) (he:starEach (e :: es) X.env=(false,eval e X.env) :: starEach es X.env:=by rfl) (hpl:(backTo pos (starEach es X.env)).any (·.1)=false:=by rfl) :
 PE X (.Call (.Name x p) (e :: es) [] pos) (tE X.K P (aC φ fs)):=by
 obtain⟨fa,fd,F,m,kp,b⟩:=cc;intro pins s σ H Q I h;refine wpAny_Call_Name_kw (aFd I hg m ?_ hdb)
 refine PySem.W.callWith_K (h₀:=X.base) I.ok.mod.kin kp (thn (ha pos pins s σ H _ I (aHl (cl:=cl) h)) fun us s1 ⟨vs,H1,I1,r,q⟩=>⟨I1.kIn,?_⟩) he hpl
 exact aPj F hr b (fun e s' hq=>ht pins σ H1 s1 e s' I1 hq) I1 r q
theorem DenS.start {K:PySem.W.Frag}{H:Hp}{B:Addr->Prop}{vs:List V}{ds:List D}{N:List Str}(hB:∀ b,B b->∃ o,H b=some o/\stab o=false)(r:aJ K (cut H B) ds vs):DenS K H H B (L2.start N vs) (stE N.length ds):=by
 have no:∀ i a,¬ iF (L2.start N vs) (stE N.length ds) i a:=fun i a ⟨_,e,h2,h3⟩=>by
  unfold stE at h2;by_cases hi:i<ds.length
  · rw[By (by simpa using hi),Aw]at h2
    cases q:ds[i]? with
    | none=>rw[q]at h2;cases h2
    | some d=>rw[q]at h2;cases h2;cases h3
  · rw[Cn (by simpa using hi),Ee]at h2
    split at h2<;>cases h2
 refine⟨⟨?_,aL.refl H,fun b z=>?_,fun i e he=>?_⟩,fun a ⟨i,z⟩=>(no i a z).elim,fun i j a z _=>(no i a z).elim⟩
 · unfold stE L2.start
   simp[r.length]
 · rcases z with ⟨i,z⟩ | z
   · exact(no i b z).elim
   · exact hB b z
 · unfold stE at he
   by_cases hi:i<ds.length
   · rw[By (by simpa using hi),Aw]at he
     cases q:ds[i]? with
     | none=>rw[q]at he;cases he
     | some d =>
      rw[q]at he;cases he;obtain⟨v,q1,q2⟩:=r.get q;refine⟨v,?_,?_⟩
      · unfold L2.start
        have:i<vs.length:=by rw[←r.length];exact hi
        rw[By (by simpa using this),Aw,q1]
        rfl
      · refine Rep.same (fX (fun _ _ q _=>q) fun b z=>.inl ?_) q2
        rcases z with (⟨j,z⟩ | z) | ⟨z,_⟩
        · exact(no j b z).elim
        · exact z
        · cases z
   · rw[Cn (by simpa using hi),Ee]at he
     split at he<;>cases he
theorem pR.fr {K:PySem.W.Frag}{H0 H':Hp}{T:Addr->Prop}{v:V}{r:Res}(s:aL H0 H')(h:pR K H0 H' T v r):pR K H0 H' T v ⟨r.k,r.fr||r.d.imm,r.d⟩:=by
 unfold pR at h ⊢;cases k:r.k with
 | shr=>rw[k]at h;exact Rep.fr s h
 | own =>
  rw[k]at h;obtain⟨a,o,h1,h2,h3,h4⟩:=h;refine⟨a,o,h1,h2,h3,?_⟩
  rw[h4.imm,Gi];exact h4
 | old =>
  rw[k]at h;obtain⟨a,o,h1,h2,h3,h4⟩:=h;refine⟨a,o,h1,h2,h3,?_⟩
  rw[h4.imm,Gi];exact h4
 | tmp =>
  rw[k]at h;obtain⟨a,o,h1,h2,h3,h4⟩:=h;refine⟨a,o,h1,h2,h3,?_⟩
  rw[h4.imm,Gi];exact h4
section
variable {Pg:Program}{w:World}{K:PySem.W.Frag}{mg:Str->Option Value}{base:Heap}
theorem aOl {φ:Φ}{n:Nat}(h:∀ ds,ds.length≠n->φ ds=.stk):∀ vs H Q E,spM K cl φ vs H Q E->vs.length=n:=fun vs H Q E ⟨ds,B,_,r,q⟩=>by
 rw[←r.length];by_cases e:ds.length=n
 · exact e
 · rw[h ds e]at q;exact q.elim
end
end Mir
namespace Mir
open PySem L2
variable {X:Cx}{P:XP}{a b c e:Expr}{es:List Expr}{f g:FE}{fs:FEs}{pos:Pos}
theorem bS {i:Nat}{x:Str}(hN:X.N.Nodup)(hi:X.N[i]?=some x)(hx:Loc X.env.scope x)(hf:X.fn x=true\/X.env.scope.names.lookup x=some .local:=by first | exact .inl rfl | exact .inr rfl | assumption):PG X (.Name x pos) (gOf X.K (.nm i)):=by
 unfold gOf;exact aN9 hN hi hx hf
theorem dY:PGs X [] (oH X.K []):=by
 unfold oH;exact aNe
theorem bC {t:Tg}{ts:List Tg}(h1:PG X e (gOf X.K t))(h2:PGs X es (oH X.K ts))(hs:(assignEach (e :: es) X.env).map (·.2)=assign e X.env :: (assignEach es X.env).map (·.2):=by rfl):PGs X (e :: es) (oH X.K (t :: ts)):=by
 unfold oH;exact aLw h1 h2 hs
theorem jD {ts:List Tg}{k:Nat}(hc:X.calm=true)(h:PGs X es (oH X.K ts))(hn:(assignEach es X.env).length=ts.length:=by rfl)(hst:(assignEach es X.env).findIdx? (·.1)=none:=by rfl):PG X (.Tuple es k pos) (gOf X.K (.tp ts)):=by
 unfold gOf;exact aSx hc h hn hst
mutual
def Tg.inK (k:Nat):Tg->Bool
 | .nm i=>decide (i<k)
 | .tp ts=>Tg.inKs k ts
def Tg.inKs (k:Nat):List Tg->Bool
 | []=>true
 | t :: ts=>t.inK k&&Tg.inKs k ts
end
mutual
theorem aQk {K:PySem.W.Frag}:∀ t:Tg,aBt (gOf K t)
 | .nm i=>by unfold gOf;exact aHn
 | .tp ts=>by unfold gOf;exact aKa (aEn ts)
theorem aEn {K:PySem.W.Frag}:∀ ts:List Tg,rY (oH K ts)
 | []=>by unfold oH;exact aHt
 | t :: ts=>by unfold oH;exact aDv (aQk t) (aEn ts)
end
mutual
theorem pZ {K:PySem.W.Frag}{k:Nat}:∀ {t:Tg},t.inK k=true->xN k (gOf K t)
 | .nm i,h=>by unfold gOf;exact aJ9 (by simpa[Tg.inK] using h)
 | .tp ts,h=>by unfold gOf;exact aPn (aQm (by simpa[Tg.inK] using h))
theorem aQm {K:PySem.W.Frag}{k:Nat}:∀ {ts:List Tg},Tg.inKs k ts=true->aBp k (oH K ts)
 | [],_=>by unfold oH;exact aI4
 | t :: ts,h=>by
  have h':t.inK k=true/\Tg.inKs k ts=true:=by simpa[Tg.inKs] using h
  unfold oH;exact aHa (aQk t) (aEn ts) (pZ h'.1) (aQm h'.2)
end
def dG:List D->R (List Int)
 | []=>.ok []
 | d :: r=>do
  let i ← asI d
  let l ← dG r
  .ok (i :: l)
def iH:List D->R (List Bool)
 | []=>.ok []
 | d :: r=>do
  let i ← asB d
  let l ← iH r
  .ok (i :: l)
def aBo (a:FE):FE:=fun ρ=>do
 let x ← a ρ
 let ds ← asL x.d
 let l ← dG ds
 .ok (sc (.int l.sum))
theorem eY {x:Xc}:∀ {ds:List D},dG ds=.exc x->False
 | [],h=>by simp[dG]at h
 | d :: r,h=>by
  simp only[dG]at h;cases e:asI d with
  | stk=>simp[e]at h
  | exc y=>exact dR e
  | ok i =>
   cases e2:dG r with
   | stk=>simp[e,e2]at h
   | exc y=>exact eY e2
   | ok l=>simp[e,e2]at h
theorem vZ {x:Xc}:∀ {ds:List D},iH ds=.exc x->False
 | [],h=>by simp[iH]at h
 | d :: r,h=>by
  simp only[iH]at h;cases e:asB d with
  | stk=>simp[e]at h
  | exc y=>exact aF9 e
  | ok i =>
   cases e2:iH r with
   | stk=>simp[e,e2]at h
   | exc y=>exact vZ e2
   | ok l=>simp[e,e2]at h
theorem aJ.ints {K:PySem.W.Frag}{G:Hp}:∀ {ds:List D} {vs:List V} {l:List Int},dG ds=.ok l->aJ K G ds vs->vs=l.map V.int
 | [],vs,l,h,r=>by simp[dG]at h;subst h;exact r
 | d :: r,vs,l,h,⟨x,xr,h1,h2,h3⟩=>by
  simp only[dG]at h;cases e:asI d with
  | stk=>simp[e]at h
  | exc y=>simp[e]at h
  | ok i =>
   cases e2:dG r with
   | stk=>simp[e,e2]at h
   | exc y=>simp[e,e2]at h
   | ok l' =>
    simp[e,e2]at h
    subst h;rw[eN e]at h2;rw[h1,aJ.ints e2 h3,show x=.int i from h2]
    rfl
theorem aJ.bools {K:PySem.W.Frag}{G:Hp}:∀ {ds:List D} {vs:List V} {l:List Bool},iH ds=.ok l->aJ K G ds vs->vs=l.map V.bl
 | [],vs,l,h,r=>by simp[iH]at h;subst h;exact r
 | d :: r,vs,l,h,⟨x,xr,h1,h2,h3⟩=>by
  simp only[iH]at h;cases e:asB d with
  | stk=>simp[e]at h
  | exc y=>simp[e]at h
  | ok i =>
   cases e2:iH r with
   | stk=>simp[e,e2]at h
   | exc y=>simp[e,e2]at h
   | ok l' =>
    simp[e,e2]at h
    subst h;rw[aJp e]at h2;rw[h1,aJ.bools e2 h3,show x=.bl i from h2]
    rfl
variable {p:Pos}
theorem aQf (hc:X.calm=true)(hg:Gl X "sum")(hm:X.mg "sum" = none)(ha:PE X a (tE X.K P f))(he:starEach [a] X.env=[(false,eval a X.env)]:=by rfl):PE X (.Call (.Name "sum" p) [a] [] pos) (tE X.K P (aBo f)):=by
 refine PE.imp (kG (aKv hc) hg hm (by decide +kernel) (aA ha aF he) (he:=he)) ?_
 intro σ H Q h;refine oK h ?_
 intro H0 B ρ v H' r d0 d g s h;cases e:asL r.d with
 | stk=>simp[e]at h
 | exc x=>exact(gS e).elim
 | ok ds =>
  cases e2:dG ds with
  | stk=>simp[e,e2]at h
  | exc x=>exact(eY e2).elim
  | ok l =>
   simp only[e,e2,R.ok_bind]at h;obtain⟨a,xs,h1,h2,h3⟩:=g.list (iL e);exact⟨a,l,by rw[h1],by rw[←aJ.ints e2 h3];exact .inl h2,h _ H' (aL.refl _) (aW.sc (show Rep _ _ (.int _) _ from rfl))⟩
inductive Ty where
 | int | bool | list | tuple | str
 deriving DecidableEq
def Ty.nm:Ty->String
 | .int=>"int"
 | .bool=>"bool"
 | .list=>"list"
 | .tuple=>"tuple"
 | .str=>"str"
end Mir
namespace Mir
open PySem L2
variable {X:Cx}{P:XP}{a b c e:Expr}{es:List Expr}{f g:FE}{fs:FEs}{pos p:Pos}
def wV:FS:=fun _=>.stk
theorem aGa {st:Stmt}:PS X st (tS X.K P wV):=PS.imp aI7 fun D σ H ⟨H0,T,ρ,d,h⟩=>h
theorem aW8 {k:Res->Res->R Res}{F:FE}(hF:F=fun ρ=>f ρ >>= fun x=>g ρ >>= fun y=>k x y){σ:St}{H:Hp}{Q:VK}{q:List V->Hp->Prop}(h:tE X.K P F σ H Q)
 (hk:∀ H0 B ρ v w H' r r',DenE X.K H0 H B σ ρ->DenE X.K H0 H' B σ ρ->aW X.K H0 H H' B v r->aW X.K H0 H H' B w r'->aL H H'->(match k r r' with
  | .ok r1=>∀ v1 H1,aL H' H1->aW X.K H0 H H1 B v1 r1->Q v1 H1
  | .exc x=>P.p x σ H'
  | .stk=>False)->q [v,w] H'):tAs X.K P [f,g] σ H q:=by
 have e:F=fun ρ=>evs [f,g] ρ >>= fun rs=>match rs with | [x,y]=>k x y | _=>.stk:=by
  rw[hF];funext ρ
  unfold evs evs;cases f ρ with
  | ok r =>
   show (g ρ >>= fun y=>k r y)=_
   cases g ρ with
   | ok r'=>rfl
   | _=>rfl
  | _=>rfl
 rw[e]at h;refine tA1 h ?_
 intro H0 B ρ vs H' rs d0 d gs s h;match vs,rs,gs with
 | [],rs,gs=>have e:rs=[]:=gs;subst e;exact h.elim
 | [v],_,⟨r,rr,e1,g1,g2⟩ =>
  subst e1;rw[show rr=[] from g2]at h
  exact h.elim
 | [v,w],_,⟨r,rr,e1,g1,r2,rr2,e2,g2,g3⟩ =>
  subst e1;subst e2;rw[show rr2=[] from g3]at h
  exact hk H0 B ρ v w H' r r2 d0 d g1 g2 s h
 | _ :: _ :: _ :: _,_,⟨r,rr,e1,g1,r2,rr2,e2,g2,r3,rr3,e3,_⟩ =>
  subst e1;subst e2;subst e3;exact h.elim
def aS4 (a b:FE):FE:=fun ρ=>do
 let x ← a ρ
 let y ← b ρ
 let xs ← asL x.d
 let ys ← asL y.d
 .ok ⟨.tmp,x.fr&&y.fr,.lst (yI xs ys)⟩
theorem aU1 {p1 p2 q1 q2:Pos}(hc:X.calm=true)(g1:Gl X "list")(m1:X.mg "list" = none)(g2:Gl X "zip")(m2:X.mg "zip" = none)(ha:PE X a (tE X.K P f))(hb:PE X b (tE X.K P g))
 (hs:starEach [a,b] X.env=[(false,eval a X.env),(false,eval b X.env)]:=by rfl) (hs2:starEach [b] X.env=[(false,eval b X.env)]:=by rfl)
 (hs3:starEach [Expr.Call (.Name "zip" p2) [a,b] [] q2] X.env=[(false,eval (.Call (.Name "zip" p2) [a,b] [] q2) X.env)]:=by rfl) :
 PE X (.Call (.Name "list" p1) [.Call (.Name "zip" p2) [a,b] [] q2] [] q1) (tE X.K P (aS4 f g)):=by
 refine PE.imp (aDm hc g1 m1 g2 m2 (aA ha (aA hb aF hs2) (by rw[hs,hs2])) hs hs2 hs3) ?_
 intro σ H Q h;refine aW8 rfl h ?_
 intro H0 B ρ v w H' r r' d0 d g1 g2 s h;cases e1:asL r.d with
 | stk=>simp[e1]at h
 | exc x=>exact(gS e1).elim
 | ok ds =>
  cases e2:asL r'.d with
  | stk=>simp[e1,e2]at h
  | exc x=>exact(gS e2).elim
  | ok es =>
   simp only[e1,e2,R.ok_bind]at h;obtain⟨a1,xs,h1,h2,h3⟩:=g1.list (iL e1);obtain⟨a2,ys,k1,k2,k3⟩:=g2.list (iL e2);refine⟨a1,a2,xs,ys,by rw[h1,k1],.inl h2,.inl k2,fun l ts H2 z=>?_⟩
   obtain⟨z1,z2,z3,z4,z5⟩:=z;refine h _ H2 z1 ⟨l,_,rfl,s.none z2,z3,.lst (aJ.of_get ?_ fun i dd vv hd hv=>?_)⟩
   · simp[yI,z4,h3.length,k3.length]
   · rw[Aw]at hv
     cases ht:ts[i]? with
     | none=>rw[ht]at hv;cases hv
     | some t =>
      rw[ht]at hv;cases hv;obtain⟨n1,x,y,ex,ey,et⟩:=z5 i t ht;unfold yI at hd;rw[List.getElem?_zipWith]at hd;obtain⟨d1,f1,r1⟩:=h3.getv ex;obtain⟨d2,f2,r2⟩:=k3.getv ey;rw[f1,f2]at hd;cases hd;have tl:t≠l:=fun q=>by rw[q,z3]at et;cases et
      have m:∀ fr,aL (bH fr H0 H' B) (bH fr H0 H2 fun b=>B b\/b=l):=fun fr=>bA (fun b o q _=>z1 b o q) fun b q=>q.imp id fun q=>by rw[q];exact z2
      refine⟨t,[x,y],rfl,bB.mpr ⟨fun q=>?_,et⟩,x,[y],rfl,?_,y,[],rfl,?_,rfl⟩
      · rcases q with (q | q) | ⟨_,o,q,_⟩
        · obtain⟨o,q1,_⟩:=d.bnd t q;rw[n1]at q1;cases q1
        · exact tl q
        · rw[d.sam _ _ q]at n1;cases n1
      · obtain⟨_,_,q1,q2,_⟩:=(aJ.one (Rep.same (m _) r1)).andL (fr':=r'.fr)
        cases q1;exact q2
      · obtain⟨_,_,q1,q2,_⟩:=(aJ.one (Rep.same (m _) r2)).andR (fr:=r.fr)
        cases q1;exact q2
end Mir
namespace Mir
open PySem L2
variable {X:Cx}{P:XP}{pins:List (Addr×Obj)}{σ:St}{H H':Hp}{s s':Shared}{ea C:Addr}
theorem dD.there {Pg:Program}{w:World}{H:Hp}{h:Heap}{a:Addr}{o:HO}(x:dD Pg w H h a o):∃ ob,h.get? a=some ob:=by
 cases o with
 | lst xs=>obtain⟨_,_,_,_,e⟩:=x;exact⟨_,e⟩
 | tup xs=>obtain⟨_,_,_,p⟩:=x;obtain⟨o,e,_⟩:=p;exact⟨o,e⟩
 | dK kvs=>obtain⟨_,_,_,_,o,_,_,e,_⟩:=x;exact⟨o,e⟩
 | dT kvs=>obtain⟨_,_,_,_,o,_,_,e,_⟩:=x;exact⟨o,e⟩
 | set S n=>obtain⟨o,_,_,_,e,_⟩:=x;exact⟨o,e⟩
 | ins C dx fs=>obtain⟨_,_,_,e,_⟩:=x;exact⟨_,e⟩
 | own y=>exact x
 | xd fs=>obtain⟨_,⟨o,_,_,e,_⟩,_⟩:=x;exact⟨o,e⟩
 | rng lo hi=>obtain⟨_,_,_,e⟩:=x;exact⟨_,e⟩
 | frz ob u=>obtain⟨e,_⟩:=x;exact⟨_,e⟩
 | tbl ps=>exact⟨_,x⟩
 | met f y=>exact⟨_,x⟩
 | ext φ=>obtain⟨_,e,_⟩:=x;exact e
structure Fly (Pg:Program)(w:World)(l:List PySem.Env)(H:Hp)(s:Shared)(ea C:Addr)(H':Hp)(s':Shared):Prop where
 os:s'.os=s.os
 bare:PyProof.Rows.AllBare s'.gens
 hok:HOk Pg w H' s'.heap
 un:Un (frs l) [] H H' s.heap s'.heap
 new:s.heap.get? ea=none
 unt:H' ea=none
 fly:∃ a0 Bh,Heap.FlyingW Bh l ea (.ref C) a0 s'.heap/\(∀ b o o',s.heap.get? b=some o->b∉frs l->s'.heap.get? b=some o'->Bh.get? b=some o')/\(∀ b u o',H' b=some u->s'.heap.get? b=some o'->Bh.get? b=some o')
def CXM (Pg:Program)(w:World):CXT:=fun outer H s E e s'=>∃ ea C H',e=.ref ea/\Fly Pg w outer H s ea C H' s'/\E (.ref C) none H'
theorem aFn {Pg:Program}{w:World}{h h' Bh:Heap}(x:HOk Pg w H h)(k:∀ b u o',H b=some u->h.get? b=some o'->Bh.get? b=some o')(st:Bh.StaysIn h'):HOk Pg w H h':=fun a o e =>
 (x a o e).stay (fun b u hb q=>by
  rcases hb with hb | hb
  · exact st _ _ (k b o u (by rw[hb];exact e) q)
  · exact st _ _ (k b _ u hb q)) (fun _ q=>q) fun _ _ q=>q
theorem aM3 {Pg:Program}{w:World}{fs:List Addr}{H0:Hp}{h0 h h' Bh:Heap}(u:Un fs [] H0 H h0 h)(ok:HOk Pg w H h)(hk:∀ b o o',h0.get? b=some o->b∉fs->h.get? b=some o'->Bh.get? b=some o')(ht:∀ b u o',H b=some u->h.get? b=some o'->Bh.get? b=some o')(st:Bh.StaysIn h')
 (sl:∀ b o,b∈fs->h.get? b=some o->∃ s,h'.get? b=some { o with slots:=s }):Un fs [] H0 H h0 h':=by
 refine⟨fun b o q n hb hx=>st _ _ (hk b o o q hb (u.keep b o q n hb hx)),fun b o q n hb hx=>?_,u.free,fun b o q hx=>?_,u.tups,u.frzs,u.tbls⟩
 · obtain⟨s1,e1⟩:=u.slot b o q n hb hx
   obtain⟨s2,e2⟩:=sl b _ hb e1;exact⟨s2,e2⟩
 · obtain⟨o',e⟩:=u.there b o q hx
   by_cases hb:b∈fs
   · obtain⟨s2,e2⟩:=sl b _ hb e
     exact⟨_,e2⟩
   · exact⟨o',st _ _ (hk b o o' q hb e)⟩
theorem aBw {env:PySem.Env}{l:List PySem.Env}{L:Addr}(h:env.frame=some L):frs (env :: l)=L :: frs l:=by unfold frs;rw[Ey,h]
theorem aNt {M:Model}{E:Value->Shared->Prop}{Q:Unit->Shared->Prop}(I:Inv X pins σ H s)(hx:X.ex=[])(hst:X.stack=X.env :: X.outer)(hf:X.env.frame=some X.env.locals)(F:Fly X.prog X.w X.stack H s ea C H' s')
 (hQ:∀ h',Fly X.prog X.w X.outer X.H₀ X.s₀ ea C H' { s' with heap:=h' }->Q () { s' with heap:=h' }):wpAny M X.A (leaving X.env (.ref ea)) Q E s':=by
 obtain⟨a0,Bh,fl,cov,trk⟩:=F.fly;have I':Inv X pins σ H' s':=I.call' (ch:=[]) F.os F.un F.hok F.bare (fun b z=>absurd z (by simp))
 rw[hst]at fl;refine wpAny_leaves_onW (by rw[I.ok.frames,hst]) hf fl fun h' x1 x2=>hQ h' ?_
 have ne:∀ b o,X.s₀.heap.get? b=some o->b≠X.env.locals:=fun b o e=>Ay (Av (Ae e) I.ok.above)
 have cov':∀ b o o',X.s₀.heap.get? b=some o->b∉frs X.outer->s'.heap.get? b=some o'->Bh.get? b=some o':=fun b o o' e n q=>by
  obtain⟨o1,e1⟩:=I.base.there b o e (by rw[hx];simp)
  refine cov b o1 o' e1 ?_ q
  rw[hst,aBw hf];simp only[An,not_or];exact⟨ne b o e,n⟩
 have base:Un (frs X.outer) [] X.H₀ H' X.s₀.heap s'.heap:=by
  have:=I'.base
  rw[hx]at this;exact this
 refine⟨F.os.trans I.os,F.bare,aFn F.hok trk x1.1,aM3 base F.hok cov' trk x1.1 (fun b o hb q=>?_),?_,F.unt,a0,Bh,x1,fun b o o' e n q=>?_,fun b u o' e q=>?_⟩
 · obtain⟨_,o1,e1,nf⟩:=fl.2.2.1.mem (b:=b) (by have:=aBw (l:=X.outer) hf;unfold frs at this;rw[this];exact Ad _ hb)
   rw[q]at e1;cases e1;exact x2 b o q nf
 · cases q:X.s₀.heap.get? ea with
   | none=>rfl
   | some o =>
    obtain⟨o1,e1⟩:=I.base.there ea o q (by rw[hx];simp)
    rw[F.new]at e1;cases e1
 · obtain⟨o1,e1⟩:=base.there b o e (by simp)
   have q1:=cov' b o o1 e n e1;have:=x1.1 _ _ q1
   rw[show ({ s' with heap:=h' }:Shared).heap.get? b=some o' from q]at this
   cases this;exact q1
 · obtain⟨o1,e1⟩:=dD.there (F.hok b u e)
   have q1:=trk b u o1 e e1;have:=x1.1 _ _ q1
   rw[show ({ s' with heap:=h' }:Shared).heap.get? b=some o' from q]at this
   cases this;exact q1
end Mir
namespace Mir
open PySem L2
variable {X:Cx}{P:XP}{a b c e:Expr}{es:List Expr}{f g:FE}{fs:FEs}{pos:Pos}
def PX (cl:XC->Addr)(E:XK):XP:=⟨fun x _ H=>∀ H',aL H H'->E (.ref (cl x.c)) none H',fun h s H' s'=>h H' (s.trans s')⟩
section
variable {Pg:Program}{w:World}{K:PySem.W.Frag}{mg:Str->Option Value}{base:Heap}{cl:XC->Addr}{N:List Str}{qual:Str}{scope:Scope}{fa:Addr}{cdv:Value}{A:Around}{outer:List PySem.Env}{s0:Shared}{H0:Hp}{E:XK}
theorem cC:Thr (CXM Pg w) cl (wU (CXM Pg w) Pg w K mg base N qual scope fa cdv A outer s0 H0 E) (PX cl E):=by
 rintro pins σ H s e s' I ⟨ea,C,H',rfl,F,x,hx,px⟩
 refine aNt I rfl rfl rfl F fun h' F'=>⟨ea,C,H',rfl,F',?_⟩
 rw[hx];exact px H' (aL.refl H')
theorem fV:PassesOwn (model Pg w) (wU (CXM Pg w) Pg w K mg base N qual scope fa cdv A outer s0 H0 E).A (wU (CXM Pg w) Pg w K mg base N qual scope fa cdv A outer s0 H0 E).env (wU (CXM Pg w) Pg w K mg base N qual scope fa cdv A outer s0 H0 E).xe:=PassesOwn.leaving
theorem aSq {X:Cx}{cl:XC->Addr}:Thr (CXM Pg w) cl X XP0:=by
 rintro pins σ H s e s' I ⟨ea,C,H',rfl,F,x,hx,px⟩
 exact px.elim
theorem aQx {x:Str}{ps:List Str}{k:Nat}{st:Stmt}{F:FS}{f:Addr}{fd:FuncData}(Fu:Fun K x x st f fd)(S:FnScope N ps (aT st))
 (hb:∀ (f:Addr) (cdv:Value) (A:Around) (outer:List PySem.Env) (s:Shared) (H:Hp) (E:XK),Room k (A.deeper (Hb x (aT st) s.heap.objs.size f cdv)) ->
  PSs (wU (CXM Pg w) Pg w K mg base N x (aT st) f cdv A outer s H E) (iU st) (tS K (PX cl E) F)):FnOk Pg w K mg base (CXM Pg w) (k+1) f fd ps (spM K cl (cG ps.length N.length F)):=by
 obtain⟨oc,od,kV,doc,pm,an,cdv,ct,osl,rfl,lk,hcd⟩:=Fu.ex;refine aV2 lk hcd S (aOl fun ds e=>?_) fun A outer s H vs Q E hr hsp=>⟨_,hb f cdv A outer s H E hr,?_⟩
 · unfold cG
   rw[if_neg e]
 · obtain⟨ds,B,hB,r,q⟩:=hsp
   refine⟨H,B,stE N.length ds,DenS.start hB r,?_⟩
   unfold cG at q;by_cases e:ds.length=ps.length
   · rw[if_pos e]at q
     cases e2:F (stE N.length ds) with
     | nx ρ'=>simp only[e2]at q;exact fun σ' H' d' x'=>q .non H' d'.e.sam (show V.non=V.non from rfl)
     | rt r=>simp only[e2]at q;exact fun v H' s' ro=>q v H' s' (ro.fr s')
     | bk ρ'=>simp only[e2]at q
     | ct ρ'=>simp only[e2]at q
     | exc z ρ'=>simp only[e2]at q;exact fun σ' H' d' x' H'' s''=>q H'' (d'.e.sam.trans s'')
     | stk=>simp only[e2]at q
   · rw[if_neg e]at q;exact q.elim
theorem cM {x:Str}{ps:List Str}{k:Nat}{st:Stmt}{F:FS}(Fa:bF K mg x st ps)(S:FnScope N ps (aT st))
 (hb:∀ (f:Addr) (cdv:Value) (A:Around) (outer:List PySem.Env) (s:Shared) (H:Hp) (E:XK),Room k (A.deeper (Hb x (aT st) s.heap.objs.size f cdv)) ->
  PSs (wU (CXM Pg w) Pg w K mg base N x (aT st) f cdv A outer s H E) (iU st) (tS K (PX cl E) F)):aG Pg w K mg base (CXM Pg w) (k+1) x ps (spM K cl (cG ps.length N.length F)) :=
 let ⟨f,fd,Fu,m,b⟩:=Fa
 ⟨f,fd,aQx Fu S hb,m,Fu.kp,b⟩
end
end Mir
namespace Mir
open PySem L2
variable {X:Cx}{P:XP}{pins:List (Addr×Obj)}{σ:St}{H H':Hp}{s s':Shared}{ea C:Addr}
section
variable {Pg:Program}{w:World}{l:List PySem.Env}{M:Model}{A:Around}{E:Value->Shared->Prop}{R:Shared->Prop}
theorem Fly.at {h' Bh:Heap}{a0:Value}(F:Fly Pg w l H s ea C H' s')(fl:Heap.FlyingW Bh l ea (.ref C) a0 s'.heap)(cov:∀ b o o',s.heap.get? b=some o->b∉frs l->s'.heap.get? b=some o'->Bh.get? b=some o')
 (trk:∀ b u o',H' b=some u->s'.heap.get? b=some o'->Bh.get? b=some o') (fl':Heap.FlyingW Bh l ea (.ref C) a0 h') (up:s'.heap.UpToSlots h'):Fly Pg w l H s ea C H' { s' with heap:=h' }:=by
 have same:∀ b o1 o',Bh.get? b=some o1->h'.get? b=some o'->o1=o':=fun b o1 o' q e=>Db.inj ((fl'.1 _ _ q).symm.trans e);refine⟨F.os,F.bare,aFn F.hok trk fl'.1,aM3 F.un F.hok cov trk fl'.1 fun b o hb q=>?_,F.new,F.unt,a0,Bh,fl',fun b o o' e n q=>?_,fun b u o' e q=>?_⟩
 · obtain⟨_,o1,e1,nf⟩:=fl.2.2.1.mem (b:=b) hb
   rw[q]at e1;cases e1;exact up b o q nf
 · obtain⟨o1,e1⟩:=F.un.there b o e (by simp)
   have q1:=cov b o o1 e n e1;exact same b o1 o' q1 q▸q1
 · obtain⟨o1,e1⟩:=dD.there (F.hok b u e)
   have q1:=trk b u o1 e e1;exact same b o1 o' q1 q▸q1
end
theorem Fly.inv (F:Fly X.prog X.w X.stack H s ea C H' s')(I:Inv X pins σ H s):Inv X pins σ H' s':=I.call' (ch:=[]) F.os F.un F.hok F.bare fun b z=>absurd z (by simp)
end Mir
namespace Mir
open PySem L2
variable {K:PySem.W.Frag}
def noL (K:PySem.W.Frag):Bool:=K.all fun p=>!(p.2.cls==Value.type "list")
theorem aRa (h:noL K=true){a:Addr}{o:Obj}(e:K.lookup a=some o):o.cls≠.type "list":=fun c=>by
 have m:(a,o)∈K:=by
  clear h c
  induction K with
  | nil=>cases e
  | cons p r ih =>
   obtain⟨b,u⟩:=p;rw[Bm]at e;cases q:a==b with
   | true=>rw[q]at e;cases e;rw[eq_of_beq q];exact Ab
   | false=>rw[q]at e;exact Ad _ (ih e)
 have:=Ev.mp h _ m
 rw[c]at this;simp at this
theorem zP {G:Hp}:∀ ns:List Int,aJ K G (ns.map .int) (ns.map V.int)
 | []=>rfl
 | n :: r=>⟨.int n,r.map V.int,rfl,rfl,zP r⟩
theorem aSn {φ:Φ}{H:Hp}{a:Addr}{ns:List Int}(hL:noL K=true)(h:φ [.lst (ns.map .int)]=.ok (sc (.bl true)))(hS:SqL K H a (ns.map V.int)):spM K (clK K) φ [.ref a] H (fun v _=>v=.bl true) fun _ _ _=>False:=by
 have rd:Rd H a (.lst (ns.map V.int)):=by
  rcases hS with q | ⟨o,its,n,e,c,_⟩
  · exact q
  · exact absurd c (aRa hL e)
 refine⟨[.lst (ns.map .int)],fun _=>False,fun _ z=>z.elim,⟨.ref a,[],rfl,⟨a,ns.map V.int,rfl,?_,zP ns⟩,rfl⟩,?_⟩
 · rcases rd with q | ⟨o,q⟩
   · exact .inl (bB.mpr ⟨fun z=>z,q⟩)
   · exact .inr ⟨o,bB.mpr ⟨fun z=>z,q⟩⟩
 · rw[h]
   exact fun v H' _ r=>r
abbrev aV5 (T:Addr):List Value:=[.ref T,.type "ValueError",.type "Exception",.type "BaseException",.type "object"]
structure XOne (K:PySem.W.Frag)(T:Addr)(n:Str)(C:Addr):Prop where
 ns:Ch K mainGlobals n=some (some (.ref C))
 lk:∃ od cd sl,K.lookup C=some ⟨.type "type",od,.cls cd,sl⟩/\cd.mro=.ref C :: aV5 T
 ga:Ep K (.ref C) "__getattribute__" = some (some (.builtin "BaseException.__getattribute__"))
 gh:Ep K (.ref C) "__getattr__" = some none
 cl:Ep K (.ref C) "__class__" = some (some (.builtin "object.__class__"))
structure XRaw (K:PySem.W.Frag)(T:Addr)(n:Str)(C:Addr)(od:Option Addr)(cd:ClassData)(sl:Array (Option Value)):Prop where
 ns:Ch K mainGlobals n=some (some (.ref C))
 lk:K.lookup C=some ⟨.type "type",od,.cls cd,sl⟩
 mro:cd.mro=.ref C :: aV5 T
 ga:Ep K (.ref C) "__getattribute__" = some (some (.builtin "BaseException.__getattribute__"))
 gh:Ep K (.ref C) "__getattr__" = some none
 cl:Ep K (.ref C) "__class__" = some (some (.builtin "object.__class__"))
theorem XRaw.one {T C:Addr}{n:Str}{od:Option Addr}{cd:ClassData}{sl:Array (Option Value)}(x:XRaw K T n C od cd sl):XOne K T n C:=⟨x.ns,⟨od,cd,sl,x.lk,x.mro⟩,x.ga,x.gh,x.cl⟩
structure At (K:PySem.W.Frag)(x:Str)(st:Stmt)(f:Addr)(oc kV doc pm cdv ct:Value)(od an:Option Addr)(sl:Array (Option Value)):Prop where
 ns:Ch K mainGlobals x=some (some (.ref f))
 lk:K.lookup f=some ⟨oc,od,.func (Dt x x (lB st) (iU st) (aT st) .none kV doc pm an cdv ct),sl⟩
 cd:Fh K cdv x=true
 kp:Fg K (.ref f)=true
end Mir
namespace Mir
open PySem L2
variable {X:Cx}{P:XP}{a b c e:Expr}{es:List Expr}{f g:FE}{fs:FEs}{pos p:Pos}
def toI:D->R Int
 | .int i=>.ok i
 | .bl k=>.ok (if k then 1 else 0)
 | _=>.stk
def aWd (a:FE):FE:=fun ρ=>do
 let x ← a ρ
 let i ← toI x.d
 .ok (sc (.int i))
end Mir
namespace L2
open PySem PySem.Spec PyProof.Rows
def Ite (K:PySem.W.Frag)(a:Addr):It :=
 ⟨fun i H=>∃ xs x,SqL K H a xs/\xs[i]?=some x,fun i H v H'=>∃ t x,v=.ref t/\H t=none/\H'=upd H t (.tup [.int i,x])/\∀ xs,SqL K H a xs->xs[i]?=some x,fun i H=>∃ xs,SqL K H a xs/\xs.length<=i⟩
def ETn (e it a:Addr)(i:Nat)(h:Heap):Prop:=(∃ old,IsEnum h e it i old)/\h.IsListIter it a i
theorem aIl {P:Program}{w:World}{K:PySem.W.Frag}{es:List Expr}{k:Nat}{pos:Pos}{e it a:Addr}(n1:e≠it):Turn P w K (.Tuple es k pos) (Ite K a) [e,it] e (ETn e it a) where
 mem:=by simp
 obj:=fun i h st c hc=>by
  obtain⟨⟨old,he⟩,o,q1,q2,q3⟩:=st;simp only[An,Bd,or_false]at hc;rcases hc with z | z<;>rw[z]
  · exact⟨_,he,fun v z=>nomatch z⟩
  · exact⟨o,q1,fun v z=>by rw[q3]at z;cases z⟩
 keep:=fun i h h' st kp=>⟨st.1.imp fun old he=>kp _ (by simp) _ he,st.2.at fun o q=>kp _ (by simp) o q⟩
 item:=by
  intro X hP hw hK hc i pins s σ H E I hf st hg;subst hP hw hK;obtain⟨xs,x,ha,hx⟩:=hg;obtain⟨us,ru,pu,_⟩:=I.list ha;obtain⟨u,eu,rxu⟩:=ru.get hx;obtain⟨⟨old,he⟩,hit⟩:=st;have ee:e<s.heap.objs.size:=Ae he;have ei:it<s.heap.objs.size:=by obtain⟨_,q,_⟩:=hit;exact Ae q
  refine wpAny_pyNext_enum_item he hit pu.isList (x:=u) (by simpa using eu) n1 fun h' b1 b2 b3 b4 b5=>⟨_,rfl,?_⟩
  refine wpAny_letOwnedTupleGo_enum b1 fun hp2 c1 cs=>?_
  have kp:∀ c o,c∉[e,it]->s.heap.get? c=some o->hp2.get? c=some o:=fun c o hc' q=>by
   simp only[An,Bd,or_false,not_or]at hc';exact cs.extBut c o hc'.1 (b5 c o hc'.1 hc'.2 q)
  have st':ETn e it a (i+1) hp2:=⟨⟨u,by push_cast;exact c1⟩,b2.extBut cs.extBut n1.symm⟩
  have pr:=cs.extBut _ _ (De ee) b3
  refine⟨.ref s.heap.objs.size,upd H s.heap.objs.size (.tup [.int i,x]),I.turnedNew (t':=s.toks+1) kp hf (fun c hc'=>?_) (Af _) ⟨by show 2<=sizeLine;decide,[.int i s.toks,u],.cons ⟨_,rfl⟩ (.cons rxu .nil),⟨_,pr,rfl,_,rfl⟩⟩,rfl,
   ⟨_,x,rfl,I.fresh,rfl,fun zs hq=>by rw[I.list_inj hq ha];exact hx⟩,st',fun c hc'=>?_⟩
  · obtain⟨⟨_,d1⟩,o,d2,_⟩:=st'
    simp only[An,Bd,or_false]at hc';rcases hc' with z | z<;>rw[z]
    · exact⟨_,d1⟩
    · exact⟨_,d2⟩
  · have lt:c<s.heap.objs.size:=by
     simp only[An,Bd,or_false]at hc';rcases hc' with z | z<;>rw[z]<;>assumption
    rw[aR (Ay lt)];exact(hf c hc').1
 done:=by
  intro X hP hw hK hc i pins s σ H E I hf st hg;subst hP hw hK;obtain⟨xs,ha,hend⟩:=hg;obtain⟨us,ru,pu,_⟩:=I.list ha;have lu:=ru.length;obtain⟨⟨old,he⟩,hit⟩:=st;refine wpAny_pyNext_enum_end (I.ok.hd hc) he hit pu.isList (Array.getElem?_eq_none (by rw[Am];omega)) fun h' kp=>⟨rfl,I.turnedL (t':=s.toks) (fun c o hc' q=>?_) hf⟩
  simp only[An,Bd,or_false,not_or]at hc';exact kp c o hc'.2 q
 self:=fun _ _ _ _ _ st h=>let ⟨⟨_,he⟩,_⟩:=st;wpAny_pyIter_enum he h
def aVb (K:PySem.W.Frag)(ta:TA):TI:=fun σ H R=>ta σ H fun vs H1=>∃ a,vs=[.ref a]/\(∃ xs,SqL K H1 a xs)/\R (Ite K a) H1
theorem aM7 {X:Cx}{es:List Expr}{k:Nat}{tp:Pos}{a:Expr}{t:TA}{p pos:Pos}(hg:Gl X "enumerate")(hm:X.mg "enumerate" = none)(ha:PA X [a] t)(hs:starEach [a] X.env=[(false,eval a X.env)]:=by rfl) :
 PI X (.Tuple es k tp) (.Call (.Name "enumerate" p) [a] [] pos) (aVb X.K t):=by
 intro pins s σ H R I h;refine Call_ (oD I hg hm (show bootBuiltins "enumerate" = some (.type "enumerate") by decide +kernel) (Ce (thn (ha pos pins s σ H _ I h) fun us s1 ⟨vs,H1,I1,r1,x,e,⟨xs,hx⟩,q⟩=>?_) (by rw[hs];rfl) rfl))
 subst e;obtain⟨u,rfl,rx⟩:=kE r1;cases rx;obtain⟨us',ru,pu,zu⟩:=I1.list hx;refine call_enumerate_list pu.isList fun h1 he hit hsz hk=>wpAny_pyIter_enum he ?_
 have big:∀ c∈[s1.heap.objs.size+1,s1.heap.objs.size],s1.heap.objs.size<=c:=fun c hc'=>by
  simp only[An,Bd,or_false]at hc';rcases hc' with z | z<;>rw[z]
  · exact Da _ 1
  · exact Af _
 exact⟨_,[s1.heap.objs.size+1,s1.heap.objs.size],_,_,H1,rfl,I1.kept (t':=s1.toks) hk,aIl (Nat.succ_ne_self _),⟨⟨_,he⟩,hit⟩,fun c hc'=>I1.fpOk (big c hc') (I1.hok.fresh (big c hc')),q⟩
end L2
namespace Mir
open PySem L2
variable {X:Cx}{P:XP}{a b c e:Expr}{es:List Expr}{f g:FE}{fs:FEs}{pos p:Pos}
def mZ (ds:List D):List D:=ds.zipIdx.map fun x=>.tup [.int x.2,x.1]
def aAw (a:FE):FI:=fun ρ=>do
 let x ← a ρ
 let xs ← asL x.d
 .ok ⟨x.k != .own,x.fr,mZ xs⟩
theorem aGu {K:PySem.W.Frag}{H0 H':Hp}{B:Addr->Prop}{a:Addr}{xs:List V}{ds:List D}{st fr:Bool}(hs:st=true->¬ B a)(h2:Rd H' a (.lst xs))(h3:aJ K (bH fr H0 H' B) ds xs):yA K H0 H' B (Ite K a) ⟨st,fr,mZ ds⟩:=by
 refine⟨fun c=>c=a,fun h c z=>z▸hs h,fun H2 B2 j1 j2 j3 j4 j5 i=>?_⟩
 have q1:SqL K H2 a xs:=.inl (aFk h2 fun o=>j1 a o rfl);have l1:=h3.length;refine⟨fun hi=>⟨xs,q1,?_⟩,fun d hd=>?_⟩
 · simp[mZ]at hi;omega
 · cases e1:ds[i]? with
   | none=>simp[mZ,e1]at hd
   | some d1 =>
    have ed:d=.tup [.int i,d1]:=by simp[mZ,e1]at hd;exact hd.symm
    subst ed;obtain⟨v,hv,rv⟩:=h3.get e1;refine⟨⟨xs,v,q1,hv⟩,fun x H3 y=>?_⟩
    obtain⟨t,x1,e3,e4,e5,y2⟩:=y;have z1:=y2 xs q1;rw[hv]at z1;cases z1;subst e3;subst e5;refine⟨aL.upd_new e4,t,[.int i,v],rfl,bB.mpr ⟨fun z=>?_,bL⟩,.int i,[v],rfl,rfl,v,[],rfl,?_,rfl⟩
    · rcases z with z | ⟨_,o,z,_⟩
      · obtain⟨o,q⟩:=j4 t z;rw[e4]at q;cases q
      · rw[j5 _ _ z]at e4;cases e4
    · exact Rep.same (bA (fun b o q n=>aL.upd_new e4 b o (j2 b o q n)) j3) rv
theorem aFj {ts:List Expr}{k:Nat}{tp:Pos}(hg:Gl X "enumerate")(hm:X.mg "enumerate" = none)(ha:PE X a (tE X.K P f))(hs:starEach [a] X.env=[(false,eval a X.env)]:=by rfl) :
 PI X (.Tuple ts k tp) (.Call (.Name "enumerate" p) [a] [] pos) (tI X.K P (aAw f)):=by
 refine PI.imp (aM7 hg hm (aA ha aF hs) hs) ?_
 intro σ H Rq h
 have e:aAw f=fun ρ=>evs [f] ρ >>= fun rs=>match rs with | [x]=>(asL x.d >>= fun xs=>.ok ⟨x.k != .own,x.fr,mZ xs⟩) | _=>.stk:=by
  funext ρ
  unfold aAw evs;cases f ρ<;>rfl
 rw[e]at h;refine aOo (q:=fun vs H1=>∃ a,vs=[.ref a]/\(∃ xs,SqL X.K H1 a xs)/\Rq (Ite X.K a) H1) h ?_
 intro H0 B ρ vs H' rs d0 d gs s h;match vs,rs,gs with
 | [],rs,gs=>have e:rs=[]:=gs;subst e;exact h.elim
 | [v],_,⟨r,rr,e1,g1,g2⟩ =>
  subst e1;rw[show rr=[] from g2]at h
  cases e2:asL r.d with
  | stk=>simp[e2]at h
  | exc x=>exact(gS e2).elim
  | ok ds =>
   simp only[e2,R.ok_bind]at h;obtain⟨a,xs,h1,h2,h3⟩:=g1.list (iL e2);exact⟨a,by rw[h1],⟨xs,.inl h2⟩,h _ H' (aL.refl _) (aGu (fun hk=>g1.notB d0 (iL e2) h1 hk) h2 h3)⟩
 | v :: w :: _,_,⟨r,rr,e1,g1,r2,rr2,e2,g2⟩ =>
  subst e1;subst e2;exact h.elim
end Mir
namespace En
open PySem Zp PyProof.Rows
abbrev trc (t:Addr)(i:Nat):Obj:={ cls:=.type "tuple_iterator",data:=.fields #[.ref t,.int i 0] }
section
variable {prog:Program}{w:World}{A:Around}{E:Value->Shared->Prop}{s:Shared}{it t e:Addr}{i:Nat}{items:Array Value}
theorem aXa {x:Value}{Q:Value->Shared->Prop}(ho:s.heap.get? it=some (trc t i))(ht:IsTup s.heap t items)(hx:items[i]?=some x)
 (q:∀ h',h'.get? it=some (trc t (i+1))->Heap.SameBut it s.heap h'->Q x { s with heap:=h' }):wpAny (model prog w) A (Builtin.SmallTypes.nextOf (.ref it)) Q E s:=by
 have ty:s.TypeIs (.ref it) "tuple_iterator":=⟨_,ho,rfl⟩;obtain⟨o,h1,h2,n,h3⟩:=ht;have hx':items[(i:Int).toNat]?=some x:=by rw[Br];exact hx
 refine wpAny_bind (wpAny_callSpecial?_slot (name:=Str.ofString "__next__") ty slot_tupleiter_next (wpAny_call_entry slot_tupleiter_next ty entry_tupleiter_next ?_ (args_tupleiter_next _)))
 repeat (first | assumption | (rw[hx']) | (rw[h3]) | (with_reducible refine wpAny_field ho rfl rfl ?_) | (with_reducible refine wpAny_seqItems h1 h3 ?_) | (with_reducible refine wpAny_setField_rec ho (by simp) fun h' e1 e2=>?_) | wp_step)
 exact⟨_,rfl,wpAny_pure (q h' (e1.trans rfl) e2)⟩
theorem aWl {Q:Value->Shared->Prop}(hh:A.handled=none)(ho:s.heap.get? it=some (trc t i))(ht:IsTup s.heap t items)(hx:items[i]?=none)
 (q:∀ h' e,Heap.ExtBut it s.heap h'->(∃ o,h'.get? e=some o/\o.cls=.type "StopIteration")->E (.ref e) { s with heap:=h' }):wpAny (model prog w) A (Builtin.SmallTypes.nextOf (.ref it)) Q E s:=by
 have ty:s.TypeIs (.ref it) "tuple_iterator":=⟨_,ho,rfl⟩;obtain⟨o,h1,h2,n,h3⟩:=ht;have hx':items[(i:Int).toNat]?=none:=by rw[Br];exact hx
 refine wpAny_bind (wpAny_callSpecial?_slot (name:=Str.ofString "__next__") ty slot_tupleiter_next (wpAny_call_entry slot_tupleiter_next ty entry_tupleiter_next ?_ (args_tupleiter_next _)))
 repeat (first | assumption | (rw[hx']) | (rw[h3]) | (with_reducible refine wpAny_field ho rfl rfl ?_) | (with_reducible refine wpAny_seqItems h1 h3 ?_) | (with_reducible refine wpAny_setField_rec ho (by simp) fun h' e1 e2=>?_) | wp_step)
 unfold raiseNew;refine wpAny_bind (wpAny_handled ?_);rw[show A.in1.handled=none from hh]
 refine wpAny_bind (wpAny_pure (wpAny_throw (q _ _ ((e2.extBut.push _).push _) ⟨_,Ag _ rfl,rfl⟩)))
abbrev erc (it:Addr)(i:Int)(old:Value):Obj:={ cls:=.type "enumerate",data:=.fields #[.none,.bool false,.ref it,rawInt i,.none,old] }
theorem aIy {x old:Value}{Q:Fin->Shared->Prop}(he:s.heap.get? e=some (erc it i old))(ho:s.heap.get? it=some (trc t i))(ht:IsTup s.heap t items)(hx:items[i]?=some x)(ne:e≠it)
 (q:∀ h',IsEnumOut h' e it ((i:Int)+1) x s.heap.objs.size->h'.get? it=some (trc t (i+1))->h'.get? s.heap.objs.size=some { cls:=.type "tuple",data:=.seq #[.int i s.toks,x] }->(∀ b o,b≠e->b≠it->s.heap.get? b=some o->h'.get? b=some o) ->
  Q (.done (.ret (.ref s.heap.objs.size))) { s with heap:=h',toks:=s.toks+1 }):wpAny (model prog w) A (Builtin.«enumerate.__next__» ⟨[.ref e],[]⟩) Q E s:=by
 repeat (first | assumption | (with_reducible refine wpAny_field he rfl rfl ?_) | (refine aXa ho ht hx ?_) | wp_step)
 intro h1 e1 u1;have he1:h1.get? e=some (erc it i old):=u1.extBut e _ ne he;repeat (first | assumption | (with_reducible refine wpAny_field he1 rfl rfl ?_) | (with_reducible refine wpAny_setField_rec he1 (by simp) fun h2 e2 u2=>?_) | (with_reducible refine wpAny_setField_rec e2 (by simp) fun h3 e3 u3=>?_) | wp_step)
 have z:h3.objs.size=s.heap.objs.size:=u3.1.trans (u2.1.trans u1.1);have lt:e<s.heap.objs.size:=Ae he;have li:it<s.heap.objs.size:=Ae ho;have g0:(h3.push { cls:=.type "tuple",data:=.seq #[.int i s.toks,x] }).get? e=some (erc it ((i:Int)+1) old):=Aa _ (e3.trans rfl);have p0:(h3.push { cls:=.type "tuple",data:=.seq #[.int i s.toks,x] }).get? s.heap.objs.size=some { cls:=.type "tuple",data:=.seq #[.int i s.toks,x] }:=z▸Ag _ rfl;have k0:∀ b o,b≠e->h1.get? b=some o->(h3.push { cls:=.type "tuple",data:=.seq #[.int i s.toks,x] }).get? b=some o:=fun b o nb q=>Aa _ (u3.extBut b o nb (u2.extBut b o nb q))
 rw[z];generalize h3.push { cls:=.type "tuple",data:=.seq #[.int i s.toks,x] }=g at g0 p0 k0
 have a1:=Cg (Obj.mapFields fun x_1=>x_1.setIfInBounds 5 x) g0 rfl;have a2:=Cg (Obj.mapFields fun x=>x.setIfInBounds 0 (rawInt (s.heap.objs.size:Nat))) a1 rfl;have a3:=Cg (Obj.mapFields fun x=>x.setIfInBounds 1 (Value.bool false)) a2 rfl
 have up:∀ b o,b≠e->g.get? b=some o->(((g.update e (Obj.mapFields fun x_1=>x_1.setIfInBounds 5 x)).update e (Obj.mapFields fun x=>x.setIfInBounds 0 (rawInt (s.heap.objs.size:Nat)))).update e (Obj.mapFields fun x=>x.setIfInBounds 1 (Value.bool false))).get? b=some o:=fun b o nb q =>
  (Cs _ _ nb.symm).trans ((Cs _ _ nb.symm).trans ((Cs _ _ nb.symm).trans q))
 exact q _ (a3.trans rfl) (up _ _ ne.symm (k0 _ _ ne.symm e1)) (up _ _ (De lt) p0) fun b o n1 n2 qq=>up b o n1 (k0 b o n1 (u1.extBut b o n2 qq))
theorem dry {old:Value}{Q:Fin->Shared->Prop}(hh:A.handled=none)(he:s.heap.get? e=some (erc it i old))(ho:s.heap.get? it=some (trc t i))(ht:IsTup s.heap t items)(hx:items[i]?=none)
 (q:∀ h' a u,h'.get? a=some u->u.cls=.type "StopIteration"->Heap.ExtBut it s.heap h'->E (.ref a) { s with heap:=h' }):wpAny (model prog w) A (Builtin.«enumerate.__next__» ⟨[.ref e],[]⟩) Q E s:=by
 repeat (first | assumption | (with_reducible refine wpAny_field he rfl rfl ?_) | (refine aWl hh ho ht hx ?_) | wp_step)
 rintro h' a k ⟨u,z1,z2⟩
 exact q h' a u z1 z2 k
theorem nxt {o:Obj}{Q:Option Value->Shared->Prop}(ho:s.heap.get? e=some o)(hc:o.cls=.type "enumerate")
 (h:wpAny (model prog w) A.in1 (Builtin.«enumerate.__next__» ⟨[.ref e],[]⟩) (fun r s'=>∃ v,r=.done (.ret v)/\Q (some v) s') (fun x s'=>∃ a u,x=.ref a/\s'.heap.get? a=some u/\u.cls=.type "StopIteration"/\Q none s') s):wpAny (model prog w) A (pyNext (.ref e)) Q E s:=by
 have ty:s.TypeIs (.ref e) "enumerate":=⟨o,ho,hc⟩;refine wpAny_bind (wpAny_attempt (wpAny_mono (Q:=fun r s'=>∃ v,r=some v/\Q (some v) s') (wpAny_callSpecial?_slot ty F.slot_enumerate_next (wpAny_call_entry F.slot_enumerate_next ty F.entry_enumerate_next (wpAny_mono h ?_ fun _ _ e=>e) (F.args_enumerate_next_1 _))) ?_ ?_))
 · rintro _ s' ⟨v,rfl,q⟩
   exact⟨v,rfl,v,rfl,q⟩
 · rintro _ s' ⟨v,rfl,q⟩
   exact wpAny_pure q
 · rintro _ s' ⟨a,u,rfl,e1,e2,q⟩
   exact wpAny_bind (wpAny_isInstance (T:="StopIteration") (b:=true) ⟨u,e1,e2⟩ isSubtype_stop (wpAny_pure q))
end
end En
namespace En
open PySem Zp PyProof.Rows
theorem aIt (t:Addr)(items:Array Value)(n:Nat)(dc:Option Addr)(sl:Array (Option Value)) :
 Meets (Builtin.«enumerate.__new__» ⟨[.type "enumerate",.ref t],[]⟩) (fun _ R s=>s.heap.get? t=some { cls:=.type "tuple",dict:=dc,data:=.seq items n,slots:=sl } /\
  R (.ok (.ret (.ref (s.heap.push (trc t 0)).objs.size))) { s with heap:=(s.heap.push (trc t 0)).push (erc s.heap.objs.size 0 .none) }) :=
 .of_wp fun prog w A R s h=>by
  obtain⟨hp,gs,dr,tk,os⟩:=s;obtain⟨hl,h⟩:=h;have hT:IsTup (Shared.heap ⟨hp,gs,dr,tk,os⟩) t items:=⟨_,hl,rfl,n,rfl⟩;have hsub:=sub_enumerate;wp_walk using AutoSeq1.wpAny_loadPart' hl
  refine wpAny_stack_any fun stk=>wpAny_pure ?_
  split
  · rename_i c _ _ _ _ _
    rcases (c==Value.type "enumerate") with _ | _
    all_goals wp_walk using AutoSeq1.wpAny_loadPart' hl,iter_tuple hT
    all_goals exact⟨_,rfl,h⟩
  · wp_walk using AutoSeq1.wpAny_loadPart' hl,iter_tuple hT
    exact⟨_,rfl,h⟩
section
variable {prog:Program}{w:World}{A:Around}{E:Value->Shared->Prop}{s:Shared}{t:Addr}{items:Array Value}
theorem aWc {Q:Value->Shared->Prop}(ht:IsTup s.heap t items)
 (h:∀ h',h'.get? (s.heap.objs.size+1)=some (erc s.heap.objs.size 0 .none)->h'.get? s.heap.objs.size=some (trc t 0)->(∀ b o,s.heap.get? b=some o->h'.get? b=some o)->Q (.ref (s.heap.objs.size+1)) { s with heap:=h' }) :
 wpAny (model prog w) A (call (.type "enumerate") [.ref t]) Q E s:=by
 obtain⟨⟨c,dc,dt,sl⟩,hl,hc,n,hd⟩:=ht;cases (show c=.type "tuple" from hc)
 cases (show dt=.seq items n from hd)
 have z:(s.heap.push (trc t 0)).objs.size=s.heap.objs.size+1:=Bw ..;have e1:((s.heap.push (trc t 0)).push (erc s.heap.objs.size 0 .none)).get? (s.heap.objs.size+1)=some (erc s.heap.objs.size 0 .none):=z▸Ag _ rfl;refine callType_new F.called_enumerate (by decide) (F.typeCall_enumerate_1 _) (F.newCall_enumerate_1 _) (fun obj=>F.args_object_init_2 obj _) F.entry_enumerate_new (aIt t items n dc sl) ⟨hl,?_⟩
 rw[z];exact⟨⟨_,e1,rfl⟩,h _ e1 (Aa _ (Ag _ rfl)) fun b o q=>Aa _ (Aa _ q)⟩
end
end En
namespace Dk
open PySem Zp
def Ent (h:Heap)(d:Addr)(es:Array DictEntry)(ep:Nat):Prop:=∃ o,h.get? d=some o/\o.ExactDict/\o.data=.dict es ep
theorem Ent.ty {s:Shared}{d:Addr}{es:Array DictEntry}{ep:Nat}(x:Ent s.heap d es ep):s.TypeIs (.ref d) "dict":=by
 obtain⟨o,h1,h2,h3⟩:=x;exact⟨o,h1,h2.1⟩
section
variable {prog:Program}{w:World}{A:Around}{E:Value->Shared->Prop}{s:Shared}
abbrev krc (d:Addr)(i n ep:Nat):Obj:={ cls:=.type "dict_keyiterator",data:=.fields #[.ref d,.int i 0,.int n 0,.int ep 0] }
theorem aQ8 {d:Addr}{es:Array DictEntry}{ep:Nat}{Q:Value->Shared->Prop}(ne:(d==sysModules)=false)(x:Ent s.heap d es ep)
 (q:Q (.ref s.heap.objs.size) { s with heap:=s.heap.push (krc d 0 es.size ep) }):wpAny (model prog w) A (pyIter (.ref d)) Q E s:=by
 have ty:=x.ty;obtain⟨o,h1,h2,h3⟩:=x;refine wpAny_pyIter_slot ty F.slot_dict_iter (wpAny_call_entry F.slot_dict_iter ty F.entry_dict_iter ?_ (F.args_dict_iter_1 _))
 have ne':¬ (d==sysModules)=true:=by rw[ne];exact Bn
 have kc:¬ (o.cls != Value.type "dict")=true:=by rw[h2.1];decide
 repeat (first | assumption | (with_reducible refine wpAny_notOrdered_dict ty ?_) | (rw[if_neg kc]) | (rw[if_neg ne']) | (with_reducible refine wpAny_dictEntries h1 h3 ?_) | (with_reducible refine wpAny_dictEpoch h1 h3 ?_) | wp_step)
 exact⟨.ref s.heap.objs.size,rfl,"dict_keyiterator",_,⟨krc d 0 es.size ep,Ag _ rfl,rfl⟩,F.slot_dict_keyiterator_next.lookup,q⟩
theorem Ent.but {h h':Heap}{it d:Addr}{es:Array DictEntry}{ep:Nat}(x:Ent h d es ep)(u:Heap.ExtBut it h h')(n:d≠it):Ent h' d es ep:=by
 obtain⟨o,h1,h2⟩:=x;exact⟨o,u d o n h1,h2⟩
variable {it d:Addr}{es:Array DictEntry}{i ep:Nat}
theorem aIy {k:DictEntry}{Q:Fin->Shared->Prop}(ho:s.heap.get? it=some (krc d i es.size ep))(x:Ent s.heap d es ep)(ek:es[i]?=some k)
 (q:∀ h',h'.get? it=some (krc d (i+1) es.size ep)->Heap.SameBut it s.heap h'->Q (.done (.ret k.key)) { s with heap:=h' }) :
 wpAny (model prog w) A (Builtin.«dict_keyiterator.__next__» ⟨[.ref it],[]⟩) Q E s:=by
 obtain⟨o,h1,h2,h3⟩:=x;have ty:s.TypeIs (.ref it) "dict_keyiterator":=⟨_,ho,rfl⟩;have ek':(if (i:Int)<0 then none else es[(i:Int).toNat]?)=some k:=by rw[if_neg (by omega),Br];exact ek
 repeat (first | assumption | (rw[ek']) | (with_reducible refine wpAny_isOneOf_keyiter ⟨_,e1,rfl⟩ ?_) | (with_reducible refine wpAny_typeNameOfWhole_keyiter ty ?_) | (with_reducible refine wpAny_isOneOf_keyiter ty ?_) | (with_reducible refine wpAny_dictEntries h1 h3 ?_) | (with_reducible refine wpAny_dictEpoch h1 h3 ?_) | (with_reducible refine wpAny_fieldsOf ho rfl ?_) | (with_reducible refine wpAny_setField_rec ho (by simp;decide) fun h' e1 e2=>?_) | wp_step)
 exact q h' (e1.trans rfl) e2
theorem dry {Q:Fin->Shared->Prop}(hh:A.handled=none)(ho:s.heap.get? it=some (krc d i es.size ep))(x:Ent s.heap d es ep)(ek:es.size<=i)
 (q:∀ h' e o,h'.get? e=some o->o.cls=.type "StopIteration"->Heap.ExtBut it s.heap h'->E (.ref e) { s with heap:=h' }) :
 wpAny (model prog w) A (Builtin.«dict_keyiterator.__next__» ⟨[.ref it],[]⟩) Q E s:=by
 obtain⟨o,h1,h2,h3⟩:=x;have ty:s.TypeIs (.ref it) "dict_keyiterator":=⟨_,ho,rfl⟩;have ek':(if (i:Int)<0 then none else es[(i:Int).toNat]?)=none:=by rw[if_neg (by omega),Br];exact Array.getElem?_eq_none ek
 repeat (first | assumption | (rw[ek']) | (rw[hh]) | (with_reducible refine wpAny_typeNameOfWhole_keyiter ty ?_) | (with_reducible refine wpAny_isOneOf_keyiter ty ?_) | (with_reducible refine wpAny_dictEntries h1 h3 ?_) | (with_reducible refine wpAny_dictEpoch h1 h3 ?_) | (with_reducible refine wpAny_fieldsOf ho rfl ?_) | (with_reducible refine wpAny_setField_rec ho (by simp;decide) fun h' e1 e2=>?_) | wp_step)
 unfold raiseNew;refine wpAny_bind (wpAny_handled ?_);rw[hh]
 refine wpAny_bind (wpAny_pure (wpAny_throw (q _ _ _ (Ag _ rfl) rfl ((e2.extBut.push _).push _))))
theorem nxt {o:Obj}{Q:Option Value->Shared->Prop}(ho:s.heap.get? it=some o)(hc:o.cls=.type "dict_keyiterator")
 (h:wpAny (model prog w) A.in1 (Builtin.«dict_keyiterator.__next__» ⟨[.ref it],[]⟩) (fun r s'=>∃ v,r=.done (.ret v)/\Q (some v) s') (fun e s'=>∃ a u,e=.ref a/\s'.heap.get? a=some u/\u.cls=.type "StopIteration"/\Q none s') s):wpAny (model prog w) A (pyNext (.ref it)) Q E s:=by
 have ty:s.TypeIs (.ref it) "dict_keyiterator":=⟨o,ho,hc⟩;refine wpAny_bind (wpAny_attempt (wpAny_mono (Q:=fun r s'=>∃ v,r=some v/\Q (some v) s') (wpAny_callSpecial?_slot ty F.slot_dict_keyiterator_next (wpAny_call_entry F.slot_dict_keyiterator_next ty F.entry_dict_keyiterator_next (wpAny_mono h ?_ fun _ _ e=>e) (F.args_dict_keyiterator_next_1 _))) ?_ ?_))
 · rintro _ s' ⟨v,rfl,q⟩
   exact⟨v,rfl,v,rfl,q⟩
 · rintro _ s' ⟨v,rfl,q⟩
   exact wpAny_pure q
 · rintro _ s' ⟨a,u,rfl,e1,e2,q⟩
   exact wpAny_bind (wpAny_isInstance (T:="StopIteration") (b:=true) ⟨u,e1,e2⟩ isSubtype_stop (wpAny_pure q))
theorem aQ3 {S:Addr}{h0:Heap}(hh:A.handled=none)(n1:d≠it)(n2:S≠it)(n3:S≠d) :
 Feed prog w A it S (fun n vs h=>∃ i,i+n=es.size/\vs=(es.toList.take i).map (·.key)/\h.get? it=some (krc d i es.size ep)/\Ent h d es ep/\Out [it,S] h0 h) (fun vs h=>vs=es.toList.map (·.key)/\Out [it,S] h0 h) where
 more:=fun n vs s Q E ⟨i,hi,hv,ho,x,k⟩ q=>by
  have lt:i<es.size:=by omega
  refine nxt ho rfl (aIy ho x (Array.getElem?_eq_getElem lt) fun h' e u=>⟨_,rfl,q _ h' ⟨i+1,by omega,?_,e,x.but u.extBut n1,k.then (Out.of u.extBut (by simp))⟩ fun o e=>u.extBut S o n2 e⟩)
  rw[hv,Ea];simp[lt]
 over:=fun vs s Q E ⟨i,hi,hv,ho,x,k⟩ q=>by
  refine nxt ho rfl (dry (show A.in1.handled=none from hh) ho x (by omega) fun h' e o e1 e2 u=>⟨e,o,rfl,e1,e2,q h' ⟨?_,k.then (Out.of u (by simp))⟩ fun o e=>u S o n2 e⟩)
  rw[hv,Du (by simp;omega)]
 blind:=fun n vs h h' ⟨i,hi,hv,ho,x,k⟩ u=>⟨i,hi,hv,u.extBut it _ n2.symm ho,x.but u.extBut n3.symm,k.then (Out.of u.extBut (by simp))⟩
end
end Dk
namespace Dk
open PySem Zp PySem.W
section
variable {prog:Program}{w:World}{A:Around}{E:Value->Shared->Prop}{s:Shared}{d S:Addr}{es:Array DictEntry}{ep:Nat}
theorem aGw {c:Nat}{r:Value}{R:Result->Shared->Prop}(hh:A.handled=none)(ne:(d==sysModules)=false)(x:Ent s.heap d es ep)(e:s.heap.get? S=some (mk [] c))(few:es.size<=sizeLine)(nS:S≠d)
 (q:∀ h' c',h'.get? S=some (mk (es.toList.map (·.key)) c')->(∀ b o,b≠S->s.heap.get? b=some o->h'.get? b=some o)->R (.ok (.ret r)) { s with heap:=h' }) :
 wpAny (model prog w) A.in1 (Builtin.List.listExtendWith (.ref S) (.ref d) r) (fun fin s'=>match fin with | .done f=>R (.ok f) s' | .again c'=>c'.quiet=true/\codeAny (model prog w) A c' R s') (fun e s'=>R (.error e) s') s:=by
 have same:Builtin.List.listSameRef (.ref S) (.ref d)=false:=by simp[Builtin.List.listSameRef,nS]
 have t1:(Value.type "dict" == Value.type "list")=false:=by decide
 have t2:(Value.type "dict" == Value.type "tuple")=false:=by decide
 have cond:(Builtin.List.listSameRef (.ref S) (.ref d)||Value.type "dict" == Value.type "list" || Value.type "dict" == Value.type "tuple")=false:=by rw[same,t1,t2];rfl
 refine wpAny_bind (wpAny_typeOf x.ty ?_)
 simp only[cond,Bo,if_false];have I:s.heap.objs.size≠S:=De (Ae e);have ld:d<s.heap.objs.size:=let ⟨_,h1,_⟩:=x;Ae h1
 have x1:Ent (s.heap.push (krc d 0 es.size ep)) d es ep:=let ⟨o,h1,h2⟩:=x;⟨o,Aa _ h1,h2⟩
 have e1:(s.heap.push (krc d 0 es.size ep)).get? S=some (mk [] c):=Aa _ e;refine wpAny_bind (aQ8 ne x (wpAny_bind (wpAny_holding (kdl_hint_dict x1.ty ?_))))
 refine wpAny_bind (wpAny_rule (wpAny_bind (wpAny_bind (upd e1 (by decide) (by decide) fun h2 c2 e2 u2=>?_))))
 refine upd e2 (by decide) (by decide) fun h3 c3 e3 u3=>wpAny_pure ⟨plainId_quiet PySem.F.plain_extend_loop _,?_⟩
 have u:Heap.SameBut S (s.heap.push (krc d 0 es.size ep)) h3:=⟨u3.1.trans u2.1,fun b m=>(u3.2 b m).trans (u2.2 b m)⟩;have it3:h3.get? s.heap.objs.size=some (krc d 0 es.size ep):=u.extBut _ _ I (Ag _ rfl);refine aTp (aQ3 (d:=d) (es:=es) (ep:=ep) (h0:=h3) (show A.in1.handled=none from hh) (Ay ld) I.symm nS) r es.size [] c3 _ ⟨0,by omega,rfl,it3,x1.but u.extBut nS.symm,fun _ _ _ z=>z⟩ e3 (by simpa using few) fun h' us c' l e4=>?_
 obtain⟨l1,l2⟩:=l;subst l1;refine q h' c' e4 fun b o nb hb=>l2 b o ?_ (u.extBut b o nb (Aa _ hb))
 simp only[An,Bd,or_false,not_or];exact⟨Ay (Ae hb),nb⟩
theorem aHi {Q:List Value->Shared->Prop}(hh:A.handled=none)(ne:(d==sysModules)=false)(x:Ent s.heap d es ep)(few:es.size<=sizeLine)
 (q:∀ h',(∀ b o,s.heap.get? b=some o->h'.get? b=some o)->Q (es.toList.map (·.key)) { s with heap:=h' }):wpAny (model prog w) A (collect (.ref d)) Q E s:=by
 have ld:d<s.heap.objs.size:=let ⟨_,h1,_⟩:=x;Ae h1
 have e0:(s.heap.push (mk [] 0)).get? s.heap.objs.size=some (mk [] 0):=Ag _ rfl;have x0:Ent (s.heap.push (mk [] 0)) d es ep:=let ⟨o,h1,h2⟩:=x;⟨o,Aa _ h1,h2⟩
 refine wpAny_bind (wpAny_runValue (codeAny_builtin F.entry_proto_collect (by
  rw[Around.under_plainId F.plain_proto_collect]
  refine wpAny_bind (m:=newList []) (wpAny_newObj_type (wpAny_pure ⟨plainId_quiet F.plain_list_iadd _,codeAny_builtin F.entry_list_iadd (by
   rw[Around.under_plainId F.plain_list_iadd];refine wpAny_mono (aGw (R:=fun r s'=>r=.ok (.ret (.ref s.heap.objs.size))/\∃ h' c',s'={ s with heap:=h' }/\h'.get? s.heap.objs.size=some (mk (es.toList.map (·.key)) c')/\∀ b o,b≠s.heap.objs.size->(s.heap.push (mk [] 0)).get? b=some o->h'.get? b=some o) (s:={ s with heap:=s.heap.push (mk [] 0) }) (c:=0) hh ne x0 e0 few (De ld) fun h' c' e1 k1=>⟨rfl,h',c',rfl,e1,k1⟩) ?_ fun _ _ z=>nomatch z.1
   have fin:∀ h' c',h'.get? s.heap.objs.size=some (mk (es.toList.map (·.key)) c')->(∀ b o,b≠s.heap.objs.size->(s.heap.push (mk [] 0)).get? b=some o->h'.get? b=some o)->wpAny (model prog w) A (load s.heap.objs.size >>= fun ob=>match ob.data with | .seq xs _=>pure xs.toList | _=>unsupported "internal:collect") Q E { s with heap:=h' }:=fun h' c' e1 k1=>by
    refine wpAny_bind (wpAny_load e1 (wpAny_pure ?_))
    have z:(es.toList.map (·.key)).toArray.toList=es.toList.map (·.key):=by simp
    rw[z];exact q h' fun b o hb=>k1 b o (Ay (Ae hb)) (Aa _ hb)
   intro f s1 z;cases f with
   | done f =>
    obtain⟨z,h',c',rfl,e1,k1⟩:=z;cases z;exact fin h' c' e1 k1
   | again c1=>exact⟨z.1,codeAny_mono z.2 fun r s2 y=>by obtain⟨rfl,h',c',rfl,e1,k1⟩:=y;exact fin h' c' e1 k1⟩)⟩)))))
end
end Dk
namespace Dk
open PySem Zp PySem.W
section
variable {prog:Program}{w:World}{A:Around}{E:Value->Shared->Prop}{s:Shared}{d it v:Addr}{es:Array DictEntry}{i ep:Nat}
theorem aM6 {Q:Value->Shared->Prop}(ne:(d==sysModules)=false)(x:Ent s.heap d es ep)
 (q:Q (.ref s.heap.objs.size) { s with heap:=s.heap.push { cls:=.type "dict_items",data:=.fields #[.ref d] } }):wpAny (model prog w) A (call (.builtin "dict.items") [.ref d]) Q E s:=by
 have ty:=x.ty;obtain⟨o,h1,h2,h3⟩:=x;have ne':¬ (d==sysModules)=true:=by rw[ne];exact Bn
 have kc:¬ (o.cls != Value.type "dict")=true:=by rw[h2.1];decide
 refine wpAny_call_entry F.slot_dict_items ty F.entry_dict_items ?_ (F.args_dict_items_1 _)
 repeat (first | assumption | (rw[if_neg kc]) | (rw[if_neg ne']) | (with_reducible refine wpAny_notOrdered_dict ty ?_) | wp_step)
 exact⟨_,rfl,q⟩
abbrev irc (d:Addr)(i n ep:Nat)(k u:Value):Obj:={ cls:=.type "dict_itemiterator",data:=.fields #[.none,.bool false,.ref d,.int i 0,.int n 0,.int ep 0,k,u] }
theorem aRf {Q:Value->Shared->Prop}(hv:s.heap.get? v=some { cls:=.type "dict_items",data:=.fields #[.ref d] })(x:Ent s.heap d es ep)
 (q:Q (.ref s.heap.objs.size) { s with heap:=s.heap.push (irc d 0 es.size ep .none .none) }):wpAny (model prog w) A (pyIter (.ref v)) Q E s:=by
 have ty:s.TypeIs (.ref v) "dict_items":=⟨_,hv,rfl⟩;obtain⟨o,h1,h2,h3⟩:=x;refine wpAny_pyIter_slot ty F.slot_dict_items_iter (wpAny_call_entry F.slot_dict_items_iter ty F.entry_dict_items_iter ?_ (F.args_dict_items_iter_1 _))
 repeat (first | assumption | (with_reducible refine wpAny_field hv rfl rfl ?_) | (with_reducible refine wpAny_dictEntries h1 h3 ?_) | (with_reducible refine wpAny_dictEpoch h1 h3 ?_) | wp_step)
 exact⟨.ref s.heap.objs.size,rfl,"dict_itemiterator",_,⟨irc d 0 es.size ep .none .none,Ag _ rfl,rfl⟩,F.slot_dict_itemiterator_next.lookup,q⟩
theorem aTv {k:DictEntry}{ok ov:Value}{Q:Fin->Shared->Prop}(ho:s.heap.get? it=some (irc d i es.size ep ok ov))(x:Ent s.heap d es ep)(ek:es[i]?=some k)
 (q:∀ h',IsItemIterOut h' it d (i+1) es.size ep k.key k.val s.heap.objs.size->h'.get? s.heap.objs.size=some { cls:=.type "tuple",data:=.seq #[k.key,k.val] }->(∀ b o,b≠it->s.heap.get? b=some o->h'.get? b=some o)->Q (.done (.ret (.ref s.heap.objs.size))) { s with heap:=h' }) :
 wpAny (model prog w) A (Builtin.«dict_itemiterator.__next__» ⟨[.ref it],[]⟩) Q E s:=by
 obtain⟨o,h1,h2,h3⟩:=x;have ty:s.TypeIs (.ref it) "dict_itemiterator":=⟨_,ho,rfl⟩;have ek':(if (i:Int)<0 then none else es[(i:Int).toNat]?)=some k:=by rw[if_neg (by omega),Br];exact ek
 repeat (first | assumption | (rw[ek']) | (with_reducible refine wpAny_isOneOf_itemiter ⟨_,e1,rfl⟩ ?_) | (with_reducible refine wpAny_typeNameOfWhole_itemiter ty ?_) | (with_reducible refine wpAny_isOneOf_itemiter ty ?_) | (with_reducible refine wpAny_dictEntries h1 h3 ?_) | (with_reducible refine wpAny_dictEpoch h1 h3 ?_) | (with_reducible refine wpAny_fieldsOf ho rfl ?_) | (with_reducible refine wpAny_setField_rec ho (by simp;decide) fun h' e1 e2=>?_) | wp_step)
 have z:h'.objs.size=s.heap.objs.size:=e2.1;have lt:it<s.heap.objs.size:=Ae ho;have g0:(h'.push { cls:=.type "tuple",data:=.seq #[k.key,k.val] }).get? it=some (irc d (i+1) es.size ep ok ov):=Aa _ (e1.trans rfl);have p0:(h'.push { cls:=.type "tuple",data:=.seq #[k.key,k.val] }).get? s.heap.objs.size=some { cls:=.type "tuple",data:=.seq #[k.key,k.val] }:=z▸Ag _ rfl;have k0:∀ b o,b≠it->s.heap.get? b=some o->(h'.push { cls:=.type "tuple",data:=.seq #[k.key,k.val] }).get? b=some o:=fun b o nb e=>Aa _ (e2.extBut b o nb e);rw[z];generalize h'.push { cls:=.type "tuple",data:=.seq #[k.key,k.val] }=g at g0 p0 k0
 have a1:=Cg (Obj.mapFields fun x=>x.setIfInBounds 6 k.key) g0 rfl;have a2:=Cg (Obj.mapFields fun x=>x.setIfInBounds (6+1) k.val) a1 rfl;have a3:=Cg (Obj.mapFields fun x=>x.setIfInBounds 0 (rawInt (s.heap.objs.size:Nat))) a2 rfl;have a4:=Cg (Obj.mapFields fun x=>x.setIfInBounds 1 (Value.bool false)) a3 rfl
 have up:∀ b o,b≠it->g.get? b=some o->((((g.update it (Obj.mapFields fun x=>x.setIfInBounds 6 k.key)).update it (Obj.mapFields fun x=>x.setIfInBounds (6+1) k.val)).update it (Obj.mapFields fun x=>x.setIfInBounds 0 (rawInt (s.heap.objs.size:Nat)))).update it (Obj.mapFields fun x=>x.setIfInBounds 1 (Value.bool false))).get? b=some o:=fun b o nb e =>
  (Cs _ _ nb.symm).trans ((Cs _ _ nb.symm).trans ((Cs _ _ nb.symm).trans ((Cs _ _ nb.symm).trans e)))
 exact q _ (a4.trans rfl) (up _ _ (De lt) p0) fun b o nb e=>up b o nb (k0 b o nb e)
theorem aW0 {ok ov:Value}{Q:Fin->Shared->Prop}(hh:A.handled=none)(ho:s.heap.get? it=some (irc d i es.size ep ok ov))(x:Ent s.heap d es ep)(ek:es.size<=i)
 (q:∀ h' e o,h'.get? e=some o->o.cls=.type "StopIteration"->Heap.ExtBut it s.heap h'->E (.ref e) { s with heap:=h' }) :
 wpAny (model prog w) A (Builtin.«dict_itemiterator.__next__» ⟨[.ref it],[]⟩) Q E s:=by
 obtain⟨o,h1,h2,h3⟩:=x;have ty:s.TypeIs (.ref it) "dict_itemiterator":=⟨_,ho,rfl⟩;have ek':(if (i:Int)<0 then none else es[(i:Int).toNat]?)=none:=by rw[if_neg (by omega),Br];exact Array.getElem?_eq_none ek
 repeat (first | assumption | (rw[ek']) | (rw[hh]) | (with_reducible refine wpAny_typeNameOfWhole_itemiter ty ?_) | (with_reducible refine wpAny_isOneOf_itemiter ty ?_) | (with_reducible refine wpAny_dictEntries h1 h3 ?_) | (with_reducible refine wpAny_dictEpoch h1 h3 ?_) | (with_reducible refine wpAny_fieldsOf ho rfl ?_) | (with_reducible refine wpAny_setField_rec ho (by simp;decide) fun h' e1 e2=>?_) | wp_step)
 unfold raiseNew;refine wpAny_bind (wpAny_handled ?_);rw[hh]
 refine wpAny_bind (wpAny_pure (wpAny_throw (q _ _ _ (Ag _ rfl) rfl ((e2.extBut.push _).push _))))
theorem aT7 {n:Nat}{ok ov:Value}{Q:Value->Shared->Prop}(ho:s.heap.get? it=some (irc d i n ep ok ov))(q:Q (.ref it) s):wpAny (model prog w) A (pyIter (.ref it)) Q E s:=by
 have ty:s.TypeIs (.ref it) "dict_itemiterator":=⟨_,ho,rfl⟩;refine wpAny_pyIter_slot ty F.slot_dict_itemiterator_iter (wpAny_call_entry F.slot_dict_itemiterator_iter ty (kcp_entry) ?_ (F.args_dict_itemiterator_iter_1 _))
 exact wpAny_pure ⟨.ref it,rfl,"dict_itemiterator",_,ty,F.slot_dict_itemiterator_next.lookup,q⟩
theorem aVf {o:Obj}{Q:Option Value->Shared->Prop}(ho:s.heap.get? it=some o)(hc:o.cls=.type "dict_itemiterator")
 (h:wpAny (model prog w) A.in1 (Builtin.«dict_itemiterator.__next__» ⟨[.ref it],[]⟩) (fun r s'=>∃ v,r=.done (.ret v)/\Q (some v) s') (fun e s'=>∃ a u,e=.ref a/\s'.heap.get? a=some u/\u.cls=.type "StopIteration"/\Q none s') s):wpAny (model prog w) A (pyNext (.ref it)) Q E s:=by
 have ty:s.TypeIs (.ref it) "dict_itemiterator":=⟨o,ho,hc⟩;refine wpAny_bind (wpAny_attempt (wpAny_mono (Q:=fun r s'=>∃ v,r=some v/\Q (some v) s') (wpAny_callSpecial?_slot ty F.slot_dict_itemiterator_next (wpAny_call_entry F.slot_dict_itemiterator_next ty F.entry_dict_itemiterator_next (wpAny_mono h ?_ fun _ _ e=>e) (F.args_dict_itemiterator_next_1 _))) ?_ ?_))
 · rintro _ s' ⟨v,rfl,q⟩
   exact⟨v,rfl,v,rfl,q⟩
 · rintro _ s' ⟨v,rfl,q⟩
   exact wpAny_pure q
 · rintro _ s' ⟨a,u,rfl,e1,e2,q⟩
   exact wpAny_bind (wpAny_isInstance (T:="StopIteration") (b:=true) ⟨u,e1,e2⟩ isSubtype_stop (wpAny_pure q))
end
end Dk
namespace Srt
open PySem PySem.W PyProof.Rows
def pw (lt:Nat->Nat->Bool)(n:Nat):KasT α->(α->Prop)->Prop
 | .ret a,Q=>Q a
 | .ask i j k,Q=>i<n/\j<n/\pw lt n (k (lt i j)) Q
section
variable {lt:Nat->Nat->Bool}{n:Nat}
theorem oX {α β:Type}{f:α->KasT β}{Q:β->Prop}:∀ {t:KasT α},pw lt n t (fun a=>pw lt n (f a) Q)->pw lt n (t.bind f) Q
 | .ret _,h=>h
 | .ask _ _ _,⟨h1,h2,h3⟩=>⟨h1,h2,oX h3⟩
theorem gD {α:Type}{Q Q':α->Prop}(hq:∀ a,Q a->Q' a):∀ {t:KasT α},pw lt n t Q->pw lt n t Q'
 | .ret _,h=>hq _ h
 | .ask _ _ _,⟨h1,h2,h3⟩=>⟨h1,h2,gD hq h3⟩
theorem aQr {α:Type}{cmp:Nat->Nat->(Bool->Shared->Prop)->Shared->Prop}{I:Shared->Prop}(hc:∀ i j C s,i<n->j<n->I s->(∀ s',I s'->C (lt i j) s')->cmp i j C s){R:α->Prop}{Q:α->Shared->Prop}(hq:∀ a s,R a->I s->Q a s) :
 ∀ {t:KasT α} {s:Shared},pw lt n t R->I s->t.kasWp cmp Q s
 | .ret _,_,h,i=>hq _ _ h i
 | .ask _ _ _,_,⟨h1,h2,h3⟩,i=>hc _ _ _ _ h1 h2 i fun s' i'=>aQr hc hq h3 i'
def at' (p:Array Nat)(k:Nat):Nat:=p.getD k 0
def Le (lt:Nat->Nat->Bool)(a b:Nat):Prop:=lt b a=false
structure Ord (lt:Nat->Nat->Bool):Prop where
 tr:∀ {a b c},Le lt a b->Le lt b c->Le lt a c
 tot:∀ {a b},lt a b=true->Le lt a b
theorem Ord.refl (o:Ord lt)(a:Nat):Le lt a a:=by
 cases h:lt a a with
 | false=>exact h
 | true=>exact o.tot h
def Inv (n:Nat)(p:Array Nat):Prop:=p.Perm (Ao n).toArray
theorem Inv.size {p:Array Nat}(h:Inv n p):p.size=n:=by simpa using h.size_eq
theorem Inv.bd {p:Array Nat}(h:Inv n p){k:Nat}(hk:k<n):at' p k<n:=by
 have hk':k<p.size:=by rw[h.size];exact hk
 have:p[k]∈(Ao n).toArray:=h.mem_iff.mp (Array.getElem_mem hk')
 unfold at';simpa[Array.getD,hk'] using this
theorem nN {p:Array Nat}{i j:Nat}(hj:j<=p.size)(k:Nat):at' (kas_rev p i j) k=if i<=k/\k<j then at' p (i+j-1-k) else at' p k:=by
 have e:=getElem?_mirror_all (xs:=p) (i:=i) hj k;have g:∀ (q:Array Nat) (j:Nat),at' q j=(q[j]?).getD 0:=fun q j=>Array.getD_eq_getD_getElem? ..;rw[g,g,g,kas_rev,e];split<;>rfl
theorem aJu {p:Array Nat}{s d:Nat}(hs:s<p.size)(hd:d<=s)(k:Nat):at' (bubble p s d) k=if k=s-d then at' p s else if s-d<k/\k<=s then at' p (k-1) else at' p k:=by
 have e:=(getElem?_bubble hs d hd k);have g:∀ (q:Array Nat) (j:Nat),at' q j=(q[j]?).getD 0:=fun q j=>Array.getD_eq_getD_getElem? ..;rw[g,g,g,g,e];split
 · rfl
 · split<;>rfl
theorem Inv.rev {p:Array Nat}(h:Inv n p)(i j:Nat):Inv n (kas_rev p i j):=(mirror_perm _ _ _ _).trans h
theorem Inv.bub {p:Array Nat}(h:Inv n p)(i j:Nat):Inv n (bubble p i j):=(bubble_perm _ _ _).trans h
def Up (lt:Nat->Nat->Bool)(p:Array Nat)(m:Nat):Prop:=∀ i j,i<=j->j<m->Le lt (at' p i) (at' p j)
def Dn (lt:Nat->Nat->Bool)(p:Array Nat)(m:Nat):Prop:=∀ i j,i<=j->j<m->Le lt (at' p j) (at' p i)
theorem Up.step (o:Ord lt){p:Array Nat}{m:Nat}(h:Up lt p m)(hm:1<=m)(e:Le lt (at' p (m-1)) (at' p m)):Up lt p (m+1):=fun i j hij hj=>by
 by_cases h1:j<m
 · exact h i j hij h1
 · have:j=m:=by omega
   subst this;by_cases h2:i=j
   · subst h2;exact o.refl _
   · exact o.tr (h i (j-1) (by omega) (by omega)) e
theorem Dn.step (o:Ord lt){p:Array Nat}{m:Nat}(h:Dn lt p m)(hm:1<=m)(e:Le lt (at' p m) (at' p (m-1))):Dn lt p (m+1):=fun i j hij hj=>by
 by_cases h1:j<m
 · exact h i j hij h1
 · have:j=m:=by omega
   subst this;by_cases h2:i=j
   · subst h2;exact o.refl _
   · exact o.tr e (h i (j-1) (by omega) (by omega))
theorem aDu (o:Ord lt){p:Array Nat}(ip:Inv n p):∀ (f a:Nat),1<=a->a+f<=n->Up lt p a->pw lt n (kas_asc p f a) fun m=>a<=m/\m<=a+f/\Up lt p m/\(m=a+f\/lt (at' p m) (at' p (m-1))=true)
 | 0,a,h1,h2,u=>⟨Af _,Af _,u,.inl rfl⟩
 | f+1,a,h1,h2,u=>by
  refine⟨ip.bd (by omega),ip.bd (by omega),?_⟩
  cases c:lt (p.getD a 0) (p.getD (a-1) 0) with
  | true=>exact⟨Af _,by omega,u,.inr c⟩
  | false =>
   refine gD ?_ (aDu o ip f (a+1) (by omega) (by omega) (u.step o h1 c))
   rintro m ⟨q1,q2,q3,q4⟩
   exact⟨by omega,by omega,q3,q4.imp (fun z=>by omega) id⟩
def Eqs (lt:Nat->Nat->Bool)(p:Array Nat)(m q:Nat):Prop:=∀ i j,m-(q+1)<=i->i<m->m-(q+1)<=j->j<m->Le lt (at' p i) (at' p j)
theorem Dn.rev (o:Ord lt){p:Array Nat}{m q:Nat}(h:Dn lt p m)(e:Eqs lt p m q)(hm:m<=p.size):Dn lt (kas_rev p (m-(q+1)) m) m:=fun i j hij hj=>by
 rw[nN hm,nN hm];split
 · split
   · exact e _ _ (by omega) (by omega) (by omega) (by omega)
   · exact h _ _ (by omega) (by omega)
 · split
   · omega
   · exact h _ _ hij hj
theorem uB (o:Ord lt):∀ (f:Nat) (p:Array Nat) (m q:Nat),Inv n p->1<=m->q+1<=m->m+f<=n->Dn lt p m->Eqs lt p m q->pw lt n (kas_desc f p m q) fun r=>Inv n r.1/\m<=r.2.1/\r.2.1<=m+f/\Dn lt r.1 r.2.1/\r.2.2+1<=r.2.1/\Eqs lt r.1 r.2.1 r.2.2
 | 0,p,m,q,ip,h1,h2,h3,d,e=>⟨ip,Af _,Af _,d,h2,e⟩
 | f+1,p,m,q,ip,h1,h2,h3,d,e=>by
  have one:∀ p':Array Nat,Eqs lt p' (m+1) 0:=fun p' i j a1 a2 a3 a4=>by
   have:i=j:=by omega
   subst this;exact o.refl _
  refine⟨ip.bd (by omega),ip.bd (by omega),?_⟩
  cases c:lt (p.getD m 0) (p.getD (m-1) 0) with
  | true =>
   simp only[if_true];have cc:Le lt (at' p m) (at' p (m-1)):=o.tot c;by_cases hq:q>0
   · rw[if_pos hq]
     refine gD ?_ (uB o f (kas_rev p (m-(q+1)) m) (m+1) 0 (ip.rev _ _) (by omega) (by omega) (by omega) ?_ (one _))
     · rintro r ⟨q1,q2,q3,q4⟩
       exact⟨q1,by omega,by omega,q4⟩
     · refine(d.rev o e (by rw[ip.size];omega)).step o h1 ?_
       rw[nN (by rw[ip.size];omega),nN (by rw[ip.size];omega),if_neg (by omega),if_pos (by omega)]
       exact o.tr cc (e _ _ (by omega) (by omega) (by omega) (by omega))
   · rw[if_neg hq]
     refine gD ?_ (uB o f p (m+1) 0 ip (by omega) (by omega) (by omega) (d.step o h1 cc) (one _))
     rintro r ⟨q1,q2,q3,q4⟩
     exact⟨q1,by omega,by omega,q4⟩
  | false =>
   have c1:Le lt (at' p (m-1)) (at' p m):=c;simp only[if_false,Bo];refine⟨ip.bd (by omega),ip.bd (by omega),?_⟩
   cases c':lt (p.getD (m-1) 0) (p.getD m 0) with
   | true=>exact⟨ip,Af _,Da _ _,d,h2,e⟩
   | false =>
    have c2:Le lt (at' p m) (at' p (m-1)):=c';simp only[if_false,Bo];refine gD ?_ (uB o f p (m+1) (q+1) ip (by omega) (by omega) (by omega) (d.step o h1 c2) ?_)
    · rintro r ⟨q1,q2,q3,q4⟩
      exact⟨q1,by omega,by omega,q4⟩
    · intro i j a1 a2 a3 a4
      by_cases hi:i=m
      · by_cases hj:j=m
        · rw[hi,hj];exact o.refl _
        · rw[hi];exact o.tr c2 (e _ _ (by omega) (by omega) (by omega) (by omega))
      · by_cases hj:j=m
        · rw[hj];exact o.tr (e _ (m-1) (by omega) (by omega) (by omega) (by omega)) c1
        · exact e _ _ (by omega) (by omega) (by omega) (by omega)
def Cnt (lt:Nat->Nat->Bool)(n:Nat)(r:Nat×Array Nat):Prop:=Inv n r.2/\1<=r.1/\r.1<=n/\Up lt r.2 r.1
theorem aGf (o:Ord lt){p:Array Nat}{m:Nat}(ip:Inv n p)(h1:1<=m)(h2:m<=n)(d:Dn lt p m):pw lt n (kas_tail3 m n p) (Cnt lt n):=by
 refine oX (gD ?_ (aDu o (ip.rev 0 m) (n-m) m h1 (by omega) fun i j hij hj=>?_))
 · rintro a ⟨q1,q2,q3,_⟩
   exact⟨ip.rev 0 m,by omega,by omega,q3⟩
 · rw[nN (by rw[ip.size];omega),nN (by rw[ip.size];omega),if_pos (by omega),if_pos (by omega)]
   exact d _ _ (by omega) (by omega)
theorem sT (o:Ord lt){p:Array Nat}{m:Nat}(ip:Inv n p)(h1:1<=m)(h2:m+1<=n)(d:Dn lt p (m+1)):pw lt n (kas_descPart m n p) (Cnt lt n):=by
 refine oX (gD ?_ (uB o (n-(m+1)) p (m+1) 0 ip (by omega) (by omega) (by omega) d fun i j a1 a2 a3 a4=>?_))
 · rintro⟨p',m',q'⟩ ⟨q1,q2,q3,q4,q5,q6⟩
   dsimp only at q1 q2 q3 q4 q5 q6 ⊢
   split
   · exact aGf o (q1.rev _ _) (by omega) (by omega) (q4.rev o q6 (by rw[q1.size];omega))
   · exact aGf o q1 (by omega) (by omega) q4
 · have:i=j:=by omega
   subst this;exact o.refl _
theorem aLk (o:Ord lt){p:Array Nat}(ip:Inv n p)(hn:1<=n):pw lt n (kas_count n p) (Cnt lt n):=by
 refine oX (gD ?_ (aDu o ip (n-1) 1 (Af _) (by omega) fun i j hij hj=>?_))
 · rintro m ⟨q1,q2,q3,q4⟩
   by_cases hm:m=n
   · rw[if_pos (by simpa using hm)]
     exact⟨ip,q1,by omega,q3⟩
   · rw[if_neg (by simpa using hm)]
     have c:Le lt (at' p m) (at' p (m-1)):=by
      rcases q4 with z | z
      · omega
      · exact o.tot z
     by_cases h1:m>1
     · rw[if_pos h1]
       refine⟨ip.bd (by omega),ip.bd (by omega),?_⟩
       cases e:lt (p.getD 0 0) (p.getD (m-1) 0) with
       | true=>exact⟨ip,q1,by omega,q3⟩
       | false =>
        simp only[if_false,Bo];have e':Le lt (at' p (m-1)) (at' p 0):=e;have all:∀ i j,i<m->j<m->Le lt (at' p i) (at' p j):=fun i j hi hj=>o.tr (q3 i (m-1) (by omega) (by omega)) (o.tr e' (q3 0 j (Cc _) hj))
        refine sT o (ip.rev 0 m) q1 (by omega) fun i j hij hj=>?_
        have hs:m<=p.size:=by rw[ip.size];omega
        rw[nN hs,nN hs];by_cases hj':j<m
        · rw[if_pos (by omega),if_pos (by omega)]
          exact all _ _ (by omega) (by omega)
        · rw[if_neg (by omega)]
          by_cases hi':i<m
          · rw[if_pos (by omega)]
            have:j=m:=by omega
            subst this;exact o.tr c (all _ _ (by omega) (by omega))
          · rw[if_neg (by omega)]
            have:i=j:=by omega
            subst this;exact o.refl _
     · rw[if_neg h1]
       have:m=1:=by omega
       subst this;refine sT o ip q1 (by omega) fun i j hij hj=>?_
       by_cases h:i=j
       · subst h;exact o.refl _
       · have:i=0/\j=1:=by omega
         rw[this.1,this.2];exact c
 · have:i=j:=by omega
   subst this;exact o.refl _
theorem wK (o:Ord lt){p:Array Nat}{k:Nat}(ip:Inv n p)(hk:k<n)(u:Up lt p k):∀ (f l r:Nat),r<=l+f->r<=k->l<=k->(∀ i,i<l->Le lt (at' p i) (at' p k))->(∀ i,r<=i->i<k->Le lt (at' p k) (at' p i)) ->
 pw lt n (kas_place p k f l r) fun m=>m<=k/\(∀ i,i<m->Le lt (at' p i) (at' p k))/\∀ i,m<=i->i<k->Le lt (at' p k) (at' p i)
 | 0,l,r,h1,h2,h3,h4,h5=>⟨h3,h4,fun i a b=>h5 i (by omega) b⟩
 | f+1,l,r,h1,h2,h3,h4,h5=>by
  unfold kas_place;split
  · exact⟨h3,h4,fun i a b=>h5 i (by omega) b⟩
  · rename_i hlr
    refine⟨ip.bd hk,ip.bd (by omega),?_⟩
    cases c:lt (p.getD k 0) (p.getD ((l+r)/2) 0) with
    | true =>
     simp only[if_true];have cc:Le lt (at' p k) (at' p ((l+r)/2)):=o.tot c;exact wK o ip hk u f l ((l+r)/2) (by omega) (by omega) h3 h4 fun i a b=>o.tr cc (u _ _ a b)
    | false =>
     simp only[if_false,Bo];have cc:Le lt (at' p ((l+r)/2)) (at' p k):=c;exact wK o ip hk u f ((l+r)/2+1) r (by omega) h2 (by omega) (fun i a=>o.tr (u i ((l+r)/2) (by omega) (by omega)) cc) h5
theorem aLt (o:Ord lt):∀ (f:Nat) (p:Array Nat) (k:Nat),Inv n p->k+f<=n->Up lt p k->pw lt n (kas_bin f p k) fun p'=>Inv n p'/\Up lt p' (k+f)
 | 0,p,k,ip,h,u=>⟨ip,u⟩
 | f+1,p,k,ip,h,u=>by
  refine oX (gD ?_ (wK o ip (by omega) u k 0 k (by omega) (Af _) (Cc _) (fun i z=>absurd z (Gs _)) fun i a b=>by omega))
  rintro m ⟨q1,q2,q3⟩
  refine gD ?_ (aLt o f (bubble p k (k-m)) (k+1) (ip.bub _ _) (by omega) fun i j hij hj=>?_)
  · rintro p' ⟨w1,w2⟩
    exact⟨w1,by rw[show k+(f+1)=k+1+f by omega];exact w2⟩
  · have hs:k<p.size:=by rw[ip.size];omega
    rw[aJu hs (by omega),aJu hs (by omega)]
    by_cases i1:i=k-(k-m)
    · rw[if_pos i1]
      by_cases j1:j=k-(k-m)
      · rw[if_pos j1];exact o.refl _
      · rw[if_neg j1,if_pos (by omega)]
        exact q3 _ (by omega) (by omega)
    · rw[if_neg i1]
      by_cases j1:j=k-(k-m)
      · rw[if_pos j1,if_neg (by omega)]
        exact q2 _ (by omega)
      · rw[if_neg j1]
        by_cases i2:k-(k-m)<i/\i<=k
        · rw[if_pos i2,if_pos (by omega)]
          exact u _ _ (by omega) (by omega)
        · rw[if_neg i2]
          by_cases j2:k-(k-m)<j/\j<=k
          · rw[if_pos j2];exact u _ _ (by omega) (by omega)
          · rw[if_neg j2];exact u _ _ (by omega) (by omega)
theorem aN6 (o:Ord lt)(hn:1<=n):pw lt n (kas_sort n) fun p=>Inv n p/\Up lt p n:=by
 refine oX (gD ?_ (aLk o (show Inv n (Ao n).toArray from Array.Perm.refl _) hn))
 rintro⟨m,p⟩ ⟨q1,q2,q3,q4⟩
 dsimp only at q1 q2 q3 q4 ⊢
 split
 · refine gD ?_ (aLt o (n-max m 1) p (max m 1) q1 (by omega) ?_)
   · rintro p' ⟨w1,w2⟩
     exact⟨w1,by rw[show n=max m 1+(n-max m 1) by omega];exact w2⟩
   · rw[show max m 1=m by omega];exact q4
 · exact⟨q1,by rw[show n=m by omega];exact q4⟩
end
end Srt
namespace Srt
open PySem PySem.W PyProof.Rows
def oA (t s:Shared):Prop:=∃ tk,s={ t with toks:=tk }
theorem oA.refl (t:Shared):oA t t:=⟨t.toks,rfl⟩
section
variable {prog:Program}{w:World}{A:Around}{E:Value->Shared->Prop}{s:Shared}{lt:Nat->Nat->Bool}
def pC (prog:Program)(w:World)(A:Around)(lt:Nat->Nat->Bool)(vs:List Value)(κ:SortKind)(t:Shared):Prop :=
 ∀ i j C s1,i<vs.length->j<vs.length->oA t s1->(∀ s2,oA t s2->C (lt i j) s2)->kas_ask prog w A κ vs i j C s1
theorem aIn (o:Ord lt){a:Addr}{vs:List Value}{n:Nat}{P:PySem.Fin->Shared->Prop}(at0:s.heap.get? a=some (seqObj "list" vs.toArray n))(few:vs.length<64)
 (ask:2<=vs.length->∀ t:Shared,(∀ b x,b≠a->s.heap.get? b=some x->t.heap.get? b=some x)->wpAny (model prog w) A (keyKind' vs.toArray) (fun κ t'=>oA t t'/\pC prog w A lt vs κ t) (fun _ _=>False) t)
 (fin:∀ (p:Array Nat) (h':Heap) (tk c:Nat),Inv vs.length p->Up lt p vs.length->(∀ b x,b≠a->s.heap.get? b=some x->h'.get? b=some x)->h'.get? a=some (seqObj "list" (Gb (p.toList.map fun i=>vs.getD i Value.none)) c)->P (.done (.ret .none)) { s with heap:=h',toks:=tk }) :
 wpAny (model prog w) A (Builtin.«list.sort» (⟨[.ref a],[]⟩)) P E s:=by
 have lts:a<s.heap.objs.size:=Ae at0;have line:vs.length<=sizeLine:=by rw[sizeLine_eq];omega
 rw[list_sort_plain];refine wpAny_bind (listItems_at at0 rfl ?_)
 refine wpAny_bind (listUpdate_at at0 rfl ?_ (by rw[Am];exact line) (Cc _))
 generalize hU:s.heap.update a (Obj.mapSeq fun _=>(#[]:Array Value))=U
 have sb:Heap.SameBut a s.heap U:=hU▸Heap.SameBut.update s.heap a _;obtain⟨ep,atU⟩:∃ ep,U.get? a=some (seqObj "list" #[] ep):=⟨_,hU▸get?_update_seq at0 fun _=>#[]⟩;refine wpAny_bind (seqEpoch_at atU rfl ?_)
 refine wpAny_bind (wpAny_newTuple ?_ line)
 refine wpAny_bind (wpAny_newList (wpAny_holding ?_) (Cc _))
 generalize hV:(U.push (seqObj "tuple" vs.toArray 0)).push (seqObj "list" #[] 0)=Vh
 have up:∀ b x,U.get? b=some x->Vh.get? b=some x:=fun b x q=>hV▸Aa _ (Aa _ q);have kp:∀ b x,b≠a->s.heap.get? b=some x->Vh.get? b=some x:=fun b x nb q=>up b x ((sb.2 b nb).trans q);show wpAny (model prog w) A _ P E { s with heap:=Vh }
 dsimp only
 have size:∀ (p:Array Nat) (out:Array Value),out=Gb (p.toList.map fun i=>vs.getD i Value.none)->Inv vs.length p->out.size<=sizeLine+1:=fun p out ho ip=>by
  rw[ho,Am,Ac,Array.length_toList,ip.size];exact Nat.le_succ_of_le line
 have last:∀ (p:Array Nat) (tk:Nat) (out:Array Value),out=Gb (p.toList.map fun i=>vs.getD i Value.none)->Inv vs.length p->Up lt p vs.length->P (.done (.ret .none)) { s with heap:=Vh.update a (Obj.mapSeq fun _=>out),toks:=tk }:=fun p tk out ho ip u=>by
  have sv:=Heap.SameBut.update Vh a (Obj.mapSeq fun _=>out);obtain⟨c,atc⟩:∃ c,(Vh.update a (Obj.mapSeq fun _=>out)).get? a=some (seqObj "list" out c):=⟨_,get?_update_seq (up _ _ atU) fun _=>out⟩;exact fin p _ tk c ip u (fun b x nb q=>(sv.2 b nb).trans (kp b x nb q)) (by rw[←ho];exact atc)
 by_cases two:vs.toArray.size<2
 · rw[if_pos two,if_pos two]
   have tw:vs.length<2:=by simpa using two
   refine wpAny_bind (wpAny_pure ?_)
   rw[StateT.run_pure];refine wpAny_bind (wpAny_pure ?_)
   have ident:(arrOf (SortSt.mk' general' (vs.toArray.zip vs.toArray) #[] 7 none)).map (·.2)=Gb ((Ao vs.length).toArray.toList.map fun i=>vs.getD i Value.none):=by
    show (vs.toArray.zip vs.toArray).map (·.2)=_
    match vs,tw with
    | [],_=>simp
    | [v],_=>simp
   have alone:Up lt (Ao vs.length).toArray vs.length:=fun i j hij hj=>by
    have:i=j:=by omega
    subst this;exact o.refl _
   dsimp only
   refine wpAny_bind (seqEpoch_at (up _ _ atU) rfl (wpAny_bind (listUpdate_at (up _ _ atU) rfl ?_ (Cc _) (size (Ao vs.length).toArray _ ident (show Inv vs.length (Ao vs.length).toArray from Array.Perm.refl _)))))
   simp only[if_false,Bo,bne_self_eq_false];exact wpAny_pure (last (Ao vs.length).toArray s.toks _ ident (show Inv vs.length (Ao vs.length).toArray from Array.Perm.refl _) alone)
 · rw[if_neg two,if_neg two]
   have tw:2<=vs.length:=by simpa using two
   refine wpAny_bind (wpAny_mono (ask tw { s with heap:=Vh } kp) (fun κ t' ⟨lk,an⟩=>?_) fun _ _ z=>z.elim)
   obtain⟨tk0,e0⟩:=lk;subst e0
   refine wpAny_bind (wpAny_mono (kat_run (ks:=vs) (vs:=vs) (κ:=κ) (Q:=fun st' s'=>∃ p:Array Nat,arrOf st'=p.map (kas_item (vs.toArray.zip vs.toArray))/\failedOf st'=none/\(Inv vs.length p/\Up lt p vs.length)/\oA { s with heap:=Vh } s')
    (G:=fun p s'=>(Inv vs.length p/\Up lt p vs.length)/\oA { s with heap:=Vh } s') rfl tw few (fun p st' s' _ a2 a3 a4=>⟨p,a2,a3,a4.1,a4.2⟩) (aQr (I:=oA { s with heap:=Vh }) (fun i j C s1 hi hj l q=>an i j C s1 hi hj l q) (fun p s1 r l=>⟨r,l⟩) (aN6 o (by omega)) ⟨tk0,rfl⟩)) ?_ fun _ _ z=>z)
   rintro⟨⟨⟩,st'⟩ s' ⟨p,ar,fl,⟨ip,u⟩,tk1,e1⟩
   subst e1;dsimp only
   refine wpAny_bind (seqEpoch_at (up _ _ atU) rfl (wpAny_bind (listUpdate_at (up _ _ atU) rfl ?_ (Cc _) (size p _ (kat_snds rfl ar) ip))))
   rw[fl];simp only[if_false,Bo,bne_self_eq_false];exact wpAny_pure (last p tk1 _ (kat_snds rfl ar) ip u)
end
end Srt
namespace Srt
open PySem PySem.W PyProof.Rows
abbrev lx:=HT.lT
theorem aJl:∀ a:List Int,lx a a=false
 | []=>rfl
 | x :: a=>by show (if x=x then lx a a else _)=false;rw[if_pos rfl];exact aJl a
theorem aEp:∀ {a b:List Int},lx a b=true->lx b a=false
 | [],[],_=>rfl
 | [],_ :: _,_=>rfl
 | _ :: _,[],h=>by cases h
 | x :: a,y :: b,h=>by
  have h':(if x=y then lx a b else decide (x<y))=true:=h
  show (if y=x then lx b a else decide (y<x))=false
  by_cases e:x=y
  · rw[if_pos e]at h';rw[if_pos e.symm];exact aEp h'
  · rw[if_neg e]at h';rw[if_neg (Ne.symm e)]
    have:=of_decide_eq_true h'
    exact decide_eq_false (by omega)
theorem aD8:∀ {a b:List Int},lx a b=false->lx b a=false->a=b
 | [],[],_,_=>rfl
 | [],(_ :: _),h,_=>(by cases h)
 | (_ :: _),[],_,h=>(by cases h)
 | x :: a,y :: b,h,g=>by
  have h':(if x=y then lx a b else decide (x<y))=false:=h
  have g':(if y=x then lx b a else decide (y<x))=false:=g
  by_cases e:x=y
  · rw[if_pos e]at h';rw[if_pos e.symm]at g';rw[e,aD8 h' g']
  · rw[if_neg e]at h';rw[if_neg (Ne.symm e)]at g'
    have u:=of_decide_eq_false h';have v:=of_decide_eq_false g';omega
theorem aDn:∀ {a b c:List Int},lx a b=true->lx b c=true->lx a c=true
 | [],[],_,h,_=>by cases h
 | [],_ :: _,[],_,g=>by cases g
 | [],(_ :: _),(_ :: _),_,_=>rfl
 | (_ :: _),[],_,h,_=>(by cases h)
 | _ :: _,_ :: _,[],_,g=>by cases g
 | x :: a,y :: b,z :: c,h,g=>by
  have h':(if x=y then lx a b else decide (x<y))=true:=h
  have g':(if y=z then lx b c else decide (y<z))=true:=g
  show (if x=z then lx a c else decide (x<z))=true
  by_cases e:x=y
  · rw[if_pos e]at h'
    by_cases f:y=z
    · rw[if_pos f]at g';rw[if_pos (e.trans f)];exact aDn h' g'
    · rw[if_neg f]at g';rw[if_neg (by omega)];have:=of_decide_eq_true g';exact decide_eq_true (by omega)
  · rw[if_neg e]at h'
    have u:=of_decide_eq_true h';by_cases f:y=z
    · rw[if_neg (by omega)];exact decide_eq_true (by omega)
    · rw[if_neg f]at g';have v:=of_decide_eq_true g';rw[if_neg (by omega)];exact decide_eq_true (by omega)
theorem aTt {α:Type}{r:α->α->Bool}(key:Nat->α)(asy:∀ {a b},r a b=true->r b a=false)(tri:∀ {a b},r a b=false->r b a=false->a=b)(trs:∀ {a b c},r a b=true->r b c=true->r a c=true):Ord fun i j=>r (key i) (key j):=by
 refine⟨fun {a b c} h g=>?_,fun h=>asy h⟩
 have h':r (key b) (key a)=false:=h;have g':r (key c) (key b)=false:=g;show r (key c) (key a)=false
 cases q:r (key c) (key a) with
 | false=>rfl
 | true =>
  cases ab:r (key a) (key b) with
  | true=>have:=trs q ab;rw[g']at this;cases this
  | false=>rw[tri ab h']at q;rw[g']at q;cases q
def px (a b:List Int×Int):Bool:=if a.1=b.1 then decide (a.2<b.2) else lx a.1 b.1
theorem aS6 {a b:List Int×Int}(h:px a b=true):px b a=false:=by
 unfold px at h ⊢;by_cases e:a.1=b.1
 · rw[if_pos e]at h;rw[if_pos e.symm];have:=of_decide_eq_true h;exact decide_eq_false (by omega)
 · rw[if_neg e]at h;rw[if_neg (Ne.symm e)];exact aEp h
theorem aRs {a b:List Int×Int}(h:px a b=false)(g:px b a=false):a=b:=by
 unfold px at h g;by_cases e:a.1=b.1
 · rw[if_pos e]at h;rw[if_pos e.symm]at g
   have u:=of_decide_eq_false h;have v:=of_decide_eq_false g;exact Prod.ext e (by omega)
 · rw[if_neg e]at h;rw[if_neg (Ne.symm e)]at g;exact absurd (aD8 h g) e
theorem aRt {a b c:List Int×Int}(h:px a b=true)(g:px b c=true):px a c=true:=by
 unfold px at h g ⊢;by_cases e:a.1=b.1
 · rw[if_pos e]at h
   by_cases f:b.1=c.1
   · rw[if_pos f]at g;rw[if_pos (e.trans f)]
     have u:=of_decide_eq_true h;have v:=of_decide_eq_true g;exact(decide_eq_true (by omega))
   · rw[if_neg f]at g;rw[if_neg (by rw[e];exact f),e];exact g
 · rw[if_neg e]at h
   by_cases f:b.1=c.1
   · rw[if_neg (by rw[←f];exact e),←f];exact h
   · rw[if_neg f]at g
     have t:=aDn h g;rw[if_neg (fun z=>by rw[z,aJl]at t;cases t)];exact t
section
variable {prog:Program}{w:World}{A:Around}{E:Value->Shared->Prop}{s:Shared}
theorem aCz {b:Bool}{Q:Bool->Shared->Prop}:∀ (xs ys:List Value) (ms ns:List Int) (i:Nat),IntsAre xs ms->IntsAre ys ns->Q (lx ms ns) s->KatLex prog w A b (decide (xs.length<ys.length)) Q (xs.zip ys) i s
 | [],[],_,_,_,.nil,.nil,q=>q
 | [],_ :: _,_,_,_,.nil,.cons _ _ _,q=>q
 | _ :: _,[],_,_,_,.cons _ _ _,.nil,q=>q
 | _ :: xs,_ :: ys,_,_,i,.cons m t hm,.cons n u hn,q=>by
  have e:decide ((Value.int m t :: xs).length<(Value.int n u :: ys).length)=decide (xs.length<ys.length):=by simp
  rw[e];refine kat_cons (wpAny_eqBool_int ?_)
  rename_i ms' ns'
  have q':Q (if m=n then lx ms' ns' else decide (m<n)) s:=q
  by_cases z:m=n
  · rw[if_pos z]at q'
    rw[show (m==n)=true by simpa using z]
    exact kat_yes (aCz xs ys _ _ (i+1) hm hn q')
  · rw[if_neg z]at q'
    rw[show (m==n)=false by simpa using z]
    refine kat_no ?_
    cases hb:(b&&i==0) with
    | true=>exact oneLt_int q'
    | false=>exact kat_one _ _ (Fx q')
def qH (h:Heap)(vs:List Value)(ks:List (List Int)):Prop:=vs.length=ks.length/\∀ (i:Nat) (k:List Int),ks[i]?=some k->∃ a its,vs[i]?=some (.ref a)/\IsTup h a its/\IntsAre its.toList k
theorem qH.at_ {h:Heap}{vs:List Value}{ks:List (List Int)}(t:qH h vs ks){i:Nat}(hi:i<vs.length):∃ a its,vs.getD i Value.none=.ref a/\IsTup h a its/\IntsAre its.toList (ks.getD i []):=by
 have hk:i<ks.length:=by rw[←t.1];exact hi
 obtain⟨a,its,h1,h2,h3⟩:=t.2 i ks[i] (Aj hk);refine⟨a,its,by rw[Al,h1];rfl,h2,?_⟩
 rw[Al,Aj hk];exact h3
theorem zH {h:Heap}:∀ {vs:List Value} {ks:List (List Int)},qH h vs ks->(∀ k∈ks,k≠[])->∃ fs,KatTups h vs fs/\fs.length=vs.length/\∀ v∈fs,∃ i t,v=Value.int i t
 | [],ks,t,_=>⟨[],.nil,rfl,fun _ z=>nomatch z⟩
 | v :: vs,[],t,_=>by have:=t.1;simp at this
 | v :: vs,k :: ks,t,ne=>by
  obtain⟨a,its,h1,⟨o,h2,h3,n,h4⟩,h5⟩:=t.2 0 k rfl;have e:v=.ref a:=by simpa using h1
  subst e
  obtain⟨fs,f1,f2,f3⟩:=zH (vs:=vs) (ks:=ks) ⟨by simpa using t.1,fun i q hq=>by
   obtain⟨a',its',u1,u2⟩:=t.2 (i+1) q (by simpa using hq)
   exact⟨a',its',by simpa using u1,u2⟩⟩ fun q hq=>ne q (Ad _ hq)
  obtain⟨f,tf,hf⟩:∃ f tf,its[0]?=some (Value.int f tf):=by
   have nk:=ne k Ab;cases k with
   | nil=>exact absurd rfl nk
   | cons x r =>
    generalize hl:its.toList=l at h5
    cases h5 with
    | @cons _ t' vs' _ hr=>exact⟨x,t',by rw[←Array.getElem?_toList,hl];rfl⟩
  exact⟨.int f tf :: fs,.cons h2 h3 h4 hf f1,by simp[f2],fun u hu=>by
   rcases An.mp hu with z | z
   · exact⟨f,tf,z⟩
   · exact f3 u z⟩
theorem yU {t s1:Shared}(l:oA t s1):s1.heap=t.heap:=by obtain⟨tk,rfl⟩:=l;rfl
theorem aMf {vs:List Value}{ks:List (List Int)}{t:Shared}(T:qH t.heap vs ks)(ne:∀ k∈ks,k≠[])(two:2<=vs.length) :
 wpAny (model prog w) A (keyKind' vs.toArray) (fun κ t'=>oA t t'/\pC prog w A (fun i j=>lx (ks.getD i []) (ks.getD j [])) vs κ t) (fun _ _=>False) t:=by
 obtain⟨fs,f1,f2,f3⟩:=zH T ne;refine kat_kind (T:=.type "int") f1 (by omega) (fun v hv=>?_) (by decide) ⟨oA.refl t,fun i j C s1 hi hj l q=>?_⟩
 · obtain⟨i,tk,rfl⟩:=f3 v hv
   exact Looks.of_pure rfl
 · obtain⟨a,its,e1,⟨o1,g1,c1,n1,d1⟩,i1⟩:=T.at_ hi
   obtain⟨b,jts,e2,⟨o2,g2,c2,n2,d2⟩,i2⟩:=T.at_ hj;unfold kas_ask;rw[e1,e2];have hp:=yU l;refine kat_lt (by rw[hp];exact g1) d1 (by rw[hp];exact g2) d2 ?_
   have:=aCz (prog:=prog) (w:=w) (A:=A) (s:=s1) (b:=(Value.type "int" != Value.type "tuple")) (Q:=C) its.toList jts.toList _ _ 0 i1 i2 (q s1 l)
   simpa using this
end
end Srt
namespace Srt
open PySem PySem.W PyProof.Rows
section
variable {prog:Program}{w:World}{A:Around}{E:Value->Shared->Prop}{s:Shared}{lt:Nat->Nat->Bool}
theorem aE9 {h:Heap}{a:Addr}{its:Array Value}{k:List Int}(t:IsTup h a its)(i:IntsAre its.toList k):IsTupleKey (PySem.intKind prog w) h k a:=by
 obtain⟨o,h1,h2,n,h3⟩:=t;refine⟨o,its,n,h1,h2,h3,?_⟩
 have go:∀ {vs:List Value} {ns:List Int},IntsAre vs ns->ItemsAre (PySem.intKind prog w) ns vs:=by
  intro vs ns r;induction r with
  | nil=>exact .nil
  | cons n t _ ih=>exact .cons (intKind_is _ _ _ _) ih
 exact go i
def oF (h:Heap)(vs:List Value)(ks:List (List Int×Int)):Prop:=vs.length=ks.length/\∀ (i:Nat) (k:List Int×Int),ks[i]?=some k->∃ p a its tz,vs[i]?=some (.ref p)/\IsTup h p #[.ref a,.int k.2 tz]/\IsTup h a its/\IntsAre its.toList k.1
theorem oF.at_ {h:Heap}{vs:List Value}{ks:List (List Int×Int)}(t:oF h vs ks){i:Nat}(hi:i<vs.length):∃ p a its tz,vs.getD i Value.none=.ref p/\IsTup h p #[.ref a,.int (ks.getD i ([],0)).2 tz]/\IsTup h a its/\IntsAre its.toList (ks.getD i ([],0)).1:=by
 have hk:i<ks.length:=by rw[←t.1];exact hi
 obtain⟨p,a,its,tz,h1,h2,h3,h4⟩:=t.2 i ks[i] (Aj hk);refine⟨p,a,its,tz,by rw[Al,h1];rfl,?_⟩
 rw[Al,Aj hk];exact⟨h2,h3,h4⟩
theorem sR {h:Heap}:∀ {vs:List Value} {ks:List (List Int×Int)},oF h vs ks->∃ fs,KatTups h vs fs/\fs.length=vs.length/\∀ v∈fs,∃ a its,v=Value.ref a/\IsTup h a its
 | [],ks,t=>⟨[],.nil,rfl,fun _ z=>nomatch z⟩
 | v :: vs,[],t=>by have:=t.1;simp at this
 | v :: vs,k :: ks,t=>by
  obtain⟨p,a,its,tz,h1,⟨o,h2,h3,n,h4⟩,h5,h6⟩:=t.2 0 k rfl;have e:v=.ref p:=by simpa using h1
  subst e
  obtain⟨fs,f1,f2,f3⟩:=sR (vs:=vs) (ks:=ks) ⟨by simpa using t.1,fun i q hq=>by
   obtain⟨p',a',its',tz',u1,u2⟩:=t.2 (i+1) q (by simpa using hq)
   exact⟨p',a',its',tz',by simpa using u1,u2⟩⟩
  exact⟨.ref a :: fs,.cons h2 h3 h4 rfl f1,by simp[f2],fun u hu=>by
   rcases An.mp hu with z | z
   · exact⟨a,its,z,h5⟩
   · exact f3 u z⟩
theorem aHm {vs:List Value}{ks:List (List Int×Int)}{t:Shared}(T:oF t.heap vs ks)(hu:A.units<cLine)(two:2<=vs.length) :
 wpAny (model prog w) A (keyKind' vs.toArray) (fun κ t'=>oA t t'/\pC prog w A (fun i j=>px (ks.getD i ([],0)) (ks.getD j ([],0))) vs κ t) (fun _ _=>False) t:=by
 obtain⟨fs,f1,f2,f3⟩:=sR T;refine kat_kind (T:=.type "tuple") f1 (by omega) (fun v hv=>?_) (by decide) ⟨oA.refl t,fun i j C s1 hi hj l q=>?_⟩
 · obtain⟨a,its,rfl,o,h1,h2,_⟩:=f3 v hv
   have lk:Looks (model prog w) t.heap (typeOf (.ref a)) o.cls:=(Looks.ld h1).andThen .now;rw[h2]at lk;exact lk
 · obtain⟨p1,a1,its1,tz1,e1,⟨o1,g1,c1,n1,d1⟩,T1,i1⟩:=T.at_ hi
   obtain⟨p2,a2,its2,tz2,e2,⟨o2,g2,c2,n2,d2⟩,T2,i2⟩:=T.at_ hj;unfold kas_ask;rw[e1,e2];have hp:=yU l;refine kat_lt (by rw[hp];exact g1) d1 (by rw[hp];exact g2) d2 ?_
   have qq:C (px (ks.getD i ([],0)) (ks.getD j ([],0))) s1:=q s1 l;generalize ks.getD i ([],0)=x at *
   generalize ks.getD j ([],0)=y at *
   have T1':IsTup s1.heap a1 its1:=by rw[hp];exact T1
   have T2':IsTup s1.heap a2 its2:=by rw[hp];exact T2
   show KatLex prog w A _ _ C [(.ref a1,.ref a2),(.int x.2 tz1,.int y.2 tz2)] 0 s1
   refine kat_cons (wpAny_eqBool_tuple hu (aE9 T1' i1) (aE9 T2' i2) ?_)
   unfold px at qq;by_cases z:x.1=y.1
   · rw[if_pos z]at qq
     rw[decide_eq_true z];refine kat_yes (kat_cons (wpAny_eqBool_int ?_))
     by_cases u:x.2=y.2
     · rw[show (x.2==y.2)=true by simpa using u]
       rw[decide_eq_false (by omega)]at qq
       exact kat_yes (kat_nil (by simpa using qq))
     · rw[show (x.2==y.2)=false by simpa using u]
       exact kat_no (kat_one _ _ (Fx qq))
   · rw[if_neg z]at qq
     rw[decide_eq_false z];exact kat_no (kat_one _ _ (HT.aD4 T1' T2' i1 i2 hu qq))
theorem aG7 (o:Ord lt){x:Value}{vs:List Value}{Q:Value->Shared->Prop}(few:vs.length<64)
 (col:wpAny (model prog w) A.in1 (collect x) (fun us s1=>us=vs/\∃ h1 tk,s1={ s with heap:=h1,toks:=tk }/\∀ b y,s.heap.get? b=some y->h1.get? b=some y) E s)
 (ask:2<=vs.length->∀ t:Shared,(∀ b y,s.heap.get? b=some y->t.heap.get? b=some y)->wpAny (model prog w) A.in1.in1 (keyKind' vs.toArray) (fun κ t'=>oA t t'/\pC prog w A.in1.in1 lt vs κ t) (fun _ _=>False) t)
 (fin:∀ (p:Array Nat) (h':Heap) (tk c:Nat) (D:Addr),Inv vs.length p->Up lt p vs.length->(∀ b y,s.heap.get? b=some y->h'.get? b=some y)->s.heap.get? D=none->h'.get? D=some (seqObj "list" (Gb (p.toList.map fun i=>vs.getD i Value.none)) c)->Q (.ref D) { s with heap:=h',toks:=tk }) :
 wpAny (model prog w) A (call (.builtin "sorted") [x]) Q E s:=by
 refine Calls.call_function_entry kind_sorted plain_sorted entry_sorted (args_sorted1 _) (show wpAny (model prog w) A.in1 (Builtin.«sorted» ⟨[x],[]⟩) _ _ s from ?_)
 unfold Builtin.«sorted»;refine wpAny_bind (m:=checkCount "sorted" 1 1 _) (wpAny_pure (wpAny_bind (wpAny_mono col (fun us s1 ⟨e,h1,tk1,e1,k1⟩=>?_) fun _ _ z=>z)))
 subst e e1;refine wpAny_bind (wpAny_newList ?_ (by rw[sizeLine_eq]<;>omega))
 have at1:(h1.push (seqObj "list" us.toArray 0)).get? h1.objs.size=some (seqObj "list" us.toArray 0):=Ag _ rfl;have k2:∀ b y,s.heap.get? b=some y->(h1.push (seqObj "list" us.toArray 0)).get? b=some y:=fun b y q=>Aa _ (k1 b y q);have nD:∀ b y,s.heap.get? b=some y->b≠h1.objs.size:=fun b y q z=>absurd (Ae (k1 b y q)) (by rw[z];exact Dv _)
 have gone:s.heap.get? h1.objs.size=none:=by
  cases q:s.heap.get? h1.objs.size with
  | none=>rfl
  | some y=>exact absurd rfl (nD _ y q)
 refine wpAny_bind (wpAny_holding (wpAny_call_entry slot_list_sort ⟨_,at1,rfl⟩ entry_list_sort (aIn (s:={ s with heap:=h1.push (seqObj "list" us.toArray 0),toks:=tk1 }) o at1 few (fun tw t kt=>ask tw t fun b y q=>kt b y (nD b y q) (k2 b y q)) fun p h' tk c ip u kh hD=>⟨_,rfl,?_⟩) (args_list_sort _)))
 exact wpAny_pure ⟨_,rfl,fin p h' tk c h1.objs.size ip u (fun b y q=>kh b y (nD b y q) (k2 b y q)) gone hD⟩
end
end Srt
namespace L2
open PySem PySem.Spec PyProof.Rows
def aCw (sc:Scope)(XN:List Str)(scope:Scope)(N:List Str)(k:Nat)(fs:List Nat):Bool :=
 scope.kind==.function&&decide (scope.names.map (·.1)).Nodup&&scope.names.all (fun y=>y.2 != .free||sc.names.contains (y.1,.cell)||sc.names.contains (y.1,.free))&&N.length==k+fs.length &&
  fs.zipIdx.all fun p=>match N[k+p.2]?,XN[p.1]? with
   | some x,some y=>decide (x=y)&&scope.names.lookup x==some .free&&(sc.names.lookup x==some .cell||sc.names.lookup x==some .free)
   | _,_=>false
theorem aAr {scope:Scope}{env:Env}{x:Str}:scope.names.lookup x=some .cell->(relabel scope env).names.lookup x=some .cell:=by
 unfold relabel;generalize scope.names=names
 induction names with
 | nil=>simp
 | cons y r ih =>
  obtain⟨n,kd⟩:=y;simp only[Ap];intro h;cases hx:x==n with
  | true =>
   simp only[hx,Bm]at h;cases h;simp[Bm,hx]
  | false =>
   simp only[hx,Bm]at h;have:=ih h
   split<;>simp only[Bm,hx]<;>exact this
theorem aH8 {X:Cx}{sc scope:Scope}{k0 k:Nat}{N0 N:List Str}{fs0 fs:List Nat}{fp:List Addr}{s:Shared}{H:Hp}(C0:CompOk X sc N0 k0 fs0)(h:aCw sc N0 scope N k fs=true):CompOk (dI X sc N0 fp s H) scope N k fs:=by
 unfold aCw at h;simp only[Dm]at h;obtain⟨⟨⟨⟨h1,h2⟩,h3⟩,h4⟩,h5⟩:=h;refine⟨by simpa using h1,of_decide_eq_true h2,fun y hy hf=>?_,by simpa using h4,fun j i e=>?_⟩
 · show y.1∈(cellsFrom (s.heap.objs.size+1) sc.names (lN X.env.cells sc.names [])).map (·.1)
   rw[cX,Bk,Bf];have:=Ev.mp h3 y hy
   rw[hf]at this;simp only[bne_self_eq_false,Bool.false_or,Gw,List.contains_iff_mem]at this;rcases this with q | q
   · exact .inl (kQ _ _ _ (Ak.mpr ⟨_,Ds.mpr ⟨q,rfl⟩,rfl⟩))
   · obtain⟨c,e⟩:=cL (C0.free _ q rfl)
     exact .inr (Ak.mpr ⟨_,qJ sc.names [] (.inr ⟨q,e⟩),rfl⟩)
 · have hm:(i,j)∈fs.zipIdx:=Fw.mpr e
   have:=Ev.mp h5 (i,j) hm
   dsimp only at this
   split at this
   · rename_i x y e1 e2
     simp only[Cm,Gw,beq_iff_eq,decide_eq_true_eq]at this;obtain⟨⟨q1,q2⟩,q3⟩:=this;subst q1;refine⟨x,e1,e2,q2,?_⟩
     exact q3.elim (fun q=>.inl (aAr q)) qP
   · cases this
end L2
namespace Mir
open PySem L2
variable {X:Cx}{P:XP}{a b c e:Expr}{es:List Expr}{f g:FE}{fs:FEs}{pos p:Pos}
def asT:D->R (List D)
 | .tup ds=>.ok ds
 | _=>.stk
theorem nR {d:D}{i:List D}(h:asT d=.ok i):d=.tup i:=by cases d<;>simp[asT]at h;rw[h]
theorem uI {d:D}{x:Xc}(h:asT d=.exc x):False:=by cases d<;>simp[asT]at h
def iE (a:FE)(lo hi:FO):FE:=fun ρ=>do
 let x ← a ρ
 let l ← lo ρ
 let h ← hi ρ
 let ds ← asT x.d
 if HT.sIx ds.length 0 l=0/\HT.sIx ds.length ds.length h=ds.length then .stk else .ok ⟨.shr,x.fr,.tup (lG ds l h)⟩
theorem aD1 {lo hi:Option Expr}{fl fh:FO}{p2:Pos}(ha:PE X a (tE X.K P f))(hl:PO X lo (tO X.K P fl))(hh:PO X hi (tO X.K P fh)):PE X (.Subscript a (.Slice lo hi none p2) pos) (tE X.K P (iE f fl fh)):=by
 refine PE.imp (vC aJh ha hl hh) ?_
 rintro σ H Q ⟨H0,B,ρ,d,h⟩
 unfold iE at h;show tE X.K P f σ H fun x H1=>tO X.K P fl σ H1 fun l H2=>tO X.K P fh σ H2 fun u H3=>aT2 X.K x l u H3 Q
 cases e:f ρ with
 | stk=>simp[e]at h
 | exc x=>simp[e]at h;exact dP d e h
 | ok r =>
  simp only[e,R.ok_bind]at h;refine fD d e fun v H1 s1 d1 g1=>⟨H0,B,ρ,d1,?_⟩
  cases e1:fl ρ with
  | stk=>simp[e1]at h
  | exc x=>simp[e1]at h;exact P.mono h s1
  | ok l =>
   simp only[e1,R.ok_bind]at h;intro H2 s2;refine⟨H0,B,ρ,d1.mono s2,?_⟩
   cases e2:fh ρ with
   | stk=>simp[e2]at h
   | exc x=>simp[e2]at h;exact P.mono h (s1.trans s2)
   | ok u =>
    simp only[e2,R.ok_bind]at h;intro H3 s3;cases e3:asT r.d with
    | stk=>simp[e3]at h
    | exc x=>exact(uI e3).elim
    | ok ds =>
     simp only[e3,R.ok_bind]at h;obtain⟨a1,xs,h1,h2,h3⟩:=(g1.mono (s2.trans s3)).tuple (nR e3);have s:=(s1.trans s2).trans s3;have lx:=h3.length;by_cases hw:HT.sIx ds.length 0 l=0/\HT.sIx ds.length ds.length u=ds.length
     · rw[if_pos hw]at h;exact h.elim
     · rw[if_neg hw]at h
       refine⟨a1,xs,h1,.inl (.inl h2),by rw[←lx];exact hw,fun p hp=>h _ _ (s.trans (aL.upd_new hp)) ?_⟩
       have q:aJ X.K (bH r.fr H0 H3 B) (lG ds l u) (sA xs l u):=by
        unfold lG sA;rw[←lx];exact(h3.drop _).take _
       exact oP (d.mono s) hp q
end Mir
namespace Mir
open PySem L2
variable {X:Cx}{P:XP}{a b c e:Expr}{es:List Expr}{f g:FE}{fs:FEs}{pos p:Pos}
theorem aJ.erase {K:PySem.W.Frag}{G:Hp}:∀ {ds:List D} {vs:List V} (n:Nat),aJ K G ds vs->aJ K G (ds.eraseIdx n) (vs.eraseIdx n)
 | [],vs,n,h=>by rw[show vs=[] from h];rfl
 | d :: r,_,0,⟨x,xr,h1,h2,h3⟩=>by subst h1;exact h3
 | d :: r,_,n+1,⟨x,xr,h1,h2,h3⟩=>by subst h1;exact⟨x,_,rfl,h2,aJ.erase n h3⟩
def lR (j i:Nat)(k:FE):FS:=fun ρ=>(lW j ρ).at ρ fun y=>(lW i ρ).at ρ fun x=>(k ρ).at ρ fun kr=>(asI kr.d).at ρ fun n =>
 match seqIndex? n x.2.length with
 | some m=>(match x.2[m]? with
  | some d=>if j≠i/\y.2.length<sizeLine/\-(2^63)<=n/\n<2^63 then .nx ((ρ.set i (some ⟨.own,x.1,.lst (x.2.eraseIdx m)⟩)).set j (some ⟨.own,y.1&&x.1,.lst (y.2++[d])⟩)) else .stk
  | none=>.stk)
 | none=>.stk
theorem aCt {j i:Nat}{y x:Str}{k:Expr}{p1 p2 a1 a2 c1 c2:Pos}(hj:X.N[j]?=some y)(hi:X.N[i]?=some x)(vy:Vis X.env.scope y)(vx:Vis X.env.scope x)(hk:PE X k (tE X.K P f))
 (d1:(y==("__debug__":Str))=false:=by decide) (d2:(y==("__classdict__":Str))=false:=by decide) (d3:(x==("__debug__":Str))=false:=by decide) (d4:(x==("__classdict__":Str))=false:=by decide)
 (h1:starEach [k] X.env=[(false,eval k X.env)]:=by rfl) (h2:starEach [.Call (.Attribute (.Name x p2) "pop" a2) [k] [] c2] X.env=[(false,eval (.Call (.Attribute (.Name x p2) "pop" a2) [k] [] c2) X.env)]:=by rfl)
 (b1:attributeBase (.Name y p1) "append" X.env (eval (.Name y p1) X.env)=eval (.Name y p1) X.env:=by rfl) (b2:attributeBase (.Name x p2) "pop" X.env (eval (.Name x p2) X.env)=eval (.Name x p2) X.env:=by rfl)
 (w1:((backTo c1 (starEach [.Call (.Attribute (.Name x p2) "pop" a2) [k] [] c2] X.env)).all (fun x=>!x.1)&&(backToKw c1 (keywordEach [] X.env)).all (fun x=>x.1.isSome)&&decide (1+([]:List Keyword).length+(if ([]:List Keyword).isEmpty then 0 else 1)<30))=true:=by rfl)
 (w2:((backTo c2 (starEach [k] X.env)).all (fun x=>!x.1)&&(backToKw c2 (keywordEach [] X.env)).all (fun x=>x.1.isSome)&&decide (1+([]:List Keyword).length+(if ([]:List Keyword).isEmpty then 0 else 1)<30))=true:=by rfl)
 (l1:(a1.endLine==c1.line)=true:=by rfl) (l2:(a2.endLine==c2.line)=true:=by rfl)
 (hs:swapsWith (.Call (.Attribute (.Name y p1) "append" a1) [.Call (.Attribute (.Name x p2) "pop" a2) [k] [] c2] [] c1) none pos.line X.env=pure false:=by rfl) :
 PS X (.Expr (.Call (.Attribute (.Name y p1) "append" a1) [.Call (.Attribute (.Name x p2) "pop" a2) [k] [] c2] [] c1) pos) (tS X.K P (lR j i f)):=by
 refine PS.imp (uH (aFz PySem.F.plainAttrs_list PySem.F.slot_list_append PySem.F.type_list_append sE (rW hj vy d1 d2) (kX (aFz PySem.F.plainAttrs_list PySem.F.slot_list_pop PySem.F.type_list_pop aLa (rW hi vx d3 d4) (kX hk nZ h1) b2 w2 l2 (hs:=h1)) nZ h2) b1 w1 l1 (hs:=h2)) hs) ?_
 rintro D σ H ⟨H0,T,ρ,d,h⟩
 unfold lR at h;cases e1:lW j ρ with
 | stk=>simp only[e1,R.at]at h;exact h.elim
 | exc z=>unfold lW at e1;split at e1<;>cases e1
 | ok yy =>
  cases e2:lW i ρ with
  | stk=>simp only[e1,e2,R.at]at h;exact h.elim
  | exc z=>unfold lW at e2;split at e2<;>cases e2
  | ok xx =>
   simp only[e1,e2,R.at]at h;have oy:=uK e1;have ox:=uK e2;obtain⟨ay,vy',qy1,qy2,qy3,qy4⟩:=d.own oy;obtain⟨ax,vx',qx1,qx2,qx3,qx4⟩:=d.own ox;refine⟨_,qy1,.inl ⟨rfl,vy',SqL.of qy3⟩,_,qx1,.inl ⟨rfl,vx',SqL.of qx3⟩,?_⟩
   cases e3:f ρ with
   | stk=>simp only[e3]at h;exact h.elim
   | exc z=>simp only[e3]at h;exact dP d.e e3 (h σ H d Ext.refl)
   | ok r =>
    simp only[e3]at h;refine fD d.e e3 fun v H' s d' g'=>?_
    cases e4:asI r.d with
    | stk=>simp only[e4]at h;exact h.elim
    | exc z=>exact(dR e4).elim
    | ok n =>
     simp only[e4]at h;cases e5:seqIndex? n xx.2.length with
     | none=>simp only[e5]at h;exact h.elim
     | some m =>
      cases e6:xx.2[m]? with
      | none=>simp only[e5,e6]at h;exact h.elim
      | some dd =>
       simp only[e5,e6]at h;by_cases hz:j≠i/\yy.2.length<sizeLine/\-(2^63)<=n/\n<2^63
       · rw[if_pos hz]at h
         have dS:=d.mono s;have mn:∀ fr,aL (bH fr H0 H (Bs T σ ρ)) (bH fr H0 H' (Bs T σ ρ)):=fun fr=>bA (fun b o q _=>s b o q) fun b z=>.inl z;have rx:=aJ.same (mn _) qx4;have ry:=aJ.same (mn _) qy4;obtain⟨w,hw,rw'⟩:=rx.get e6;have oi:iF σ ρ i ax:=⟨qx1,_,ox,rfl⟩;have oj:iF σ ρ j ay:=⟨qy1,_,oy,rfl⟩;have ne:ay≠ax:=fun z=>hz.1 (d.dis j i ay oj (by rw[z];exact oi))
         refine⟨ax,vx',n,m,w,rfl,by rw[g'.int (eN e4)],s _ _ qx3,hz.2.2.1,hz.2.2.2,by rw[←qx4.length];exact e5,hw,?_⟩
         refine⟨ay,vy',w,rfl,rfl,by rw[aR ne];exact s _ _ qy3,by rw[←qy4.length];exact hz.2.1,?_⟩
         obtain⟨D1,X1⟩:=dS.write (fr:=xx.1) qx1 ox rfl qx2 (rx.erase m)
         have subB:∀ b,Bs T σ (ρ.set i (some ⟨.own,xx.1,.lst (xx.2.eraseIdx m)⟩)) b->Bs T σ ρ b:=fun b z=>by
          rcases z with ⟨l,q1,e,q2,q3⟩ | z
          · by_cases hl:i=l
            · subst hl;rw[qx1]at q1;cases q1;exact .inl ⟨i,oi⟩
            · rw[Ax hl]at q2;exact .inl ⟨l,q1,e,q2,q3⟩
          · exact .inr z
         have m2:∀ fr,aL (bH fr H0 H' (Bs T σ ρ)) (bH fr H0 (upd H' ax (.lst (vx'.eraseIdx m))) (Bs T σ (ρ.set i (some ⟨.own,xx.1,.lst (xx.2.eraseIdx m)⟩)))):=fun fr =>
          bA (fun b o q nb=>by rw[aR (fun z=>nb (by rw[z];exact .inl ⟨i,oi⟩))];exact q) fun b z=>.inl (subB b z)
         obtain⟨D2,X2⟩:=D1.write (i:=j) (fr:=yy.1&&xx.1) (ds:=yy.2++[dd]) (vs:=vy'++[w]) qy1 (by rw[Ax (Ne.symm hz.1)];exact oy) rfl qy2 ((aJ.same (m2 _) ry).andL.append (aJ.one (Rep.same (m2 _) rw')).andR)
         exact h σ _ D2 (((Ext.same s).trans X1).trans X2)
       · rw[if_neg hz]at h;exact h.elim
end Mir
namespace Mir
open PySem L2
variable {X:Cx}{P:XP}{a b c e:Expr}{es:List Expr}{f g:FE}{fs:FEs}{pos p:Pos}
theorem aL7 (hc:X.calm=true):kI X (.builtin "any") (fun xs H Q=>∃ (a:Addr) (bs:List Bool),xs=[.ref a]/\SqL X.K H a (bs.map V.bl)/\Q (.bl (bs.any id)) H):=by
 intro pins s σ H xs us Q I r h;obtain⟨a,bs,rfl,hq,q⟩:=h;obtain⟨u,rfl,rx⟩:=kE r;cases rx;obtain⟨its,rv,p,_⟩:=I.list hq;have hb:=vU rv;have hlt:a<s.heap.objs.size:=by obtain⟨_,e,_⟩:=p.isList;exact Ae e
 refine call_any_walk (wpAny_pyIter_list p.isList ?_)
 refine⟨s.heap.objs.size,[s.heap.objs.size,a],[s.heap.objs.size],its.toArray.size,_,_,fun i=>(bs[i]?).getD false,rfl,Walks.list (A:=X.A.in1) (I.ok.hd hc) _ a (Ay hlt) its.toArray,
  ⟨⟨_,Ag _ rfl,rfl,rfl⟩,p.isList.push _⟩,fun i v s' Q' E' hP hQ=>?_,fun h' tk hk=>?_⟩
 · have hP:its[i]?=some v:=by simpa using hP
   obtain⟨b,e,rfl⟩:=hb.get i v hP;refine wpAny_truthy_bool ?_
   simpa only[e,Option.getD_some] using hQ
 · have e:((Ao its.toArray.size).any fun i=>(bs[i]?).getD false)=bs.any id:=by
    rw[Am,hb.length];exact PyProof.Rows.LSm.range_any bs
   exact⟨.bl (bs.any id),H,I.kept (PyProof.Rows.LSm.kept_iter hk),by rw[e];rfl,q⟩
def aH2 (a:FE):FE:=fun ρ=>do
 let x ← a ρ
 let ds ← asL x.d
 let l ← iH ds
 .ok (sc (.bl (l.any id)))
theorem aUk (hc:X.calm=true)(hg:Gl X "any")(hm:X.mg "any" = none)(ha:PE X a (tE X.K P f))(he:starEach [a] X.env=[(false,eval a X.env)]:=by rfl):PE X (.Call (.Name "any" p) [a] [] pos) (tE X.K P (aH2 f)):=by
 refine PE.imp (kG (aL7 hc) hg hm (by decide +kernel) (aA ha aF he) (he:=he)) ?_
 intro σ H Q h;refine oK h ?_
 intro H0 B ρ v H' r d0 d g s h;cases e:asL r.d with
 | stk=>simp[e]at h
 | exc x=>exact(gS e).elim
 | ok ds =>
  cases e2:iH ds with
  | stk=>simp[e,e2]at h
  | exc x=>exact(vZ e2).elim
  | ok l =>
   simp only[e,e2,R.ok_bind]at h;obtain⟨a,xs,h1,h2,h3⟩:=g.list (iL e);exact⟨a,l,by rw[h1],by rw[←aJ.bools e2 h3];exact .inl h2,h _ H' (aL.refl _) (aW.sc (show Rep _ _ (.bl _) _ from rfl))⟩
theorem aTm {x:Str}{i:Int}(hg:Gl X x)(hm:∃ t,X.mg x=some (.int i t))(hd:(x==("__debug__":Str))=false:=by decide):PE X (.Name x pos) (tE X.K P (cE (.int i))) :=
 let ⟨t,hm⟩:=hm
 m_c (aO9 (v:=.int i) hg hm ⟨t,rfl⟩ hd) fun _=>rfl
def inE (neg:Bool)(a b:FE):FE:=fun ρ=>do
 let x ← a ρ
 let y ← b ρ
 let i ← asI x.d
 let ds ← asS y.d
 let l ← dG ds
 .ok (sc (.bl (if neg then !l.any (·==i) else l.any (·==i))))
theorem aJv (i:Int)(l:List Int):inV (.int i) (l.map V.int)=l.any (·==i):=by
 unfold inV;rw[Gq];rfl
theorem aW1 {neg:Bool}(σ:St)(H:Hp)(Q:VK)(h:tE X.K P (inE neg f g) σ H Q):tOp (rIn X.K neg) (tE X.K P f) (tE X.K P g) σ H Q:=by
 refine t2 (q:=fun x y H2=>rIn X.K neg x y H2 Q) h ?_
 intro H0 B ρ v w H' r r' d g1 g2 s h;cases e1:asI r.d with
 | stk=>simp[e1]at h
 | exc x=>exact(dR e1).elim
 | ok i =>
  cases e2:asS r'.d with
  | stk=>simp[e1,e2]at h
  | exc x=>exact(qU e2).elim
  | ok ds =>
   cases e3:dG ds with
   | stk=>simp[e1,e2,e3]at h
   | exc x=>exact(eY e3).elim
   | ok l =>
    simp only[e1,e2,e3,R.ok_bind]at h;obtain⟨a,xs,h1,h2,h3⟩:=g2.seq e2;have hx:=aJ.ints e3 h3;refine⟨a,xs,h1,h2.imp .inl SqT.of,by rw[g1.int (eN e1)];rfl,by rw[hx];simp[qF],?_⟩
    rw[g1.int (eN e1),hx,aJv];exact h _ H' (aL.refl _) (aW.sc (show Rep _ _ (.bl _) _ from rfl))
theorem aQ7 (ha:PE X a (tE X.K P f))(hb:PE X b (tE X.K P g))(hm:behindInMarks .NotIn b=false:=by rfl):PT X (.Compare a [.NotIn] [b] pos) (tT X.K P (bT (inE true f g))):=vJ zT ha hb hm aW1
def yF (i:Nat)(G:Int->Int->Int)(f:FE):FS:=fun ρ=>(vE i ρ).at ρ fun x=>(asI x.d).at ρ fun m=>(f ρ).at ρ fun r=>(asI r.d).at ρ fun n=>.nx (ρ.set i (some ⟨.shr,true,.int (G m n)⟩))
theorem aSb {i:Nat}{ρ:Env}{r:Res}(h:vE i ρ=.ok r):∃ e,ρ[i]?=some (some e)/\r=⟨e.k.rd,e.fr||e.d.imm,e.d⟩:=by
 unfold vE at h;split at h
 · rename_i e q;cases h;exact⟨e,q,rfl⟩
 · cases h
theorem aQ0 {i:Nat}{x:Str}{op:Operator}{G:Int->Int->Int}{pos':Pos}(ho:PIp X op (ipI G))(hN:X.N.Nodup)(hi:X.N[i]?=some x)(hx:Loc X.env.scope x)(he:PE X e (tE X.K P f))(hf:X.fn x=true\/X.env.scope.names.lookup x=some .local:=by first | exact .inl rfl | exact .inr rfl | assumption) :
 PS X (.AugAssign (.Name x pos') op e pos) (tS X.K P (yF i G f)):=by
 refine PS.imp (aSl hN hi hx he ho hf) ?_
 rintro D σ H ⟨H0,T,ρ,d,h⟩
 unfold yF at h;cases e1:vE i ρ with
 | stk=>simp only[e1,R.at]at h;exact h.elim
 | exc z=>unfold vE at e1;split at e1<;>cases e1
 | ok xr =>
  simp only[e1,R.at]at h;obtain⟨en,q1,q2⟩:=aSb e1;subst q2;obtain⟨v,q3,q4⟩:=d.e.ent i en q1;cases e2:asI en.d with
  | stk=>simp only[e2]at h;exact h.elim
  | exc z=>exact(dR e2).elim
  | ok m =>
   simp only[e2]at h;refine⟨v,q3,?_⟩
   have hv:v=.int m:=(q4.res d.e.sam).int (eN e2);cases e3:f ρ with
   | stk=>simp only[e3]at h;exact h.elim
   | exc z=>simp only[e3]at h;exact dP d.e e3 (h σ H d Ext.refl)
   | ok r =>
    simp only[e3]at h;refine fD d.e e3 fun w H' s d' g'=>?_
    cases e4:asI r.d with
    | stk=>simp only[e4]at h;exact h.elim
    | exc z=>exact(dR e4).elim
    | ok n =>
     simp only[e4]at h;have dd:=(d.mono s).set_shr (i:=i) (v:=.int (G m n)) (fr:=true) (dd:=.int (G m n)) rfl;exact⟨m,n,hv,g'.int (eN e4),h _ H' dd.1 ⟨fun b o q _=>s b o q,fun b z=>.inl (dd.2 b z)⟩⟩
theorem aRk {i:Nat}{x:Str}{pos':Pos}(hN:X.N.Nodup)(hi:X.N[i]?=some x)(hx:Loc X.env.scope x)(he:PE X e (tE X.K P f))(hf:X.fn x=true\/X.env.scope.names.lookup x=some .local:=by first | exact .inl rfl | exact .inr rfl | assumption) :
 PS X (.AugAssign (.Name x pos') .Add e pos) (tS X.K P (yF i (fun m n=>m+n) f)):=aQ0 aR8 hN hi hx he hf
def aDk (i:Nat)(f:FE):FS:=fun ρ=>(lW i ρ).at ρ fun y=>(f ρ).at ρ fun r=>match r with
 | ⟨.tmp,fr,.lst es⟩=>if y.2.length+es.length<=sizeLine then .nx (ρ.set i (some ⟨.own,y.1&&fr,.lst (y.2++es)⟩)) else .stk
 | _=>.stk
theorem aTy {i:Nat}{x:Str}{p ap cp:Pos}(hN:X.N[i]?=some x)(hv:Vis X.env.scope x)(he:PE X e (tE X.K P f))(hd:(x==("__debug__":Str))=false:=by decide)(hcd:(x==("__classdict__":Str))=false:=by decide)
 (h1:starEach [e] X.env=[(false,eval e X.env)]:=by rfl) (hbase:attributeBase (.Name x p) "extend" X.env (eval (.Name x p) X.env)=eval (.Name x p) X.env:=by rfl)
 (hfew:((backTo cp (starEach [e] X.env)).all (fun x=>!x.1)&&(backToKw cp (keywordEach [] X.env)).all (fun x=>x.1.isSome)&&decide ([e].length+([]:List Keyword).length+(if ([]:List Keyword).isEmpty then 0 else 1)<30))=true:=by rfl)
 (hline:(ap.endLine==cp.line)=true:=by rfl)
 (hs:swapsWith (.Call (.Attribute (.Name x p) "extend" ap) [e] [] cp) none pos.line X.env=pure false:=by rfl) :
 PS X (.Expr (.Call (.Attribute (.Name x p) "extend" ap) [e] [] cp) pos) (tS X.K P (aDk i f)):=by
 refine PS.imp (uH (aFz PySem.F.plainAttrs_list PySem.F.slot_list_extend PySem.F.type_list_extend aHx (rW hN hv hd hcd) (kX he nZ h1) hbase hfew hline (hs:=h1)) hs) ?_
 rintro D σ H ⟨H0,T,ρ,d,h⟩
 unfold aDk at h;cases e3:lW i ρ with
 | stk=>simp only[e3,R.at]at h;exact h.elim
 | exc z=>unfold lW at e3;split at e3<;>cases e3
 | ok y =>
  simp only[e3,R.at]at h;have ho:=uK e3;obtain⟨a,vs,q1,q2,q3,q4⟩:=d.own ho;refine⟨_,q1,.inl ⟨rfl,vs,SqL.of q3⟩,?_⟩
  cases e1:f ρ with
  | stk=>simp only[e1]at h;exact h.elim
  | exc z=>simp only[e1]at h;exact dP d.e e1 (h σ H d Ext.refl)
  | ok r =>
   simp only[e1]at h;refine fD d.e e1 fun v H' s d' g'=>?_
   obtain⟨rk,rfr,rd⟩:=r;cases rk with
   | tmp =>
    cases rd with
    | lst es =>
     simp only at h;by_cases hz:y.2.length+es.length<=sizeLine
     · rw[if_pos hz]at h
       obtain⟨b,o,w1,w2,w3,ws,w4,w5⟩:=g';subst w1;subst w4;have dS:=d.mono s;have q4':aJ X.K (bH y.1 H0 H' (Bs T σ ρ)) y.2 vs:=aJ.same (bA (fun b o q _=>s b o q) fun b z=>.inl z) q4;have w5':aJ X.K (bH rfr H0 H' (Bs T σ ρ)) es ws:=aJ.same (bA (fun b o q _=>q) fun b z=>.inl (.inl z)) w5;refine⟨a,b,vs,ws,rfl,rfl,s _ _ q3,w3,by rw[←q4.length,←w5.length];exact hz,?_⟩
       obtain⟨v1,v2⟩:=dS.write (fr:=y.1&&rfr) (ds:=y.2++es) (vs:=vs++ws) q1 ho rfl q2 (q4'.andL.append w5'.andR);exact h σ _ v1 ((Ext.same s).trans v2)
     · rw[if_neg hz]at h;exact h.elim
    | _=>exact h.elim
   | _=>exact h.elim
end Mir
namespace Mir
open PySem L2
variable {X:Cx}{P:XP}{a b c e:Expr}{es:List Expr}{f g:FE}{fs:FEs}{pos p:Pos}
variable {st:Stmt}{rest:List Stmt}{F G:FS}
mutual
theorem Rep.stb {K:PySem.W.Frag}{G G':Hp}(s:∀ b o,G b=some o->stab o=true->G' b=some o):∀ {d:D} {v:V},d.imm=true->Rep K G d v->Rep K G' d v
 | .non,_,_,h=>h
 | .bl _,_,_,h=>h
 | .int _,_,_,h=>h
 | .str _,_,_,h=>h
 | .lst _,_,i,_=>by cases i
 | .tup ds,_,i,⟨a,xs,h1,h2,h3⟩=>⟨a,xs,h1,s _ _ h2 rfl,aJ.stb s (by simpa[D.imm] using i) h3⟩
 | .obj _ _,_,_,h=>h
 | .any,_,i,_=>by cases i
 | .dct _ _,_,i,_=>by cases i
 | .exc _ _,_,_,⟨h,a,h1,h2⟩=>⟨h,a,h1,s _ _ h2 rfl⟩
theorem aJ.stb {K:PySem.W.Frag}{G G':Hp}(s:∀ b o,G b=some o->stab o=true->G' b=some o):∀ {ds:List D} {vs:List V},D.imms ds=true->aJ K G ds vs->aJ K G' ds vs
 | [],_,_,h=>h
 | d :: r,_,i,⟨x,xr,h1,h2,h3⟩=>by
  have i':d.imm=true/\D.imms r=true:=by simpa[D.imms] using i
  exact⟨x,xr,h1,Rep.stb s i'.1 h2,aJ.stb s i'.2 h3⟩
end
end Mir
namespace Mir
open PySem L2
variable {X:Cx}{P:XP}{a b c e:Expr}{es:List Expr}{f g:FE}{fs:FEs}{pos p:Pos}
def aKt (H0 H H1:Hp):Prop:=∀ b,H1 b=H b\/∃ o xs,H b=some (.frz o (.lst xs))/\H1 b=some (.lst xs)/\H0 b=none
theorem aKt.ne {H0 H H1:Hp}(t:aKt H0 H H1){b:Addr}{u:HO}(h:H b=some u)(n:∀ o xs,u≠.frz o (.lst xs)):H1 b=some u:=by
 rcases t b with e | ⟨o,ys,e1,e2,_⟩
 · exact e.trans h
 · rw[e1]at h;cases h;exact absurd rfl (n _ _)
theorem aKt.cut {H0 H H1:Hp}(t:aKt H0 H H1)(B:Addr->Prop):aKt H0 (Mir.cut H B) (Mir.cut H1 B):=fun b=>by
 unfold Mir.cut;by_cases hb:B b
 · left;simp[hb]
 · simpa[hb] using t b
end Mir
namespace L2
open PySem PySem.Spec PyProof.Rows
section
variable {κ:Type}[DecidableEq κ]
def tM (kvs:List (κ×V))(k:κ):Option V:=(kvs.find? fun kv=>decide (kv.1=k)).map (·.2)
def pE (kvs:List (κ×V))(k:κ)(v:V):List (κ×V) :=
 if (kvs.any fun kv=>decide (kv.1=k))=true then kvs.map (fun kv=>if kv.1=k then (kv.1,v) else kv) else kvs++[(k,v)]
theorem qM {p:κ×V}{r:List (κ×V)}{k:κ}(e:p.1=k):tM (p :: r) k=some p.2:=by simp[tM,Ek,e]
theorem qR {p:κ×V}{r:List (κ×V)}{k:κ}(e:¬ p.1=k):tM (p :: r) k=tM r k:=by simp[tM,Ek,e]
theorem aCp (k:κ):∀ kvs:List (κ×V),(kvs.any fun kv=>decide (kv.1=k))=(tM kvs k).isSome
 | []=>rfl
 | p :: r=>by
  rw[Fo];by_cases e:p.1=k
  · simp only[qM e,decide_eq_true e,Bool.true_or,Option.isSome_some]
  · rw[qR e,decide_eq_false e,Bool.false_or];exact aCp k r
theorem nQ (kvs:List (κ×V))(k:κ)(v:V):(pE kvs k v).length<=kvs.length+1:=by
 unfold pE;split
 · rw[Ac];omega
 · rw[Ai,As,Bp];omega
theorem tH.isSome_eq {o:Option V}{u:Option Value}(r:tH o u):o.isSome=u.isSome:=by
 cases o with
 | none=>cases u with
  | none=>rfl
  | some _=>exact(show False from r).elim
 | some _=>cases u with
  | none=>exact(show False from r).elim
  | some _=>rfl
theorem tH.getD {o:Option V}{u:Option Value}{d:V}{d':Value}(r:tH o u)(rd:bZ d d'):bZ (o.getD d) (u.getD d'):=by
 cases o with
 | none=>cases u with
  | none=>exact rd
  | some _=>exact(show False from r).elim
 | some _=>cases u with
  | none=>exact(show False from r).elim
  | some _=>exact r
theorem KV.val {kvs:List (κ×V)}{vs:List (κ×Value)}(r:KV kvs vs)(k:κ):tH (tM kvs k) (valueAt vs k):=by
 unfold KV at r;induction r with
 | nil=>exact True.intro
 | @cons p q ps qs h t ih =>
  obtain⟨h1,h2⟩:=h;by_cases e:p.1=k
  · have e':q.1=k:=h1.symm.trans e
    have b:valueAt (q :: qs) k=some q.2:=by simp[valueAt,Ek,e']
    rw[qM e,b];exact h2
  · have e':¬ q.1=k:=fun z=>e (h1.trans z)
    have b:valueAt (q :: qs) k=valueAt qs k:=by simp[valueAt,Ek,e']
    rw[qR e,b];exact ih
theorem KV.any {kvs:List (κ×V)}{vs:List (κ×Value)}(r:KV kvs vs)(k:κ):(kvs.any fun kv=>decide (kv.1=k))=vs.any fun kv=>decide (kv.1=k):=by
 unfold KV at r;induction r with
 | nil=>rfl
 | cons h t ih=>rw[Fo,Fo,ih,h.1]
theorem KV.repl {kvs:List (κ×V)}{vs:List (κ×Value)}(r:KV kvs vs)(k:κ){y:V}{u:Value}(ry:bZ y u) :
 KV (kvs.map fun kv=>if kv.1=k then (kv.1,y) else kv) (vs.map fun kv=>if kv.1=k then (kv.1,u) else kv):=by
 unfold KV at r ⊢;induction r with
 | nil=>exact .nil
 | @cons p q ps qs h t ih =>
  rw[Ap,Ap];refine .cons ?_ ih
  obtain⟨h1,h2⟩:=h;by_cases e:p.1=k
  · rw[if_pos e,if_pos (h1.symm.trans e)];exact⟨h1,ry⟩
  · rw[if_neg e,if_neg (fun z=>e (h1.trans z))];exact⟨h1,h2⟩
theorem KV.put {kvs:List (κ×V)}{vs:List (κ×Value)}(r:KV kvs vs)(k:κ){y:V}{u:Value}(ry:bZ y u):KV (pE kvs k y) (stored vs k u):=by
 unfold pE stored;rw[r.any k];by_cases e:(vs.any fun kv=>decide (kv.1=k))=true
 · rw[if_pos e,if_pos e];exact r.repl k ry
 · rw[if_neg e,if_neg e];exact Paired.snoc r ⟨rfl,ry⟩
theorem KV.length {kvs:List (κ×V)}{vs:List (κ×Value)}(r:KV kvs vs):kvs.length=vs.length:=Paired.length r
end
theorem aFm {P:Program}{w:World}{k:Key}{u:Value}(r:bZ (kV k) u):(cF P w).is k u=true:=by
 cases k with
 | inl i=>obtain⟨t,e⟩:=(show ∃ t,u=Value.int i t from r);subst e;exact aCn P w i t
 | inr x=>obtain⟨t,e⟩:=(show ∃ t,u=Value.str x t from r);subst e;exact aBq P w x t
theorem yV {P:Program}{w:World}:∀ {ks:List Key} {us:List Value},bU (ks.map kV) us->ItemsAre (cF P w) ks us
 | [],_,r=>by rw[Gc]at r;cases r;exact .nil
 | k :: ks,_,r=>by
  rw[Ap]at r;cases r with
  | cons h t=>exact .cons (aFm h) (yV t)
abbrev KT (H:Hp):List (List Key×V)->List (List Key×Addr×Value)->Prop:=Paired fun p q=>p.1=q.1/\H q.2.1=some (.tup (p.1.map kV))/\bZ p.2 q.2.2
theorem KT.val {H:Hp}{kvs:List (List Key×V)}{xs:List (List Key×Addr×Value)}(r:KT H kvs xs)(k:List Key):tH (tM kvs k) ((atKey xs k).map (·.2)):=by
 induction r with
 | nil=>exact True.intro
 | @cons p q ps qs h t ih =>
  obtain⟨h1,_,h2⟩:=h;by_cases e:p.1=k
  · have e':q.1=k:=h1.symm.trans e
    have b:atKey (q :: qs) k=some q.2:=by simp[atKey,Ek,e']
    rw[qM e,b];exact h2
  · have e':¬ q.1=k:=fun z=>e (h1.trans z)
    have b:atKey (q :: qs) k=atKey qs k:=by simp[atKey,Ek,e']
    rw[qR e,b];exact ih
theorem KT.repl {H:Hp}{kvs:List (List Key×V)}{xs:List (List Key×Addr×Value)}(r:KT H kvs xs)(k:List Key){y:V}{u:Value}(ry:bZ y u) :
 KT H (kvs.map fun kv=>if kv.1=k then (kv.1,y) else kv) (xs.map (putAt k u)):=by
 induction r with
 | nil=>exact .nil
 | @cons p q ps qs h t ih =>
  rw[Ap,Ap];refine .cons ?_ ih
  obtain⟨h1,h2,h3⟩:=h;unfold putAt;by_cases e:p.1=k
  · rw[if_pos e,if_pos (h1.symm.trans e)];exact⟨h1,h2,ry⟩
  · rw[if_neg e,if_neg (fun z=>e (h1.trans z))];exact⟨h1,h2,h3⟩
theorem KT.put {H:Hp}{kvs:List (List Key×V)}{xs:List (List Key×Addr×Value)}(r:KT H kvs xs)(k:List Key){b:Addr}{y:V}{u:Value}(hb:H b=some (.tup (k.map kV)))(ry:bZ y u) :
 KT H (pE kvs k y) (storedH xs k b u):=by
 have e:(kvs.any fun kv=>decide (kv.1=k))=(atKey xs k).isSome:=by
  rw[aCp,(r.val k).isSome_eq,Option.isSome_map]
 unfold pE storedH;rw[e];by_cases q:(atKey xs k).isSome=true
 · rw[if_pos q,if_pos q];exact r.repl k ry
 · rw[if_neg q,if_neg q];exact Paired.snoc r ⟨rfl,hb,ry⟩
theorem KT.keeps {H H':Hp}{kvs:List (List Key×V)}{xs:List (List Key×Addr×Value)}(r:KT H kvs xs)(ht:∀ b ys,H b=some (.tup ys)->H' b=some (.tup ys)):KT H' kvs xs :=
 Paired.mapP r fun _ _ z=>⟨z.1,ht _ _ z.2.1,z.2.2⟩
section
variable {P:Program}{w:World}{H:Hp}{h:Heap}{a:Addr}
theorem aGd {u:HO}(ok:HOk P w H h)(e:Rd H a u):dD P w H h a u:=e.ok ok
theorem aB9 {kvs:List (Key×V)}(ok:HOk P w H h)(e:Rd H a (.dK kvs)):kvs.length<=sizeLine/\(a==sysModules)=false/\∃ vs,KV kvs vs/\h.DictOf (cF P w) a vs :=
 show dD P w H h a (.dK kvs) from aGd ok e
theorem aTw {kvs:List (Key×V)}(ok:HOk P w H h)(e:H a=some (.dK kvs)):kvs.length<=sizeLine/\(a==sysModules)=false/\∃ vs,KV kvs vs/\h.DictOf (cF P w) a vs:=aB9 ok (.inl e)
theorem jL {ks:List Key}(ok:HOk P w H h)(e:H a=some (.tup (ks.map kV))):(tupleKind (cF P w)).is h ks a:=by
 obtain⟨_,its,r,o,h1,h2,n,h3⟩:=(show dD P w H h a (.tup (ks.map kV)) from ok a _ e)
 exact⟨o,its.toArray,n,h1,h2,h3,by simpa using yV r⟩
theorem aCl {kvs:List (List Key×V)}(ok:HOk P w H h)(e:Rd H a (.dT kvs)):kvs.length<=sizeLine/\(a==sysModules)=false /\
 ∃ xs,KT H kvs xs/\h.DictOfH (tupleKind (cF P w)) a xs:=by
 obtain⟨z,y,xs,r,o,es,ep,h1,h2,h3,h4,h5⟩:=(show dD P w H h a (.dT kvs) from aGd ok e)
 refine⟨z,y,xs,r,o,es,ep,h1,h2,h3,h4,fun x hx=>?_,h5⟩
 have all:∀ {l:List (List Key×V)} {m:List (List Key×Addr×Value)},KT H l m->∀ x∈m,(tupleKind (cF P w)).is h x.1 x.2.1:=by
  intro l m q;induction q with
  | nil=>intro x hx;exact nomatch hx
  | @cons p q ps qs hq t ih =>
   intro x hx;rcases An.mp hx with e | hx
   · subst e
     exact jL ok (by rw[←hq.1];exact hq.2.1)
   · exact ih x hx
 exact all r x hx
theorem aV0 {kvs:List (List Key×V)}(ok:HOk P w H h)(e:H a=some (.dT kvs)):kvs.length<=sizeLine/\(a==sysModules)=false /\
 ∃ xs,KT H kvs xs/\h.DictOfH (tupleKind (cF P w)) a xs:=aCl ok (.inl e)
end
def aH9 (H:Hp)(a:Addr)(y:V)(r:Option V):Prop :=
 (∃ kvs k,Rd H a (.dK kvs)/\y=kV k/\r=tM kvs k)\/∃ kvs k b,Rd H a (.dT kvs)/\y=.ref b/\H b=some (.tup (k.map kV))/\r=tM kvs k
def aUh (H:Hp)(a:Addr)(y v:V)(H':Hp):Prop :=
 (∃ kvs k,H a=some (.dK kvs)/\y=kV k/\kvs.length<sizeLine/\H'=upd H a (.dK (pE kvs k v))) \/
 ∃ kvs k b,H a=some (.dT kvs)/\y=.ref b/\H b=some (.tup (k.map kV))/\kvs.length<sizeLine/\H'=upd H a (.dT (pE kvs k v))
section
variable {X:Cx}{pins:List (Addr×Obj)}{σ:St}{H:Hp}{s:Shared}{a:Addr}{y v:V}{u r:Value}{o:Option V}{A:Around}{E:Value->Shared->Prop}
theorem Inv.big (I:Inv X pins σ H s):sysModules<s.heap.objs.size:=by
 have h:mainGlobals<s.heap.objs.size:=(I.mod.glob.keeps I.bk).lt;exact Eg (by decide) h
theorem aHk {Q:Value->Shared->Prop}(hu:A.units+1<cLine)(I:Inv X pins σ H s)(g:aH9 H a y (some v))(ry:bZ y u)(h:∀ w' s',Inv X pins σ H s'->bZ v w'->Q w' s') :
 wpAny (model X.prog X.w) A (getItem (.ref a) u) Q E s:=by
 rcases g with ⟨kvs,k,e,ey,l⟩ | ⟨kvs,k,b,e,ey,eb,l⟩
 · subst ey
   obtain⟨z,hd,vs,rel,dd⟩:=aB9 I.hok e;obtain⟨w',hw,rw'⟩:=tH.some_of (v:=v) (o:=valueAt vs k) (by rw[l];exact rel.val k)
   exact wpAny_getItem_of (aFm ry) dd.mapOf hw (h w' _ (I.tok _) rw')
 · subst ey
   cases (show u=Value.ref b from ry)
   obtain⟨z,hd,xs,rel,dd⟩:=aCl I.hok e;obtain⟨w',hw,rw'⟩:=tH.some_of (v:=v) (o:=(atKey xs k).map (·.2)) (by rw[l];exact rel.val k)
   obtain⟨p,hp,hp2⟩:=Fj.mp hw;refine wpAny_getItem_heap (tupleKind_room_in1 hu) (jL I.hok eb) dd hp ?_
   rw[hp2];exact h w' _ (I.tok _) rw'
theorem aFb {h':Heap}{t':Nat}{ob:HO}(I:Inv X pins σ H s)(mu:Mut (H a))(hs:Heap.SameBut a s.heap h')(he:∃ q,h'.get? a=some q)(new:dD X.prog X.w (upd H a ob) h' a ob) :
 Inv X pins σ (upd H a ob) { s with heap:=h',toks:=t' } :=
 I.write (x:=a) (e:=a) mu (.inl rfl) (fun b q hb z=>(hs.2 b hb).trans z) he new
theorem aRu {P:Program}{w:World}{H':Hp}{h':Heap}{kvs:List (Key×V)}{vs:List (Key×Value)}(z:kvs.length<=sizeLine)(hd:(a==sysModules)=false)(rel:KV kvs vs)(dd:h'.DictOf (cF P w) a vs) :
 dD P w H' h' a (.dK kvs):=⟨z,hd,vs,rel,dd⟩
theorem aHp {H':Hp}{Q:Unit->Shared->Prop}(hu:A.units+1<cLine)(I:Inv X pins σ H s)(g:aUh H a y v H')(ry:bZ y u)(rv:bZ v r)(h:∀ s',Inv X pins σ H' s'->Q () s') :
 wpAny (model X.prog X.w) A (setItem (.ref a) u r) Q E s:=by
 rcases g with ⟨kvs,k,e,ey,l,eH⟩ | ⟨kvs,k,b,e,ey,eb,l,eH⟩
 · subst ey eH
   obtain⟨z,hd,vs,rel,dd⟩:=aTw I.hok e;have hz:vs.length<=sizeLine:=by rw[←rel.length];exact z
   have hl:(pE kvs k v).length<=sizeLine:=by have:=nQ kvs k v;omega
   refine wpAny_setItem_pairs (hsz:=hz) (aFm ry) dd fun h' dd' hs=>h _ ?_
   have he:∃ q,h'.get? a=some q:=let ⟨q,_,_,hq,_⟩:=dd';⟨q,hq⟩
   exact aFb I (by rw[e];exact True.intro) hs he (aRu hl hd (rel.put k rv) dd')
 · subst ey eH
   cases (show u=Value.ref b from ry)
   obtain⟨z,hd,xs,rel,dd⟩:=aV0 I.hok e;have hz:xs.length<=sizeLine:=by rw[←Paired.length rel];exact z
   have hl:(pE kvs k v).length<=sizeLine:=by have:=nQ kvs k v;omega
   refine wpAny_setItem_heap (hsz:=hz) (tupleKind_room_in1 hu) (jL I.hok eb) dd fun h' dd' hs=>h _ ?_
   obtain⟨q,es,ep,hq,h2,h3,h4,_,h5⟩:=dd';refine aFb I (by rw[e];exact True.intro) hs ⟨q,hq⟩ ⟨hl,hd,_,(rel.put k eb rv).keeps fun c ys ec=>?_,q,es,ep,hq,h2,h3,h4,h5⟩
   rw[aR (aUr ec e (fun z=>nomatch z))];exact ec
end
def aTu (i:Expr):Prop:=∀ ov iv,subscripted i false ov iv=operate [ov,iv] (getItem ov iv)
theorem aP0 {prog:Program}{w:World}{A:Around}{E:Value->Shared->Prop}{s:Shared}{env:Env}{value slice:Expr}{pos:Pos}{T id:String}{Q:Value->Shared->Prop}
 (hl:typeLookup (.type T) "__getitem__" = pure (some (.builtin id))) (hs:aTu slice)
 (h:wpAny (model prog w) A (eval value env) (fun o s₁=>wpAny (model prog w) A (eval slice env) (fun i s₂=>s₂.TypeIs o T/\wpAny (model prog w) A (getItem o i) Q E s₂) E s₁) E s) :
 wpAny (model prog w) A (eval (.Subscript value slice pos) env) Q E s:=by
 refine Subscript_ (wpAny_mono h (fun o s₁ h₁=>wpAny_mono h₁ (fun i s₂ h₂=>?_) fun _ _ x=>x) fun _ _ x=>x)
 obtain⟨hT,h₂⟩:=h₂;unfold subscriptTail;refine wpAny_bind ?_
 rw[getitemInPython_of_ne hT.not_modules];refine wpAny_bind (wpAny_specialOf hT hl ?_)
 have fin:wpAny (model prog w) A (subscripted slice false o i) (fun r s₃=>wpAny (model prog w) A (letTemporaryGo value o r >>= fun _=>pure r) Q E s₃) E s₂:=by
  rw[hs o i];exact wpAny_operating (wpAny_mono h₂ (fun r s₃ h₃=>wpAny_bind (wpAny_letTemporaryGo (wpAny_pure h₃))) fun _ _ x=>x)
 first
  | exact wpAny_pure (wpAny_bind fin)
  | exact wpAny_bind (wpAny_pure (wpAny_bind fin))
  | exact wpAny_bind fin
theorem aBm {X:Cx}{pins:List (Addr×Obj)}{σ:St}{H:Hp}{s:Shared}{a:Addr}{y:V}{o:Option V}(I:Inv X pins σ H s)(g:aH9 H a y o):s.TypeIs (.ref a) "dict":=by
 rcases g with ⟨kvs,k,e,_,_⟩ | ⟨kvs,k,b,e,_,_,_⟩
 · obtain⟨_,_,vs,_,dd⟩:=aB9 I.hok e
   exact dd.typeIs
 · obtain⟨_,_,xs,_,dd⟩:=aCl I.hok e
   exact dd.typeIs
def aT4 (td ty:TE):TE:=fun σ H Q=>td σ H fun x H1=>ty σ H1 fun y H2=>∃ a v,x=.ref a/\aH9 H2 a y (some v)/\Q v H2
def aVn (td ty tv:TE):TS:=fun D σ H=>tv σ H fun v H1=>td σ H1 fun x H2=>ty σ H2 fun y H3=>∃ a H4,x=.ref a/\aUh H3 a y v H4/\D.nx σ H4
section
variable {X:Cx}{o i e value:Expr}{pos pos' tpos:Pos}{td ty tv:TE}
theorem aNk (hu:X.A.units+1<cLine)(ho:PE X o td)(hi:PE X i ty)(hs:aTu i):PE X (.Subscript o i pos) (aT4 td ty):=by
 intro pins s σ H Q I h;refine aP0 PySem.F.slot_dict_getitem.lookup hs (thn (ho pins s σ H _ I h) fun u s1 ⟨x,H1,I1,rx,q1⟩=>thn (hi pins s1 σ H1 _ I1 q1) fun iv s2 ⟨y,H2,I2,ry,a,v,ex,g,q2⟩=>?_)
 subst ex;obtain rfl:u=Value.ref a:=rx;exact⟨aBm I2 g,aHk hu I2 g ry fun w' s3 I3 rw'=>⟨v,H2,I3,rw',q2⟩⟩
theorem aOt (hu:X.A.units+1<cLine)(ho:PE X o td)(hi:PE X i ty)(hv:PE X value tv)(hs:swapsWith value (some (.Subscript o i pos')) pos.line X.env=pure false) :
 PS X (.Assign [.Subscript o i pos'] value pos) (aVn td ty tv):=by
 intro pins s σ H D I h;refine wpAny_Assign_Subscript (thn (hv pins s σ H _ I h) fun r s1 ⟨v,H1,I1,rv,q1⟩=>thn (ho pins s1 σ H1 _ I1 q1) fun u s2 ⟨x,H2,I2,rx,q2⟩=>thn (hi pins s2 σ H2 _ I2 q2) fun iv s3 ⟨y,H3,I3,ry,a,H4,ex,g,q3⟩=>?_) hs
 subst ex;obtain rfl:u=Value.ref a:=rx;exact aHp hu I3 g ry rv fun s4 I4=>⟨σ,H4,I4,q3⟩
end
theorem aJe {P:Program}{w:World}{H:Hp}(h:Heap)(hb:sysModules<h.objs.size):dD P w H (h.push { cls:=.type "dict",data:=.dict #[] }) h.objs.size (.dT []) :=
 ⟨Cc _,beq_eq_false_iff_ne.mpr (Ne.symm (Ay hb)),[],.nil,_,#[],0,Ag _ rfl,⟨rfl,rfl,rfl⟩,rfl,rfl,Cl⟩
def aSa:TE:=fun _ H Q=>∀ p,H p=none->Q (.ref p) (upd H p (.dT []))
section
variable {X:Cx}{pos:Pos}
theorem aL4:PE X (.Dict [] [] pos) aSa:=fun pins s σ H Q I h =>
 wpAny_Dict_empty ⟨.ref s.heap.objs.size,_,I.laid (a:=s.heap.objs.size) (o:=.dT []) (t':=s.toks) (fun _ _ q=>Aa _ q) (Af _) (aJe s.heap I.big),rfl,h _ (I.hok.fresh (Af _))⟩
end
structure M2 (X:Cx)(o:Expr)(m:Str)(apos:Pos)(e f:Expr)(cpos:Pos):Prop where
 base:attributeBase o m X.env (eval o X.env)=eval o X.env
 few:((backTo cpos (starEach [e,f] X.env)).all (fun x=>!x.1)&&(backToKw cpos (keywordEach [] X.env)).all (fun x=>x.1.isSome)
  && decide (([e,f]:List Expr).length+([]:List Keyword).length+(if ([]:List Keyword).isEmpty then 0 else 1)<30))=true
 line:(apos.endLine==cpos.line)=true
 trees:backTo cpos (starEach [e,f] X.env)=[(false,eval e X.env),(false,eval f X.env)]
def IsD (H:Hp)(a:Addr):Prop:=(∃ kvs,Rd H a (.dK kvs))\/∃ kvs,Rd H a (.dT kvs)
theorem aSe {X:Cx}{pins:List (Addr×Obj)}{σ:St}{H:Hp}{s:Shared}{a:Addr}(I:Inv X pins σ H s)(d:IsD H a) :
 s.TypeIs (.ref a) "dict"/\(∀ b,Value.ref a=.ref b->∃ ob,s.heap.get? b=some ob/\ob.dict=none)/\(a==sysModules)=false:=by
 rcases d with ⟨kvs,e⟩ | ⟨kvs,e⟩
 · obtain⟨_,hd,vs,_,dd⟩:=aB9 I.hok e
   refine⟨dd.typeIs,fun b q=>?_,hd⟩
   cases q;obtain⟨ob,_,_,h1,h2,_⟩:=dd;exact⟨ob,h1,h2.2.1⟩
 · obtain⟨_,hd,xs,_,dd⟩:=aCl I.hok e
   refine⟨dd.typeIs,fun b q=>?_,hd⟩
   cases q;obtain⟨ob,_,_,h1,h2,_⟩:=dd;exact⟨ob,h1,h2.2.1⟩
section
variable {X:Cx}{pins:List (Addr×Obj)}{σ:St}{H:Hp}{s:Shared}{a:Addr}{y d:V}{u r:Value}{o:Option V}{A:Around}{E:Value->Shared->Prop}
theorem aR6 {Q:Value->Shared->Prop}(hu:A.units+1<cLine)(I:Inv X pins σ H s)(g:aH9 H a y o)(ry:bZ y u)(rd:bZ d r)(h:∀ w' s',Inv X pins σ H s'->bZ (o.getD d) w'->Q w' s') :
 wpAny (model X.prog X.w) A (call (.builtin "dict.get") [.ref a,u,r]) Q E s:=by
 rcases g with ⟨kvs,k,e,ey,l⟩ | ⟨kvs,k,b,e,ey,eb,l⟩
 · subst ey
   obtain⟨z,hd,vs,rel,dd⟩:=aB9 I.hok e;refine call_meetsIn PySem.F.slot_dict_get dd.typeIs PySem.F.entry_dict_get (PySem.F.args_dict_get_3 _ _ _) (meets_dict_get_default (cF X.prog X.w) a (aFm ry) hd r) ⟨_,dd.mapOf,h _ _ (I.tok _) ?_⟩
   rw[l];exact(rel.val k).getD rd
 · subst ey
   cases (show u=Value.ref b from ry)
   obtain⟨z,hd,xs,rel,dd⟩:=aCl I.hok e;refine call_meetsIn PySem.F.slot_dict_get dd.typeIs PySem.F.entry_dict_get (PySem.F.args_dict_get_3 _ _ _) (meetsH_dict_get_default (tupleKind (cF X.prog X.w)) a b hd r) ⟨tupleKind_room_in1 hu,k,xs,jL I.hok eb,dd,h _ _ (I.tok _) ?_⟩
   rw[l];exact(rel.val k).getD rd
end
def aTd (td ty tx:TE):TE:=fun σ H Q=>td σ H fun x H1=>∃ a,x=.ref a/\IsD H1 a/\ty σ H1 fun y H2=>tx σ H2 fun z H3=>∃ o,aH9 H3 a y o/\Q (o.getD z) H3
section
variable {X:Cx}{o e f:Expr}{apos cpos:Pos}{td ty tx:TE}
theorem aMu (hu:X.A.units+1<cLine)(ho:PE X o td)(he:PE X e ty)(hf:PE X f tx)(m:M2 X o "get" apos e f cpos):PE X (.Call (.Attribute o "get" apos) [e,f] [] cpos) (aTd td ty tx):=by
 intro pins s σ H Q I h;refine wpAny_Call_method m.base m.few m.line PySem.F.plainAttrs_dict PySem.F.slot_dict_get PySem.F.type_dict_get (thn (ho pins s σ H _ I h) fun u s1 ⟨x,H1,I1,rx,a,ex,d,q1⟩=>?_)
 subst ex;obtain rfl:u=Value.ref a:=rx;obtain⟨t1,t2,_⟩:=aSe I1 d;refine⟨t1,t2,?_⟩
 rw[m.trees]
 refine Calls.callWith_builtin rfl (Calls.evalArgs_plain (Calls.spliced_cons (thn (he pins s1 σ H1 _ I1 q1) fun iv s2 ⟨y,H2,I2,ry,q2⟩ =>
  Calls.spliced_cons (thn (hf pins s2 σ H2 _ I2 q2) fun fv s3 ⟨z,H3,I3,rz,ov,g,q3⟩=>Calls.spliced_nil ?_))))
 exact aR6 hu I3 g ry rz fun w' s4 I4 rw'=>⟨_,H3,I4,rw',q3⟩
end
end L2
namespace Mir
open PySem L2
variable {X:Cx}{P:XP}{a b c e:Expr}{es:List Expr}{f g h':FE}{fs:FEs}{pos p:Pos}
def asK:D->R (List Int)
 | .tup ds=>dG ds
 | _=>.stk
theorem aAe {d:D}{x:Xc}(h:asK d=.exc x):False:=by
 cases d<;>simp[asK]at h
 exact eY h
def kS:List (List Int)->List D->List Int->Option D
 | k :: ks,d :: ds,j=>if k=j then some d else kS ks ds j
 | _,_,_=>none
def tK (ks:List (List Int))(ds:List D)(j:List Int)(v:D):List (List Int)×List D :=
 if j∈ks then (ks,(ks.zip ds).map fun p=>if p.1=j then v else p.2) else (ks++[j],ds++[v])
theorem aAo {a b:List Int}(h:a.map (Sum.inl:Int->Key)=b.map Sum.inl):a=b:=by
 induction a generalizing b with
 | nil=>cases b with
  | nil=>rfl
  | cons _ _=>simp at h
 | cons x r ih=>cases b with
  | nil=>simp at h
  | cons y s =>
   simp only[Ap,List.cons.injEq,Sum.inl.injEq]at h;rw[h.1,ih h.2]
theorem aTr (k:List Int):(k.map Sum.inl:List Key).map kV=k.map V.int:=by
 rw[Bb];rfl
section
variable {K:PySem.W.Frag}{G:Hp}
theorem zS {k:List Int}{ks:List (List Int)}{kvs:List (List Key×V)}(h:dF (k :: ks) kvs):∃ v r,kvs=(k.map Sum.inl,v) :: r/\dF ks r:=by
 unfold dF at h;cases kvs with
 | nil=>simp at h
 | cons p r =>
  simp only[List.cons.injEq,Ap]at h;exact⟨p.2,r,by rw[←h.1],h.2⟩
theorem uJ:∀ {ks:List (List Int)} {ds:List D} {kvs:List (List Key×V)} {j:List Int},dF ks kvs->aJ K G ds (kvs.map (·.2))->(∀ d,kS ks ds j=some d->∃ v,tM kvs (j.map Sum.inl)=some v/\Rep K G d v)/\(kS ks ds j=none->tM kvs (j.map Sum.inl)=none)
 | [],ds,kvs,j,hk,r=>by
  have e:kvs=[]:=by unfold dF at hk;simpa using hk
  subst e;exact⟨fun d z=>by simp[kS]at z,fun _=>rfl⟩
 | k :: ks,ds,kvs,j,hk,r=>by
  obtain⟨v,t,rfl,hk'⟩:=zS hk;cases ds with
  | nil=>have:=r.length;simp at this
  | cons d ds =>
   obtain⟨x,xr,e1,e2,e3⟩:=r;simp only[Ap,List.cons.injEq]at e1;obtain⟨e1,e1'⟩:=e1;subst e1 e1';by_cases z:k=j
   · subst z
     refine⟨fun d' q=>?_,fun q=>by simp[kS]at q⟩
     simp only[kS,if_true,Db.injEq]at q;subst q;exact⟨v,qM rfl,e2⟩
   · have nz:¬ (k.map Sum.inl:List Key)=j.map Sum.inl:=fun w=>z (aAo w)
     have ih:=uJ (j:=j) hk' e3;rw[qR (p:=(k.map Sum.inl,v)) nz];simp only[kS,if_neg z];exact ih
theorem aFw:∀ {ks:List (List Int)} {ds:List D} {kvs:List (List Key×V)} {j:List Int} {d:D} {v:V},dF ks kvs->aJ K G ds (kvs.map (·.2))->Rep K G d v->aJ K G ((ks.zip ds).map fun p=>if p.1=j then d else p.2) ((kvs.map fun kv=>if kv.1=j.map Sum.inl then (kv.1,v) else kv).map (·.2))
 | [],ds,kvs,j,d,v,hk,r,rv=>by
  have e:kvs=[]:=by unfold dF at hk;simpa using hk
  subst e;rfl
 | k :: ks,ds,kvs,j,d,v,hk,r,rv=>by
  obtain⟨u,t,rfl,hk'⟩:=zS hk;cases ds with
  | nil=>have:=r.length;simp at this
  | cons d0 ds =>
   obtain⟨x,xr,e1,e2,e3⟩:=r;simp only[Ap,List.cons.injEq]at e1;obtain⟨e1,e1'⟩:=e1;subst e1 e1';have ih:=aFw (j:=j) hk' e3 rv;by_cases z:k=j
   · subst z
     refine⟨v,_,?_,?_,ih⟩
     · simp
     · simp only[if_true];exact rv
   · have nz:¬ (k.map Sum.inl:List Key)=j.map Sum.inl:=fun w=>z (aAo w)
     refine⟨u,_,?_,?_,ih⟩
     · simp[nz]
     · simp only[if_neg z];exact e2
theorem aOq {ks:List (List Int)}{kvs:List (List Key×V)}(hk:dF ks kvs)(j:List Int):(kvs.any fun kv=>decide (kv.1=j.map Sum.inl))=decide (j∈ks):=by
 have e:(kvs.any fun kv=>decide (kv.1=j.map Sum.inl))=(kvs.map (·.1)).any fun q=>decide (q=j.map Sum.inl):=by rw[Gq];rfl
 rw[e,hk,Gq];rw[Bool.eq_iff_iff,decide_eq_true_eq,Fn];constructor
 · rintro⟨q,hq,w⟩
   rw[←aAo (of_decide_eq_true w)];exact hq
 · intro hq
   exact⟨j,hq,decide_eq_true rfl⟩
theorem aFv {ks:List (List Int)}{ds:List D}{kvs:List (List Key×V)}{j:List Int}{d:D}{v:V}(hk:dF ks kvs)(r:aJ K G ds (kvs.map (·.2)))(rv:Rep K G d v):dF (tK ks ds j d).1 (pE kvs (j.map Sum.inl) v)/\aJ K G (tK ks ds j d).2 ((pE kvs (j.map Sum.inl) v).map (·.2)):=by
 unfold tK pE;rw[aOq hk j];by_cases z:j∈ks
 · rw[if_pos z,decide_eq_true z,if_pos rfl]
   refine⟨?_,aFw hk r rv⟩
   unfold dF at hk ⊢;rw[Bb,←hk];apply Bq
   intro p _;show (if p.1=_ then (p.1,v) else p).1=p.1
   split<;>rfl
 · rw[if_neg z,decide_eq_false z,if_neg (by simp)]
   refine⟨?_,?_⟩
   · unfold dF at hk ⊢
     rw[Bk,Bk,hk];rfl
   · rw[Bk];exact r.append (aJ.one rv)
end
def wZ:FE:=fun _=>.ok ⟨.tmp,true,.dct [] []⟩
theorem aLd:PE X (.Dict [] [] pos) (tE X.K P wZ):=by
 refine PE.imp aL4 ?_
 rintro σ H Q ⟨H0,B,ρ,d,h⟩ p hp
 refine h _ _ (aL.upd_new hp) ⟨p,_,rfl,hp,bL,⟨[],rfl,rfl,rfl⟩⟩
theorem aW.key {H0 H H':Hp}{B:Addr->Prop}{v:V}{r:Res}{k:List Int}{K:PySem.W.Frag}(g:aW K H0 H H' B v r)(e:asK r.d=.ok k):∃ b,v=.ref b/\H' b=some (.tup ((k.map Sum.inl:List Key).map kV)):=by
 cases hd:r.d with
 | tup ds =>
  rw[hd]at e;obtain⟨b,xs,h1,h2,h3⟩:=g.tuple hd;have:=aJ.ints e h3
  exact⟨b,h1,by rw[aTr,←this];exact h2⟩
 | _=>rw[hd]at e;simp[asK]at e
def pO (a k:FE):FE:=fun ρ=>do
 let x ← a ρ
 let y ← k ρ
 match x.d with
 | .dct ks ds=>do
  let j ← asK y.d
  match kS ks ds j with
  | some d=>.ok ⟨.shr,x.fr||d.imm,d⟩
  | none=>.stk
 | _=>.stk
theorem aMz (hu:X.A.units+64<cLine)(ha:PE X a (tE X.K P f))(hb:PE X b (tE X.K P g))(hs:aTu b:=by exact fun _ _=>rfl):PE X (.Subscript a b pos) (tE X.K P (pO f g)):=by
 refine PE.imp (aNk (by omega) ha hb hs) ?_
 intro σ H Q h;refine t2 (q:=fun x y H2=>∃ a v,x=.ref a/\aH9 H2 a y (some v)/\Q v H2) h ?_
 intro H0 B ρ v w H' r r' d g1 g2 s h;cases hd:r.d with
 | dct ks ds =>
  simp only[hd]at h;cases e1:asK r'.d with
  | stk=>simp[e1]at h
  | exc x=>exact(aAe e1).elim
  | ok j =>
   simp only[e1,R.ok_bind]at h;obtain⟨a,kvs,h1,h2,h3,h4⟩:=g1.dict hd;obtain⟨b,k1,k2⟩:=g2.key e1;cases e2:kS ks ds j with
   | none=>simp[e2]at h
   | some dd =>
    simp only[e2]at h;obtain⟨u,q1,q2⟩:=(uJ h3 h4).1 dd e2;exact⟨a,u,h1,.inr ⟨kvs,_,b,h2,k1,k2,q1.symm⟩,h u H' (aL.refl _) (Rep.fr d.sam q2)⟩
 | _=>simp[hd]at h
end Mir
namespace Mir
open PySem L2
variable {X:Cx}{P:XP}{a b c e:Expr}{es:List Expr}{f g k:FE}{fs:FEs}{pos p:Pos}
def pD (a k x:FE):FE:=fun ρ=>do
 let m ← a ρ
 match m.d with
 | .dct ks ds=>do
  let y ← k ρ
  let z ← x ρ
  let j ← asK y.d
  match kS ks ds j with
  | some d=>.ok ⟨.shr,m.fr||d.imm,d⟩
  | none=>do
   let i ← asI z.d
   .ok (sc (.int i))
 | _=>.stk
theorem aL1 {ap cp:Pos}(hu:X.A.units+64<cLine)(ha:PE X a (tE X.K P f))(hb:PE X b (tE X.K P k))(hc:PE X c (tE X.K P g))
 (hbase:attributeBase a "get" X.env (eval a X.env)=eval a X.env:=by rfl)
 (hfew:((backTo cp (starEach [b,c] X.env)).all (fun x=>!x.1)&&(backToKw cp (keywordEach [] X.env)).all (fun x=>x.1.isSome)&&decide (([b,c]:List Expr).length+([]:List Keyword).length+(if ([]:List Keyword).isEmpty then 0 else 1)<30))=true:=by rfl)
 (hline:(ap.endLine==cp.line)=true:=by rfl) (htr:backTo cp (starEach [b,c] X.env)=[(false,eval b X.env),(false,eval c X.env)]:=by rfl) :
 PE X (.Call (.Attribute a "get" ap) [b,c] [] cp) (tE X.K P (pD f k g)):=by
 refine PE.imp (aMu (by omega) ha hb hc ⟨hbase,hfew,hline,htr⟩) ?_
 rintro σ H Q ⟨H0,B,ρ,d,h⟩
 unfold pD at h;cases e1:f ρ with
 | stk=>simp[e1]at h
 | exc x=>simp[e1]at h;exact dP d e1 h
 | ok r =>
  simp only[e1,R.ok_bind]at h;cases hd:r.d with
  | dct ks ds =>
   simp only[hd]at h;refine fD d e1 fun v H1 s1 d1 g1=>?_
   obtain⟨a,kvs,h1,h2,h3,h4⟩:=g1.dict hd;refine⟨a,h1,.inr ⟨kvs,h2⟩,?_⟩
   cases e2:k ρ with
   | stk=>simp[e2]at h
   | exc x=>simp[e2]at h;exact dP d1 e2 (P.mono h s1)
   | ok r2 =>
    simp only[e2,R.ok_bind]at h;refine fD d1 e2 fun v2 H2 s2 d2 g2=>?_
    cases e3:g ρ with
    | stk=>simp[e3]at h
    | exc x=>simp[e3]at h;exact dP d2 e3 (P.mono h (s1.trans s2))
    | ok r3 =>
     simp only[e3,R.ok_bind]at h;refine fD d2 e3 fun v3 H3 s3 d3 g3=>?_
     cases e4:asK r2.d with
     | stk=>simp[e4]at h
     | exc x=>exact(aAe e4).elim
     | ok j =>
      simp only[e4,R.ok_bind]at h;obtain⟨bb,k1,k2⟩:=g2.key e4;have s23:=s2.trans s3;have h2':Rd H3 a (.dT kvs):=aL.rd s23 h2;have h4':aJ X.K (bH r.fr H0 H3 B) ds (kvs.map (·.2)):=aJ.same (bA (fun b o q _=>s23 b o q) fun b z=>.inl z) h4;cases e5:kS ks ds j with
      | some dd =>
       simp only[e5]at h;obtain⟨u,q1,q2⟩:=(uJ h3 h4').1 dd e5;exact⟨some u,.inr ⟨kvs,_,bb,h2',k1,s3 _ _ k2,q1.symm⟩,h u H3 ((s1.trans s2).trans s3) (Rep.fr d3.sam q2)⟩
      | none =>
       simp only[e5]at h;have q1:=(uJ (j:=j) h3 h4').2 e5;cases e6:asI r3.d with
       | stk=>simp[e6]at h
       | exc x=>exact(dR e6).elim
       | ok i =>
        simp only[e6,R.ok_bind]at h;refine⟨none,.inr ⟨kvs,_,bb,h2',k1,s3 _ _ k2,q1.symm⟩,?_⟩
        show Q v3 H3
        rw[g3.int (eN e6)];exact h _ H3 ((s1.trans s2).trans s3) (aW.sc (show Rep _ _ (.int i) _ from rfl))
  | _=>simp[hd]at h
def ownD (i:Nat)(ρ:Env):R (Bool×List (List Int)×List D):=match ρ[i]? with
 | some (some ⟨.own,fr,.dct ks ds⟩)=>.ok (fr,ks,ds)
 | _=>.stk
theorem aNd {i:Nat}{ρ:Env}{y:Bool×List (List Int)×List D}(h:ownD i ρ=.ok y):ρ[i]?=some (some ⟨.own,y.1,.dct y.2.1 y.2.2⟩):=by
 unfold ownD at h;split at h
 · rename_i e;cases h;exact e
 · cases h
def rR (i:Nat)(k f:FE):FS:=fun ρ=>(ownD i ρ).at ρ fun y=>(f ρ).at ρ fun r=>(r.give).at ρ fun x=>(k ρ).at ρ fun kr=>(asK kr.d).at ρ fun j =>
 if y.2.1.length<sizeLine then .nx (ρ.set i (some ⟨.own,y.1&&x.fr,.dct (tK y.2.1 y.2.2 j x.d).1 (tK y.2.1 y.2.2 j x.d).2⟩)) else .stk
theorem dF.len {ks:List (List Int)}{kvs:List (List Key×V)}(h:dF ks kvs):kvs.length=ks.length:=by
 simpa using congrArg Fp h
theorem aKu {i:Nat}{x:Str}{p tp:Pos}(hu:X.A.units+64<cLine)(hN:X.N[i]?=some x)(hv:Vis X.env.scope x)(hk:PE X b (tE X.K P k))(he:PE X e (tE X.K P f))(hd:(x==("__debug__":Str))=false:=by decide)(hcd:(x==("__classdict__":Str))=false:=by decide)
 (hs:swapsWith e (some (.Subscript (.Name x p) b tp)) pos.line X.env=pure false:=by rfl) :
 PS X (.Assign [.Subscript (.Name x p) b tp] e pos) (tS X.K P (rR i k f)):=by
 refine PS.imp (aOt (by omega) (rW hN hv hd hcd) hk he hs) ?_
 rintro D σ H ⟨H0,T,ρ,d,h⟩
 unfold rR at h;cases e0:ownD i ρ with
 | stk=>simp only[e0,R.at]at h;exact h.elim
 | exc z=>unfold ownD at e0;split at e0<;>cases e0
 | ok y =>
  simp only[e0,R.at]at h;have ho:=aNd e0;cases e1:f ρ with
  | stk=>simp only[e1]at h;exact h.elim
  | exc z=>simp only[e1]at h;exact dP d.e e1 (h σ H d Ext.refl)
  | ok r =>
   simp only[e1]at h;refine fD d.e e1 fun v H1 s1 d1 g1=>?_
   cases e2:r.give with
   | stk=>simp only[e2]at h;exact h.elim
   | exc z=>unfold Res.give at e2;split at e2<;>cases e2
   | ok r' =>
    simp only[e2]at h;obtain⟨w1,w2⟩:=g1.give d.e e2;subst w1;obtain⟨a,kvs,q1,q2,q3,q4,q5⟩:=d.ownD ho;refine⟨_,q1,?_⟩
    cases e3:k ρ with
    | stk=>simp only[e3]at h;exact h.elim
    | exc z=>simp only[e3]at h;exact dP d1 e3 (h σ H1 (d.mono s1) (Ext.same s1))
    | ok kr =>
     simp only[e3]at h;refine fD d1 e3 fun v2 H2 s2 d2 g2=>?_
     cases e4:asK kr.d with
     | stk=>simp only[e4]at h;exact h.elim
     | exc z=>exact(aAe e4).elim
     | ok j =>
      simp only[e4]at h;by_cases hz:y.2.1.length<sizeLine
      · rw[if_pos hz]at h
        obtain⟨bb,k1,k2⟩:=g2.key e4;have s12:=s1.trans s2;have dS:=d.mono s12;have m1:∀ fr,aL (bH fr H0 H1 (Bs T σ ρ)) (bH fr H0 H2 (Bs T σ ρ)):=fun fr=>bA (fun b o q _=>s2 b o q) fun b z=>.inl z;have m2:∀ fr,aL (bH fr H0 H (Bs T σ ρ)) (bH fr H0 H2 (Bs T σ ρ)):=fun fr=>bA (fun b o q _=>s12 b o q) fun b z=>.inl z
        have rv:Rep X.K (bH (y.1&&r.fr) H0 H2 (Bs T σ ρ)) r.d v:=by
         obtain⟨_,_,z1,z2,_⟩:=(aJ.one (Rep.same (m1 _) w2)).andR (fr:=y.1);cases z1;exact z2
        have pk:=aFv (j:=j) q4 (aJ.same (m2 _) q5).andL rv;refine⟨a,_,rfl,.inr ⟨kvs,j.map Sum.inl,bb,s12 _ _ q3,k1,k2,by rw[q4.len];exact hz,rfl⟩,?_⟩
        obtain⟨v1,v2⟩:=dS.writeO (fr:=y.1&&r.fr) (dd:=.dct (tK y.2.1 y.2.2 j r.d).1 (tK y.2.1 y.2.2 j r.d).2) (o':=.dT (pE kvs (j.map Sum.inl) v)) q1 ho rfl q2 ⟨_,rfl,pk.1,pk.2⟩;exact h σ _ v1 ((Ext.same s12).trans v2)
      · rw[if_neg hz]at h;exact h.elim
end Mir
namespace Srt
open PySem PySem.W PyProof.Rows
def ins {α:Type}(r:α->α->Bool)(x:α):List α->List α
 | []=>[x]
 | y :: l=>if r y x then y :: ins r x l else x :: y :: l
def srt {α:Type}(r:α->α->Bool):List α->List α
 | []=>[]
 | x :: l=>ins r x (srt r l)
section
variable {α:Type}{r:α->α->Bool}
theorem xI (x:α):∀ l:List α,(ins r x l).Perm (x :: l)
 | []=>Ck _
 | y :: l=>by
  unfold ins;split
  · exact((xI x l).cons y).trans (List.Perm.swap x y l)
  · exact Ck _
theorem dQ:∀ l:List α,(srt r l).Perm l
 | []=>Ck _
 | x :: l=>(xI x (srt r l)).trans ((dQ l).cons x)
structure Tot (r:α->α->Bool):Prop where
 asy:∀ {a b},r a b=true->r b a=false
 tri:∀ {a b},r a b=false->r b a=false->a=b
 trs:∀ {a b c},r a b=true->r b c=true->r a c=true
theorem Tot.le (t:Tot r){a b c:α}(h:r b a=false)(g:r c b=false):r c a=false:=by
 cases q:r c a with
 | false=>rfl
 | true =>
  cases ab:r a b with
  | true=>have:=t.trs q ab;rw[g]at this;cases this
  | false=>rw[t.tri ab h]at q;rw[g]at q;cases q
theorem aLo (t:Tot r)(x:α):∀ {l:List α},l.Pairwise (fun a b=>r b a=false)->(ins r x l).Pairwise fun a b=>r b a=false
 | [],_=>by simp[ins]
 | y :: l,h=>by
  have hc:=Gf.mp h;obtain⟨h1,h2⟩:=hc;unfold ins;split
  · rename_i z
    refine Gf.mpr ⟨fun b hb=>?_,aLo t x h2⟩
    rcases An.mp ((xI x l).mem_iff.mp hb) with e | e
    · rw[e];exact t.asy z
    · exact h1 b e
  · rename_i z
    have z':r y x=false:=by simpa using z
    refine Gf.mpr ⟨fun b hb=>?_,h⟩
    rcases An.mp hb with e | e
    · rw[e];exact z'
    · exact t.le z' (h1 b e)
theorem gM (t:Tot r):∀ l:List α,(srt r l).Pairwise fun a b=>r b a=false
 | []=>Dg
 | x :: l=>aLo t x (gM t l)
theorem gJ (t:Tot r){l k:List α}(p:k.Perm l)(u:k.Pairwise fun a b=>r b a=false):k=srt r l :=
 List.Perm.eq_of_pairwise (le:=fun a b=>r b a=false) (fun a b _ _ h g=>t.tri g h) u (gM t l) (p.trans (dQ l).symm)
theorem aBd (l:List α):(srt r l).length=l.length:=(dQ l).length_eq
theorem zI (ks:List α)(d0:α):(Ao ks.length).map (fun i=>ks.getD i d0)=ks:=by
 refine Fm (by simp) fun i h1 h2=>?_
 simp[h2]
theorem uT {n:Nat}{p:Array Nat}(ip:Inv n p):p.toList.Perm (Ao n):=by simpa using Array.perm_iff_toList_perm.mp ip
theorem aS2 (t:Tot r){p:Array Nat}{ks:List α}(d0:α)(ip:Inv ks.length p)(u:Up (fun i j=>r (ks.getD i d0) (ks.getD j d0)) p ks.length):p.toList.map (fun i=>ks.getD i d0)=srt r ks:=by
 refine gJ t ?_ ?_
 · have:=(uT ip).map fun i=>ks.getD i d0
   rw[zI]at this;exact this
 · rw[Co,List.pairwise_iff_getElem]
   intro i j hi hj hij;have sz:=ip.size;have:=u i j (Eh hij) (by rw[←sz];simpa using hj)
   unfold at' at this;have ei:p.getD i 0=p.toList[i]:=by simp[Array.getD,show i<p.size by simpa using hi]
   have ej:p.getD j 0=p.toList[j]:=by simp[Array.getD,show j<p.size by simpa using hj]
   rw[ei,ej]at this;exact this
end
def ix (a b:Int):Bool:=decide (a<b)
theorem eQ:Tot ix:=⟨fun h=>decide_eq_false (by have:=of_decide_eq_true h;omega),fun h g=>by have:=of_decide_eq_false h;have:=of_decide_eq_false g;omega,fun h g=>decide_eq_true (by have:=of_decide_eq_true h;have:=of_decide_eq_true g;omega)⟩
theorem aDy:Tot lx:=⟨aEp,aD8,aDn⟩
theorem lJ:Tot px:=⟨aS6,aRs,aRt⟩
theorem Tot.ord {α:Type}{r:α->α->Bool}(t:Tot r)(key:Nat->α):Ord fun i j=>r (key i) (key j):=aTt key t.asy t.tri t.trs
section
variable {prog:Program}{w:World}{A:Around}{E:Value->Shared->Prop}{s:Shared}
theorem aAp:∀ {vs:List Value} {ns:List Int} {i:Nat},IntsAre vs ns->i<vs.length->∃ t,vs.getD i Value.none=.int (ns.getD i 0) t
 | _,_,_,.nil,h=>by simp at h
 | _,_,0,.cons n t hr,_=>⟨t,rfl⟩
 | _,_,i+1,.cons n t hr,h=>by
  obtain⟨u,e⟩:=aAp (i:=i) hr (by simpa using h)
  exact⟨u,by simpa using e⟩
theorem aMh {vs:List Value}{ns:List Int}{t:Shared}(T:IntsAre vs ns)(two:2<=vs.length) :
 wpAny (model prog w) A (keyKind' vs.toArray) (fun κ t'=>oA t t'/\pC prog w A (fun i j=>ix (ns.getD i 0) (ns.getD j 0)) vs κ t) (fun _ _=>False) t:=by
 match vs,T,two with
 | v1 :: v2 :: vs,T,_ =>
  rw[keyKind_ints T];refine wpAny_pure ⟨oA.refl t,fun i j C s1 hi hj l q=>?_⟩
  obtain⟨t1,e1⟩:=aAp T hi;obtain⟨t2,e2⟩:=aAp T hj;unfold kas_ask;rw[e1,e2];exact kat_lt_int (q s1 l)
end
end Srt
namespace L2
open PySem PySem.Spec PyProof.Rows
section
variable {X:Cx}{pins:List (Addr×Obj)}{σ:St}{H:Hp}{s:Shared}{h':Heap}{D:Addr}{o:HO}
theorem dD.there {P:Program}{w:World}{h:Heap}{a:Addr}(x:dD P w H h a o):∃ u,h.get? a=some u:=by
 cases o with
 | lst xs=>obtain⟨_,_,_,_,e⟩:=x;exact⟨_,e⟩
 | tup xs=>obtain⟨_,_,_,u,e,_⟩:=x;exact⟨_,e⟩
 | dK kvs=>obtain⟨_,_,_,_,u,_,_,e,_⟩:=x;exact⟨_,e⟩
 | dT kvs=>obtain⟨_,_,_,_,u,_,_,e,_⟩:=x;exact⟨_,e⟩
 | set S n=>obtain⟨u,_,_,_,e,_⟩:=x;exact⟨_,e⟩
 | ins C dx fs=>obtain⟨_,_,_,e,_⟩:=x;exact⟨_,e⟩
 | own y=>exact x
 | xd fs=>obtain⟨_,⟨u,_,_,e,_⟩,_⟩:=x;exact⟨_,e⟩
 | rng lo hi=>obtain⟨_,_,_,e⟩:=x;exact⟨_,e⟩
 | frz ob u=>obtain⟨e,_⟩:=x;exact⟨_,e⟩
 | tbl ps=>exact⟨_,x⟩
 | met f y=>exact⟨_,x⟩
 | ext φ=>obtain⟨_,e,_⟩:=x;exact e
theorem Inv.laidN {t':Nat}(I:Inv X pins σ H s)(k:∀ b u,s.heap.get? b=some u->h'.get? b=some u)(hD:s.heap.get? D=none)(new:dD X.prog X.w (upd H D o) h' D o) :
 H D=none/\Inv X pins σ (upd H D o) { s with heap:=h',toks:=t' }:=by
 have hn:H D=none:=by
  cases q:H D with
  | none=>rfl
  | some u=>obtain⟨v,e⟩:=(I.hok D u q).there;rw[hD]at e;cases e
 have nb:∀ b u,s.heap.get? b=some u->b≠D:=fun b u e z=>by rw[z,hD]at e;cases e
 refine⟨hn,I.un ⟨fun b u q _ _ _=>k b u q,fun b u q _ _ _=>⟨u.slots,k b u q⟩,fun b u q n _=>?_,fun b u q _=>⟨u,k b u q⟩,fun b xs q=>?_,fun b u xs q=>?_,fun b ps q=>⟨#[],?_⟩⟩ fun b u e=>?_⟩
 · rw[aR (nb b u q)];exact n
 · rw[aR (bO q hn)];exact q
 · rw[aR (bO q hn)];exact q
 · rw[aR (bO q hn),q];simp
 · by_cases hb:b=D
   · subst hb;rw[bL]at e;cases e;exact new
   · rw[aR hb]at e
     exact(I.hok b u e).stay (fun c v _ q=>k c v q) (fun c q=>by rw[aR (bO q hn)];exact q) fun c xs q=>by rw[aR (bO q hn)];exact q
theorem bU.picks {ys:List V}{its:List Value}(r:bU ys its):∀ {l:List Nat},(∀ i∈l,i<ys.length)->bU (l.map fun i=>ys.getD i .non) (l.map fun i=>its.getD i Value.none)
 | [],_=>.nil
 | i :: l,h=>by
  refine .cons ?_ (bU.picks r fun j hj=>h j (Ad _ hj))
  have hi:=h i Ab;obtain⟨u,e,q⟩:=r.get (Aj hi);show bZ (ys.getD i .non) (its.getD i Value.none)
  rw[Al,Aj hi,Al,e];exact q
theorem sL {lt:Nat->Nat->Bool}{ys:List V}{its:List Value}{x:Value}{Q:VK}(od:Srt.Ord lt)(I:Inv X pins σ H s)(r:bU ys its)(few:ys.length<64)
 (col:∀ R:List Value->Shared->Prop,(∀ h',(∀ b u,s.heap.get? b=some u->h'.get? b=some u)->R its { s with heap:=h' })->wpAny (model X.prog X.w) X.A.in1 (collect x) R X.xe s)
 (ask:2<=its.length->∀ t:Shared,(∀ b y,s.heap.get? b=some y->t.heap.get? b=some y)->wpAny (model X.prog X.w) X.A.in1.in1 (keyKind' its.toArray) (fun κ t'=>Srt.oA t t'/\Srt.pC X.prog X.w X.A.in1.in1 lt its κ t) (fun _ _=>False) t)
 (q:∀ p,Srt.Inv ys.length p->Srt.Up lt p ys.length->∀ l,H l=none->Q (.ref l) (upd H l (.lst (p.toList.map fun i=>ys.getD i .non)))) :
 wpAny (model X.prog X.w) X.A (call (.builtin "sorted") [x]) (EP X pins σ Q) X.xe s:=by
 have hl:=r.length;refine Srt.aG7 od (vs:=its) (by rw[←hl];exact few) (col _ fun h' k=>⟨rfl,h',s.toks,rfl,k⟩) ask fun p h' tk c D ip u k hD e=>?_
 rw[←hl]at ip u;have bd:∀ i∈p.toList,i<ys.length:=fun i hi=>by simpa using (Srt.uT ip).mem_iff.mp hi
 have ln:(p.toList.map fun i=>ys.getD i V.non).length<=sizeLine:=by
  rw[Ac,Array.length_toList,ip.size,sizeLine_eq];omega
 obtain⟨h1,h2⟩:=I.laidN (t':=tk) (o:=.lst (p.toList.map fun i=>ys.getD i .non)) k hD ⟨ln,_,c,r.picks bd,e⟩;exact⟨.ref D,_,h2,rfl,q p ip u D h1⟩
end
end L2
namespace L2
open PySem PySem.Spec PyProof.Rows
abbrev pick (p:Array Nat)(ys:List V):List V:=p.toList.map fun i=>ys.getD i .non
section
variable {X:Cx}{pins:List (Addr×Obj)}{σ:St}{H:Hp}{s:Shared}
theorem aF0 {a:Addr}{its:List Value}(hq:PlainL s.heap a its.toArray\/IsTup s.heap a its.toArray)(hz:its.length<=sizeLine)(R:List Value->Shared->Prop)
 (k:∀ h',(∀ b u,s.heap.get? b=some u->h'.get? b=some u)->R its { s with heap:=h' }):wpAny (model X.prog X.w) X.A.in1 (collect (.ref a)) R X.xe s:=by
 rcases hq with hq | hq
 · obtain⟨o,ho,hc,n,hd⟩:=hq.isList
   exact wpAny_collect_seq a (.inl rfl) ho hc hd (fun h' kp=>k h' kp) (by simpa using hz)
 · obtain⟨o,ho,hc,n,hd⟩:=hq
   exact wpAny_collect_seq a (.inr rfl) ho hc hd (fun h' kp=>k h' kp) (by simpa using hz)
theorem aGv:kI X (.builtin "sorted") (fun xs H Q=>∃ (a:Addr) (ns:List Int),xs=[.ref a]/\(SqL X.K H a (ns.map V.int)\/SqT X.K H a (ns.map V.int))/\ns.length<64 /\
 ∀ p,Srt.Inv ns.length p->Srt.Up (fun i j=>Srt.ix (ns.getD i 0) (ns.getD j 0)) p ns.length->∀ l,H l=none->Q (.ref l) (upd H l (.lst (pick p (ns.map V.int))))):=by
 intro pins s σ H xs us Q I r h;obtain⟨a,ns,rfl,hq,few,q⟩:=h;obtain⟨u,rfl,rx⟩:=kE r;cases rx
 obtain⟨its,rv,pl,hz⟩:∃ its:List Value,bU (ns.map V.int) its/\(PlainL s.heap a its.toArray\/IsTup s.heap a its.toArray)/\its.length<=sizeLine:=by
  rcases hq with hq | hq
  · obtain⟨its,r,pl,z⟩:=I.list hq;exact⟨its,r,.inl pl,by rw[←r.length];exact z⟩
  · obtain⟨its,r,pl,z⟩:=I.tuple hq;exact⟨its,r,.inr pl,by rw[←r.length];exact z⟩
 have hi:=lU rv;refine sL (Srt.eQ.ord fun i=>ns.getD i 0) I rv (by simpa using few) (fun R k=>aF0 pl hz R k) (fun two t k=>Srt.aMh hi two) fun p ip u l hl=>?_
 rw[Ac]at ip u;exact q p ip u l hl
def PrV (H:Hp)(ys:List V)(ks:List (List Int×Int)):Prop:=ys.length=ks.length/\∀ (i:Nat) (k:List Int×Int),ks[i]?=some k->∃ p b,ys[i]?=some (.ref p)/\H p=some (.tup [.ref b,.int k.2])/\H b=some (.tup (k.1.map V.int))
theorem lO (I:Inv X pins σ H s){b:Addr}{xs:List V}(h:H b=some (.tup xs)):∃ its:List Value,bU xs its/\IsTup s.heap b its.toArray:=by
 obtain⟨_,its,r,t⟩:=I.hok b _ h;exact⟨its,r,t⟩
theorem IsTup.on {h h':Heap}{a:Addr}{its:Array Value}(t:IsTup h a its)(k:∀ b u,h.get? b=some u->h'.get? b=some u):IsTup h' a its:=by
 obtain⟨o,h1,h2⟩:=t;exact⟨o,k a o h1,h2⟩
theorem aG0 (I:Inv X pins σ H s){h':Heap}{ys:List V}{its:List Value}{ks:List (List Int×Int)}(r:bU ys its)(z:PrV H ys ks)(k:∀ b u,s.heap.get? b=some u->h'.get? b=some u):Srt.oF h' its ks:=by
 refine⟨by rw[←r.length];exact z.1,fun i q hq=>?_⟩
 obtain⟨p,b,h1,h2,h3⟩:=z.2 i q hq;obtain⟨u,e,ru⟩:=r.get h1;cases (show u=Value.ref p from ru)
 obtain⟨i2,r2,t2⟩:=lO I h2;obtain⟨i3,r3,t3⟩:=lO I h3;obtain⟨v1,v2,rfl,q1,q2⟩:=aJr r2;cases (show v1=Value.ref b from q1)
 obtain⟨tz,rfl⟩:=(show ∃ t,v2=Value.int q.2 t from q2)
 exact⟨p,b,i3.toArray,tz,e,IsTup.on t2 k,IsTup.on t3 k,by simpa using lU r3⟩
theorem aIj (hu:X.A.units+64<cLine):kI X (.builtin "sorted") (fun xs H Q=>∃ (a:Addr) (ys:List V) (ks:List (List Int×Int)),xs=[.ref a]/\SqL X.K H a ys/\PrV H ys ks/\ys.length<64 /\
 ∀ p,Srt.Inv ks.length p->Srt.Up (fun i j=>Srt.px (ks.getD i ([],0)) (ks.getD j ([],0))) p ks.length->∀ l,H l=none->Q (.ref l) (upd H l (.lst (pick p ys)))):=by
 intro pins s σ H xs us Q I r h;obtain⟨a,ys,ks,rfl,hq,hp,few,q⟩:=h;obtain⟨u,rfl,rx⟩:=kE r;cases rx;obtain⟨its,rv,pl,z⟩:=I.list hq;refine sL (Srt.lJ.ord fun i=>ks.getD i ([],0)) I rv few (fun R k=>aF0 (.inl pl) (by rw[←rv.length];exact z) R k) (fun two t k=>Srt.aHm (aG0 I rv hp k) (by show X.A.units+1+1<cLine;omega) two) fun p ip u l hl=>?_
 rw[hp.1]at ip u;exact q p ip u l hl
theorem KT.addrs {kvs:List (List Key×V)}{xs:List (List Key×Addr×Value)}(r:KT H kvs xs):xs.length=kvs.length/\∀ (i:Nat) (q:List Key×Addr×Value),xs[i]?=some q->∃ p,kvs[i]?=some p/\H q.2.1=some (.tup (p.1.map kV)):=by
 induction r with
 | nil=>exact⟨rfl,fun i q h=>by simp at h⟩
 | cons hq t ih =>
  refine⟨by simp[ih.1],fun i q h=>?_⟩
  cases i with
  | zero=>simp at h;subst h;exact⟨_,rfl,hq.2.1⟩
  | succ j =>
   obtain⟨p,h1,h2⟩:=ih.2 j q (by simpa using h)
   exact⟨p,by simpa using h1,h2⟩
def KyV (H:Hp)(bs:List Addr)(js:List (List Int)):Prop:=bs.length=js.length/\∀ (i:Nat) (b:Addr) (k:List Int),bs[i]?=some b->js[i]?=some k->H b=some (.tup (k.map V.int))
theorem aBx:∀ (bs:List Addr),bU (bs.map V.ref) (bs.map Value.ref)
 | []=>.nil
 | b :: bs=>.cons rfl (aBx bs)
theorem aLl (I:Inv X pins σ H s){h':Heap}{bs:List Addr}{js:List (List Int)}(z:KyV H bs js)(k:∀ b u,s.heap.get? b=some u->h'.get? b=some u):Srt.qH h' (bs.map Value.ref) js:=by
 refine⟨by simpa using z.1,fun i q hq=>?_⟩
 have hi:i<bs.length:=by rw[z.1];exact(Au.mp hq).1
 have hb:=Aj hi;obtain⟨i2,r2,t2⟩:=lO I (z.2 i bs[i] q hb hq);exact⟨bs[i],i2.toArray,by simp[hb],IsTup.on t2 k,by simpa using lU r2⟩
theorem aAa (k:List Int):(k.map (Sum.inl:Int->Key)).map kV=k.map V.int:=by
 rw[Bb];rfl
theorem aNm (I:Inv X pins σ H s){a:Addr}{kvs:List (List Key×V)}{js:List (List Int)}(h:Rd H a (.dT kvs))(hk:kvs.map (·.1)=js.map (·.map Sum.inl)) :
 (a==sysModules)=false/\∃ (es:Array DictEntry) (ep:Nat) (bs:List Addr),Dk.Ent s.heap a es ep/\es.size=js.length/\js.length<=sizeLine/\es.toList.map (·.key)=bs.map Value.ref/\KyV H bs js:=by
 obtain⟨z,y,xs,r,o,es,ep,h1,h2,h3,h4,h5⟩:=(show dD X.prog X.w H s.heap a (.dT kvs) from aGd I.hok h)
 obtain⟨k1,k2⟩:=KT.addrs (show KT H kvs xs from r)
 have ln:kvs.length=js.length:=by simpa using congrArg Fp hk
 have el:es.size=xs.length:=by rw[←Array.length_toList,h4,Ac]
 refine⟨y,es,ep,xs.map (·.2.1),⟨o,h1,h2,h3⟩,by omega,by omega,?_,by simp;omega,fun i b k hb hj=>?_⟩
 · rw[h4,Bb,Bb];rfl
 · rw[Aw]at hb
   cases e:xs[i]? with
   | none=>rw[e]at hb;cases hb
   | some q =>
    rw[e]at hb;cases hb;obtain⟨p,g1,g2⟩:=k2 i q e;have:(kvs.map (·.1))[i]?=(js.map (·.map Sum.inl))[i]?:=by rw[hk]
    rw[Aw,Aw,g1,hj]at this;have e2:p.1=k.map Sum.inl:=by simpa using this
    show H q.2.1=_
    rw[g2,e2,aAa]
theorem aHs (hc:X.calm=true):kI X (.builtin "sorted") (fun xs H Q=>∃ (a:Addr) (kvs:List (List Key×V)) (js:List (List Int)),xs=[.ref a]/\Rd H a (.dT kvs)/\kvs.map (·.1)=js.map (·.map Sum.inl)/\js.length<64/\(2<=js.length->∀ k∈js,k≠[]) /\
 ∀ bs,KyV H bs js->∀ p,Srt.Inv js.length p->Srt.Up (fun i j=>Srt.lx (js.getD i []) (js.getD j [])) p js.length->∀ l,H l=none->Q (.ref l) (upd H l (.lst (pick p (bs.map V.ref))))):=by
 intro pins s σ H xs us Q I r h;obtain⟨a,kvs,js,rfl,hq,hk,few,ne,q⟩:=h;obtain⟨u,rfl,rx⟩:=kE r;cases rx;obtain⟨y,es,ep,bs,x,sz,z,ek,kb⟩:=aNm I hq hk;have lb:(bs.map V.ref).length=js.length:=by simpa using kb.1
 refine sL (Srt.aDy.ord fun i=>js.getD i []) I (aBx bs) (by omega) (fun R k=>Dk.aHi (I.ok.hd hc) y x (by omega) fun h' kp=>by rw[ek];exact k h' kp) (fun two t k=>?_) fun p ip u l hl=>?_
 · have two':2<=js.length:=by rw[←kb.1];simpa using two
   exact Srt.aMf (aLl I kb k) (ne two') two
 · rw[lb]at ip u
   exact q bs kb p ip u l hl
end
end L2
namespace L2
open PySem PySem.Spec PyProof.Rows
def ItD (a:Addr)(o:Obj)(kvs:List (List Key×V))(bs:List Addr):It :=
 ⟨fun i H=>H a=some (.frz o (.dT kvs))/\i<kvs.length,fun i H v H'=>∃ t b p,v=.ref t/\H t=none/\kvs[i]?=some p/\bs[i]?=some b/\H'=upd H t (.tup [.ref b,p.2]),fun i H=>H a=some (.frz o (.dT kvs))/\kvs.length<=i⟩
section
variable {X:Cx}{pins:List (Addr×Obj)}{σ:St}{H:Hp}{s:Shared}{a:Addr}{o:Obj}{kvs:List (List Key×V)}
theorem Inv.ice (I:Inv X pins σ H s)(h:H a=some (.dT kvs))(ho:s.heap.get? a=some o):Inv X pins σ (upd H a (.frz o (.dT kvs))) s:=by
 have hn:∀ {b:Addr} {u:HO},H b=some u->u≠.dT kvs->b≠a:=fun e d z=>by rw[z,h]at e;cases e;exact d rfl
 have hz:∀ {b:Addr},H b=none->b≠a:=fun e z=>by rw[z,h]at e;cases e
 refine I.un (t':=s.toks) ⟨fun b u q _ _ _=>q,fun b u q _ _ _=>⟨u.slots,q⟩,fun b u q n _=>by rw[aR (hz n)];exact n,fun b u q _=>⟨u,q⟩,fun b xs q=>by rw[aR (hn q (by simp))];exact q,fun b u xs q=>by rw[aR (hn q (by simp))];exact q,fun b ps q=>⟨#[],by rw[aR (hn q (by simp)),q];simp⟩⟩ fun b u e=>?_
 have st:∀ u,dD X.prog X.w H s.heap b u->dD X.prog X.w (upd H a (.frz o (.dT kvs))) s.heap b u:=fun u q=>q.stay (fun c v _ z=>z) (fun c z=>by rw[aR (hn z (by simp))];exact z) fun c xs z=>by rw[aR (hn z (by simp))];exact z
 by_cases hb:b=a
 · subst hb;rw[bL]at e;cases e
   exact⟨ho,st _ (I.hok b _ h)⟩
 · rw[aR hb]at e
   exact st u (I.hok b u e)
theorem Inv.melt (I:Inv X pins σ H s){u:HO}(h:H a=some (.frz o u))(n0:∀ o' u',X.H₀ a≠some (.frz o' u')):Inv X pins σ (upd H a u) s:=by
 have hn:∀ {b:Addr} {u':HO},H b=some u'->u'≠.frz o u->b≠a:=fun e d z=>by rw[z,h]at e;cases e;exact d rfl
 have hz:∀ {b:Addr},H b=none->b≠a:=fun e z=>by rw[z,h]at e;cases e
 have B:=I.base;refine⟨I.ok,I.os,I.bare,⟨B.keep,B.slot,fun b ob q n x=>?_,B.there,fun b xs q=>?_,fun b ob v q=>?_,fun b ps q=>?_⟩,I.loc,I.cell,?_,fun x c e=>?_,fun p hp=>?_,fun b v e=>?_,I.len⟩
 · have:=B.free b ob q n x
   rw[aR (hz this)];exact this
 · have:=B.tups b xs q
   rw[aR (hn this (by simp))];exact this
 · have:=B.frzs b ob v q
   rw[aR (fun z=>n0 ob v (by rw[←z];exact q))];exact this
 · obtain⟨m,e⟩:=B.tbls b ps q
   exact⟨m,by rw[aR (hn e (by simp))];exact e⟩
 · rw[aR (hz I.free)];exact I.free
 · have:=I.freeC x c e
   rw[aR (hz this)];exact this
 · obtain⟨e1,e2,e3⟩:=I.pin p hp
   exact⟨e1,by rw[aR (hz e2)];exact e2,e3⟩
 · have st:∀ v,dD X.prog X.w H s.heap b v->dD X.prog X.w (upd H a u) s.heap b v:=fun v q=>q.stay (fun c v _ z=>z) (fun c z=>by rw[aR (hn z (by simp))];exact z) fun c xs z=>by rw[aR (hn z (by simp))];exact z
   by_cases hb:b=a
   · subst hb;rw[bL]at e;cases e
     exact st _ (I.hok b _ h).2
   · rw[aR hb]at e
     exact st v (I.hok b v e)
theorem KT.vals {xs:List (List Key×Addr×Value)}(r:KT H kvs xs):∀ (i:Nat) (p:List Key×V),kvs[i]?=some p->∃ q,xs[i]?=some q/\H q.2.1=some (.tup (p.1.map kV))/\bZ p.2 q.2.2:=by
 induction r with
 | nil=>exact fun i q h=>by simp at h
 | cons hq t ih =>
  intro i q h;cases i with
  | zero=>simp at h;subst h;exact⟨_,rfl,hq.2⟩
  | succ j =>
   obtain⟨p,h1,h2⟩:=ih j q (by simpa using h)
   exact⟨p,by simpa using h1,h2⟩
theorem aT5 (I:Inv X pins σ H s)(h:H a=some (.frz o (.dT kvs))){es:Array DictEntry}{ep:Nat}(hd:o.data=.dict es ep):Dk.Ent s.heap a es ep/\es.size=kvs.length/\(a==sysModules)=false /\
 ∀ (i:Nat) (p:List Key×V),kvs[i]?=some p->∃ k b,es[i]?=some k/\k.key=.ref b/\H b=some (.tup (p.1.map kV))/\bZ p.2 k.val:=by
 obtain⟨e0,z,y,xs,r,o',es',ep',h1,h2,h3,h4,h5⟩:=I.hok a _ h;rw[e0]at h1;cases h1;rw[hd]at h3;cases h3;have el:es.size=xs.length:=by rw[←Array.length_toList,h4,Ac]
 refine⟨⟨o,e0,h2,hd⟩,by rw[el];exact(KT.addrs (show KT H kvs xs from r)).1,y,fun i p hp=>?_⟩
 obtain⟨q,q1,q2,q3⟩:=KT.vals (show KT H kvs xs from r) i p hp
 refine⟨entryOfKey (tupleKind (cF X.prog X.w)) q,q.2.1,?_,rfl,q2,q3⟩
 rw[←Array.getElem?_toList,h4,Aw,q1];rfl
end
def DTn (it a:Addr)(n ep:Nat)(i:Nat)(h:Heap):Prop:=∃ ok ov,h.get? it=some (Dk.irc a i n ep ok ov)
theorem aD6 {P:Program}{w:World}{K:PySem.W.Frag}{ts:List Expr}{k:Nat}{pos:Pos}{it a:Addr}{o:Obj}{kvs:List (List Key×V)}{es:Array DictEntry}{ep:Nat}{bs:List Addr}(hd:o.data=.dict es ep)(hb:es.toList.map (·.key)=bs.map Value.ref):Turn P w K (.Tuple ts k pos) (ItD a o kvs bs) [it] it (DTn it a es.size ep) where
 mem:=by simp
 obj:=fun i h ⟨ok,ov,e⟩ c hc=>by
  have z:c=it:=by simpa using hc
  subst z;exact⟨_,e,fun v z=>nomatch z⟩
 keep:=fun i h h' ⟨ok,ov,e⟩ kp=>⟨ok,ov,kp _ (by simp) _ e⟩
 item:=by
  intro X hP hw hK hc i pins s σ H E I hf st hg;subst hP hw hK;obtain⟨ok,ov,e⟩:=st;obtain⟨x,sz,_,get⟩:=aT5 I hg.1 hd;have hlt:i<kvs.length:=hg.2;obtain⟨ky,b,g1,g2,g3,g4⟩:=get i kvs[i] (Aj hlt)
  have hbi:bs[i]?=some b:=by
   have:(es.toList.map (·.key))[i]?=(bs.map Value.ref)[i]?:=by rw[hb]
   rw[Aw,Aw,Array.getElem?_toList,g1]at this;cases q:bs[i]? with
   | none=>rw[q]at this;cases this
   | some c=>rw[q]at this;simp[g2]at this;rw[this]
  have li:it<s.heap.objs.size:=Ae e;refine Dk.aVf e rfl (Dk.aTv e x g1 fun h' b1 b2 b3=>⟨_,rfl,_,rfl,?_⟩)
  refine wpAny_letOwnedTupleGo_items b1 fun hp2 c1 cs=>?_
  have kp:∀ c u,c∉[it]->s.heap.get? c=some u->hp2.get? c=some u:=fun c u hc' q=>by
   have nc:c≠it:=by simpa using hc'
   exact cs.extBut c u nc (b3 c u nc q)
  have pr:=cs.extBut _ _ (De li) b2;rw[g2]at pr
  refine⟨.ref s.heap.objs.size,upd H s.heap.objs.size (.tup [.ref b,kvs[i].2]),I.turnedNew (t':=s.toks) kp hf (fun c hc'=>?_) (Af _) ⟨by show 2<=sizeLine;decide,[.ref b,ky.val],.cons rfl (.cons g4 .nil),⟨_,pr,rfl,_,rfl⟩⟩,rfl,
   ⟨_,b,kvs[i],rfl,I.fresh,Aj hlt,hbi,rfl⟩,⟨_,_,c1⟩,fun c hc'=>?_⟩
  · have z:c=it:=by simpa using hc'
    subst z;exact⟨_,c1⟩
  · have z:c=it:=by simpa using hc'
    subst z;rw[aR (Ay li)];exact(hf c hc').1
 done:=by
  intro X hP hw hK hc i pins s σ H E I hf st hg;subst hP hw hK;obtain⟨ok,ov,e⟩:=st;obtain⟨x,sz,_,get⟩:=aT5 I hg.1 hd;refine Dk.aVf e rfl (Dk.aW0 (show X.A.in1.handled=none from I.ok.hd hc) e x (by rw[sz];exact hg.2) fun h' ex u e1 e2 eb=>⟨ex,u,rfl,e1,e2,rfl,I.turnedL (t':=s.toks) (fun c u hc' q=>?_) hf⟩)
  have nc:c≠it:=by simpa using hc'
  exact eb c u nc q
 self:=fun _ _ _ _ _ ⟨ok,ov,e⟩ h=>Dk.aT7 e h
def KyA (H:Hp)(bs:List Addr)(kvs:List (List Key×V)):Prop:=bs.length=kvs.length/\∀ (i:Nat) (b:Addr) (p:List Key×V),bs[i]?=some b->kvs[i]?=some p->H b=some (.tup (p.1.map kV))
def aS9 (td:TE):TI:=fun σ H R=>td σ H fun x H1=>∃ a kvs,x=.ref a/\((H1 a=some (.dT kvs)/\∀ o bs,KyA H1 bs kvs->R (ItD a o kvs bs) (upd H1 a (.frz o (.dT kvs))))\/∃ o,H1 a=some (.frz o (.dT kvs))/\∀ bs,KyA H1 bs kvs->R (ItD a o kvs bs) H1)
theorem aO0 {X:Cx}{pins:List (Addr×Obj)}{σ:St}{H:Hp}{s:Shared}{a:Addr}{o:Obj}{kvs:List (List Key×V)}(I:Inv X pins σ H s)(h:Rd H a (.dT kvs))(ho:s.heap.get? a=some o) :
 ∃ es ep bs,o.ExactDict/\o.data=.dict es ep/\es.toList.map (·.key)=bs.map Value.ref/\KyA H bs kvs/\(a==sysModules)=false:=by
 obtain⟨z,y,xs,r,o',es,ep,h1,h2,h3,h4,h5⟩:=(show dD X.prog X.w H s.heap a (.dT kvs) from aGd I.hok h)
 rw[ho]at h1;cases h1;obtain⟨k1,k2⟩:=KT.addrs (show KT H kvs xs from r)
 refine⟨es,ep,xs.map (·.2.1),h2,h3,by rw[h4,Bb,Bb];rfl,⟨by simp[k1],fun i b p hb hp=>?_⟩,y⟩
 rw[Aw]at hb;cases e:xs[i]? with
 | none=>rw[e]at hb;cases hb
 | some q =>
  rw[e]at hb;cases hb;obtain⟨p',g1,g2⟩:=k2 i q e;rw[hp]at g1;cases g1;exact g2
theorem aLy {X:Cx}{ts:List Expr}{k:Nat}{tp:Pos}{e:Expr}{td:TE}{ap cp:Pos}(he:PE X e td)(hbase:attributeBase e "items" X.env (eval e X.env)=eval e X.env:=by rfl)(hline:(ap.endLine==cp.line)=true:=by rfl) :
 PI X (.Tuple ts k tp) (.Call (.Attribute e "items" ap) [] [] cp) (aS9 td):=by
 intro pins s σ H R I h;refine wpAny_Call_method0_late hbase hline (thn (he pins s σ H _ I h) fun v s1 ⟨x,H1,I1,r1,a,kvs,ex,q1⟩=>?_)
 subst ex;obtain rfl:v=Value.ref a:=r1
 obtain⟨o,H2,I2,h2,q2⟩:∃ o H2,Inv X pins σ H2 s1/\H2 a=some (.frz o (.dT kvs))/\∀ bs,KyA H1 bs kvs->R (ItD a o kvs bs) H2:=by
  rcases q1 with ⟨q,f⟩ | ⟨o,q,f⟩
  · obtain⟨o,ho⟩:=(I1.hok a _ q).there
    exact⟨o,_,I1.ice q ho,bL,f o⟩
  · exact⟨o,H1,I1,q,f⟩
 have rd:Rd H1 a (.dT kvs):=q1.elim (fun z=>.inl z.1) fun⟨o,z,_⟩=>.inr ⟨o,z⟩;have ho:s1.heap.get? a=some o:=(I2.hok a _ h2).1;obtain⟨es,ep,bs,x1,x2,x3,x4,x5⟩:=aO0 I1 rd ho;have en:Dk.Ent s1.heap a es ep:=⟨o,ho,x1,x2⟩;refine⟨"dict","dict.items",PySem.F.plainAttrs_dict,PySem.F.slot_dict_items,PySem.F.type_dict_items,⟨o,ho,x1.1⟩,fun a' e'=>by cases e';exact⟨o,ho,x1.2.1⟩,Calls.callWith_builtin rfl (PySem.evalArgs_none (Dk.aM6 x5 en ?_))⟩
 have en1:Dk.Ent (s1.heap.push { cls:=.type "dict_items",data:=.fields #[.ref a] }) a es ep:=⟨o,Aa _ ho,x1,x2⟩;refine Dk.aRf (Ag _ rfl) en1 ?_
 have big:s1.heap.objs.size<=(s1.heap.push { cls:=.type "dict_items",data:=.fields #[.ref a] }).objs.size:=by rw[Bw];exact Nat.le_succ _
 have fr:=I2.hok.fresh big
 exact⟨_,[_],_,_,H2,rfl,I2.kept (t':=s1.toks) fun b u q=>Aa _ (Aa _ q),aD6 x2 x3,⟨_,_,Ag _ rfl⟩,fun c hc'=>by
  rw[Aq.mp hc']
  exact I2.fpOk big fr,q2 bs x4⟩
def aW4 (H H2 H3:Hp):Prop:=H3=H2\/∃ a o u,H2 a=some (.frz o u)/\(∀ o' u',H a≠some (.frz o' u'))/\H3=upd H2 a u
theorem aOf {X:Cx}{e:Expr}{t:TE}(h:PE X e t):PE X e (fun σ H Q=>t σ H fun v H2=>∃ H3,aW4 H H2 H3/\Q v H3):=by
 intro pins s σ H Q I q;refine thn (h pins s σ H _ I q) fun v s1 ⟨x,H2,I2,r,H3,m,q⟩=>?_
 rcases m with m | ⟨a,o,u,m1,m2,m3⟩
 · subst m
   exact⟨x,H3,I2,r,q⟩
 · subst m3
   exact⟨x,_,I2.melt m1 fun o' u' z=>m2 o' u' (I.base.frzs a o' u' z),r,q⟩
end L2
namespace Mir
open PySem L2
variable {X:Cx}{P:XP}{a b c e:Expr}{es:List Expr}{f g:FE}{fs:FEs}{pos p:Pos}
section
variable {K:PySem.W.Frag}{G:Hp}
theorem aJ.map_ints:∀ (ns:List Int),aJ K G (ns.map D.int) (ns.map V.int)
 | []=>rfl
 | n :: ns=>⟨.int n,_,rfl,rfl,aJ.map_ints ns⟩
theorem aJ.pick {α:Type}(mk:α->D){ks:List α}{ys:List V}{q:Array Nat}{d0:α}{r:α->α->Bool}(t:Srt.Tot r)(h:aJ K G (ks.map mk) ys)(ip:Srt.Inv ks.length q)(u:Srt.Up (fun i j=>r (ks.getD i d0) (ks.getD j d0)) q ks.length) :
 aJ K G ((Srt.srt r ks).map mk) (L2.pick q ys):=by
 rw[←Srt.aS2 t d0 ip u,Bb];have bd:∀ i∈q.toList,i<ks.length:=fun i hi=>by simpa using (Srt.uT ip).mem_iff.mp hi
 have ln:=h.length;rw[Ac]at ln
 have go:∀ l:List Nat,(∀ i∈l,i<ks.length)->aJ K G (l.map (mk∘fun i=>ks.getD i d0)) (l.map fun i=>ys.getD i .non):=by
  intro l;induction l with
  | nil=>intro _;rfl
  | cons i l ih =>
   intro b;have hi:=b i Ab;obtain⟨v,e1,e2⟩:=h.get (i:=i) (d:=mk (ks.getD i d0)) (by simp[hi])
   exact⟨_,_,rfl,by show Rep K G (mk (ks.getD i d0)) (ys.getD i .non);rw[show ys.getD i .non=v by simp[e1]];exact e2,ih fun j hj=>b j (Ad _ hj)⟩
 exact go q.toList bd
end
def pP (a:FE):FE:=fun ρ=>do
 let x ← a ρ
 let ds ← asS x.d
 let ns ← dG ds
 if ns.length<64 then .ok ⟨.tmp,true,.lst ((Srt.srt Srt.ix ns).map D.int)⟩ else .stk
theorem vP:bootBuiltins "sorted" = some (.builtin "sorted"):=by decide +kernel
theorem aJz (hg:Gl X "sorted")(hm:X.mg "sorted" = none)(ha:PE X a (tE X.K P f))(he:starEach [a] X.env=[(false,eval a X.env)]:=by rfl):PE X (.Call (.Name "sorted" p) [a] [] pos) (tE X.K P (pP f)):=by
 refine PE.imp (kG aGv hg hm vP (aA ha aF he) (he:=he)) ?_
 intro σ H Q h;refine oK h ?_
 intro H0 B ρ v H' r d0 d g s h;cases e:asS r.d with
 | stk=>simp[e]at h
 | exc x=>exact(qU e).elim
 | ok ds =>
  simp only[e,R.ok_bind]at h;cases e2:dG ds with
  | stk=>simp[e2]at h
  | exc x=>exact(eY e2).elim
  | ok ns =>
   simp only[e2,R.ok_bind]at h;by_cases few:ns.length<64
   · rw[if_pos few]at h
     obtain⟨a,xs,h1,h2,h3⟩:=g.seq e;have hx:=aJ.ints e2 h3;subst hx;refine⟨a,ns,by rw[h1],h2.imp .inl fun z=>.inl (.inl z),few,fun q iq u l hl=>h _ _ (aL.upd_new hl) (kA d s hl ?_)⟩
     exact aJ.pick D.int Srt.eQ (aJ.map_ints ns) iq u
   · rw[if_neg few]at h;exact h.elim
def mkP (k:List Int×Int):D:=.tup [.tup (k.1.map D.int),.int k.2]
def asP:D->R (List Int×Int)
 | .tup [.tup ds,.int n]=>do
  let k ← dG ds
  .ok (k,n)
 | _=>.stk
def gI:List D->R (List (List Int×Int))
 | []=>.ok []
 | d :: r=>do
  let i ← asP d
  let l ← gI r
  .ok (i :: l)
theorem aC7:∀ {ds:List D} {l:List Int},dG ds=.ok l->ds=l.map D.int
 | [],l,h=>by simp[dG]at h;subst h;rfl
 | d :: r,l,h=>by
  simp only[dG]at h;cases e:asI d with
  | stk=>simp[e]at h
  | exc y=>exact(dR e).elim
  | ok i =>
   cases e2:dG r with
   | stk=>simp[e,e2]at h
   | exc y=>exact(eY e2).elim
   | ok l' =>
    simp only[e,e2,R.ok_bind,R.ok.injEq]at h;subst h;rw[eN e,aC7 e2];rfl
theorem aRj {d:D}{k:List Int×Int}(h:asP d=.ok k):d=mkP k:=by
 unfold asP at h;split at h
 · rename_i ds n
   cases e:dG ds with
   | stk=>simp[e]at h
   | exc y=>exact(eY e).elim
   | ok l =>
    simp only[e,R.ok_bind,R.ok.injEq]at h;subst h;rw[aC7 e];rfl
 · cases h
theorem aFo {d:D}{x:Xc}(h:asP d=.exc x):False:=by
 unfold asP at h;split at h
 · rename_i ds n
   cases e:dG ds with
   | stk=>simp[e]at h
   | exc y=>exact(eY e).elim
   | ok l=>simp[e]at h
 · cases h
theorem mP {x:Xc}:∀ {ds:List D},gI ds=.exc x->False
 | [],h=>by simp[gI]at h
 | d :: r,h=>by
  simp only[gI]at h;cases e:asP d with
  | stk=>simp[e]at h
  | exc y=>exact aFo e
  | ok i =>
   cases e2:gI r with
   | stk=>simp[e,e2]at h
   | exc y=>exact mP e2
   | ok l=>simp[e,e2]at h
theorem sD:∀ {ds:List D} {l:List (List Int×Int)},gI ds=.ok l->ds=l.map mkP
 | [],l,h=>by simp[gI]at h;subst h;rfl
 | d :: r,l,h=>by
  simp only[gI]at h;cases e:asP d with
  | stk=>simp[e]at h
  | exc y=>exact(aFo e).elim
  | ok i =>
   cases e2:gI r with
   | stk=>simp[e,e2]at h
   | exc y=>exact(mP e2).elim
   | ok l' =>
    simp only[e,e2,R.ok_bind,R.ok.injEq]at h;subst h;rw[aRj e,sD e2];rfl
theorem sQ:∀ ns:List Int,D.imms (ns.map D.int)=true
 | []=>rfl
 | n :: ns=>by simp[D.imms,D.imm,sQ ns]
theorem uS:∀ ks:List (List Int×Int),D.imms (ks.map mkP)=true
 | []=>rfl
 | k :: ks=>by simp[mkP,D.imms,D.imm,sQ,uS ks]
theorem aMc {K:PySem.W.Frag}{G H:Hp}(sm:aL G H){ks:List (List Int×Int)}{ys:List V}(h:aJ K G (ks.map mkP) ys):PrV H ys ks:=by
 refine⟨by rw[←h.length,Ac],fun i k hk=>?_⟩
 obtain⟨v,e1,e2⟩:=h.get (i:=i) (d:=mkP k) (by simp[hk])
 obtain⟨q,xs,rfl,e3,x1,xr,rfl,⟨b,zs,rfl,e4,e5⟩,x2,xr2,rfl,e6,e7⟩:=e2;have e8:xr2=[]:=e7;have e9:x2=.int k.2:=e6;subst e8 e9;have ez:=aJ.ints (show dG (k.1.map D.int)=.ok k.1 from ?_) e5
 · subst ez
   exact⟨q,b,e1,sm _ _ e3,sm _ _ e4⟩
 · generalize k.1=l
   induction l with
   | nil=>rfl
   | cons n l ih=>simp[dG,asI,ih]
def aB8 (a:FE):FE:=fun ρ=>do
 let x ← a ρ
 let ds ← asL x.d
 let ks ← gI ds
 if ks.length<64 then .ok ⟨.tmp,true,.lst ((Srt.srt Srt.px ks).map mkP)⟩ else .stk
theorem aTj (hu:X.A.units+64<cLine)(hg:Gl X "sorted")(hm:X.mg "sorted" = none)(ha:PE X a (tE X.K P f))(he:starEach [a] X.env=[(false,eval a X.env)]:=by rfl):PE X (.Call (.Name "sorted" p) [a] [] pos) (tE X.K P (aB8 f)):=by
 refine PE.imp (kG (aIj hu) hg hm vP (aA ha aF he) (he:=he)) ?_
 intro σ H Q h;refine oK h ?_
 intro H0 B ρ v H' r d0 d g s h;cases e:asL r.d with
 | stk=>simp[e]at h
 | exc x=>exact(gS e).elim
 | ok ds =>
  simp only[e,R.ok_bind]at h;cases e2:gI ds with
  | stk=>simp[e2]at h
  | exc x=>exact(mP e2).elim
  | ok ks =>
   simp only[e2,R.ok_bind]at h;by_cases few:ks.length<64
   · rw[if_pos few]at h
     obtain⟨a,xs,h1,h2,h3⟩:=g.list (iL e);have ed:=sD e2;subst ed;have ln:=h3.length;rw[Ac]at ln;refine⟨a,xs,ks,by rw[h1],.inl h2,aMc fG h3,by omega,fun q iq u l hl=>h _ _ (aL.upd_new hl) (kA d s hl ?_)⟩
     have r1:=aJ.pick mkP Srt.lJ h3 iq u;cases hf:r.fr with
     | true=>rw[hf]at r1;exact r1
     | false=>rw[hf]at r1;exact aJ.imm d.sam (uS _) r1
   · rw[if_neg few]at h;exact h.elim
def mkT (k:List Int):D:=.tup (k.map D.int)
def aDb (a:FE):FE:=fun ρ=>do
 let x ← a ρ
 match x.d with
 | .dct ks _=>if ks.length<64/\(2<=ks.length->∀ k∈ks,k≠[]) then .ok ⟨.tmp,true,.lst ((Srt.srt Srt.lx ks).map mkT)⟩ else .stk
 | _=>.stk
theorem aP2 {K:PySem.W.Frag}{H0 H':Hp}{B:Addr->Prop}{σ:St}{ρ:Env}{b:Addr}{xs:List V}(d:DenE K H0 H' B σ ρ)(e:H' b=some (.tup xs))(fr:Bool):bH fr H0 H' B b=some (.tup xs):=by
 refine bB.mpr ⟨fun z=>?_,e⟩
 rcases z with z | ⟨_,o,z,q⟩
 · obtain⟨o,q1,q2⟩:=d.bnd b z;rw[e]at q1;cases q1;cases q2
 · rw[d.sam _ _ z]at e;cases e;cases q
theorem yZ {K:PySem.W.Frag}{H0 H':Hp}{B:Addr->Prop}{σ:St}{ρ:Env}(d:DenE K H0 H' B σ ρ)(fr:Bool):∀ {bs:List Addr} {js:List (List Int)},KyV H' bs js->aJ K (bH fr H0 H' B) (js.map mkT) (bs.map V.ref)
 | [],[],_=>rfl
 | [],_ :: _,h=>by have:=h.1;simp at this
 | _ :: _,[],h=>by have:=h.1;simp at this
 | b :: bs,k :: js,h=>⟨.ref b,_,rfl,⟨b,_,rfl,aP2 d (h.2 0 b k rfl rfl) fr,aJ.map_ints k⟩,yZ d fr ⟨by simpa using h.1,fun i c q h1 h2=>h.2 (i+1) c q (by simpa using h1) (by simpa using h2)⟩⟩
theorem aRr (hc:X.calm=true)(hg:Gl X "sorted")(hm:X.mg "sorted" = none)(ha:PE X a (tE X.K P f))(he:starEach [a] X.env=[(false,eval a X.env)]:=by rfl):PE X (.Call (.Name "sorted" p) [a] [] pos) (tE X.K P (aDb f)):=by
 refine PE.imp (kG (aHs hc) hg hm vP (aA ha aF he) (he:=he)) ?_
 intro σ H Q h;refine oK h ?_
 intro H0 B ρ v H' r d0 d g s h;cases hd:r.d with
 | dct ks ds =>
  simp only[hd]at h;by_cases few:ks.length<64/\(2<=ks.length->∀ k∈ks,k≠[])
  · rw[if_pos few]at h
    obtain⟨a,kvs,h1,h2,h3,h4⟩:=g.dict hd;refine⟨a,kvs,ks,by rw[h1],h2,h3,few.1,few.2,fun bs kb q iq u l hl=>h _ _ (aL.upd_new hl) (kA d s hl ?_)⟩
    exact aJ.pick mkT Srt.aDy (yZ d true kb) iq u
  · rw[if_neg few]at h;exact h.elim
 | _=>simp[hd]at h
end Mir
namespace Mir
open PySem L2
variable {X:Cx}{P:XP}{a b c e:Expr}{es:List Expr}{f g:FE}{fs:FEs}{pos p:Pos}
def itD (ks:List (List Int))(ns:List Int):List D:=(ks.zip ns).map mkP
def aEg (f:FE)(k:Nat)(tg:Tg)(fb:FB):FE:=fun ρ=>do
 let x ← f ρ
 match x.d with
 | .dct ks ds=>do
  let ns ← dG ds
  let y ← lQ tg fb false (Dw k none) (itD ks ns)
  if ks.length<=sizeLine/\y.1=true then .ok ⟨.tmp,true,.lst y.2⟩ else .stk
 | _=>.stk
theorem aNi {K:PySem.W.Frag}{H:Hp}{σ:St}:DenE K H H (fun _=>False) σ (σ.map fun _=>none) :=
 ⟨by simp,aL.refl _,fun _ h=>h.elim,fun i e h=>by
  rw[Aw]at h
  cases q:σ[i]?<;>rw[q]at h<;>simp at h⟩
theorem aD9 {K:PySem.W.Frag}{Hf:Hp}{a:Addr}{o:Obj}{kvs:List (List Key×V)}{bs:List Addr}{ks:List (List Int)}{ns:List Int}(h:Hf a=some (.frz o (.dT kvs)))(hb:KyA Hf bs kvs)(hk:dF ks kvs)(hn:kvs.map (·.2)=ns.map V.int) :
 yA K Hf Hf (fun _=>False) (ItD a o kvs bs) ⟨true,false,itD ks ns⟩:=by
 refine⟨fun c=>c=a,fun _ c _ z=>z,fun H2 B2 j1 j2 j3 j4 j5 i=>?_⟩
 have h2:=j1 a _ rfl h;have l1:kvs.length=ks.length:=by have:=congrArg Fp hk;simpa using this
 have l2:kvs.length=ns.length:=by have:=congrArg Fp hn;simpa using this
 have ll:(itD ks ns).length=kvs.length:=by simp[itD];omega
 refine⟨fun hi=>⟨h2,by show kvs.length<=i;have:(itD ks ns).length<=i:=hi;omega⟩,fun d hd=>?_⟩
 have hlt:i<kvs.length:=by rw[←ll];exact(Au.mp hd).1
 refine⟨⟨h2,hlt⟩,fun x H3 y=>?_⟩
 obtain⟨t,b,p,e1,e2,e3,e4,e5⟩:=y;subst e1 e5;have hk1:ks[i]?=some ks[i]:=Aj (by omega)
 have hn1:ns[i]?=some ns[i]:=Aj (by omega)
 have pk:p.1=ks[i].map Sum.inl:=by
  have:(kvs.map (·.1))[i]?=(ks.map (·.map Sum.inl))[i]?:=by rw[show kvs.map (·.1)=_ from hk]
  rw[Aw,Aw,e3,hk1]at this;simpa using this
 have pn:p.2=.int ns[i]:=by
  have:(kvs.map (·.2))[i]?=(ns.map V.int)[i]?:=by rw[hn]
  rw[Aw,Aw,e3,hn1]at this;simpa using this
 have ed:d=mkP (ks[i],ns[i]):=by
  have:(itD ks ns)[i]?=some (mkP (ks[i],ns[i])):=by
   unfold itD;rw[Aw,show (ks.zip ns)[i]?=some (ks[i],ns[i]) from List.getElem?_zip_eq_some.mpr ⟨hk1,hn1⟩];rfl
  have hd':(itD ks ns)[i]?=some d:=hd;rw[hd']at this;exact Db.inj this
 subst ed;have fb:Hf b=some (.tup (ks[i].map V.int)):=by rw[hb.2 i b p e4 e3,pk,aAa]
 have hb2:H2 b=some (.tup (ks[i].map V.int)):=j2 b _ fb fun z=>z;have nbt:b≠t:=bO hb2 e2;refine⟨aL.upd_new e2,t,[.ref b,p.2],rfl,bB.mpr ⟨fun z=>?_,bL⟩,.ref b,[p.2],rfl,⟨b,_,rfl,bB.mpr ⟨fun z=>?_,by rw[aR nbt];exact hb2⟩,aJ.map_ints _⟩,p.2,[],rfl,pn,rfl⟩
 · rcases z with z | ⟨z,_⟩
   · obtain⟨o',q⟩:=j4 t z;rw[e2]at q;cases q
   · cases z
 · rcases z with z | ⟨z,_⟩
   · rcases j3 b z with q | q
     · exact q
     · rw[fb]at q;cases q
   · cases z
theorem aO1 {K:PySem.W.Frag}{H0 H1 Hf H2 H3:Hp}{B:Addr->Prop}{p:Addr}{ds:List D}{vs:List V}(sam:aL H0 H1)(bnd:∀ b,B b->∃ o,H1 b=some o/\stab o=false)
 (up:∀ b o,H1 b=some o->stab o=false->∃ o',Hf b=some o'/\stab o'=false) (dn:∀ b o,H2 b=some o->(∀ o',Hf b=some o'->stab o'=true)->H3 b=some o)
 (r:aJ K (bH true Hf H2 fun b=>False\/b=p) ds vs):aJ K (bH true H0 H3 fun b=>B b\/b=p) ds vs:=by
 refine aJ.same (fun b o e=>?_) r
 obtain⟨n,e⟩:=bB.mp e
 have st:∀ o',Hf b=some o'->stab o'=true:=fun o' q=>by
  cases z:stab o' with
  | true=>rfl
  | false=>exact(n (.inr ⟨rfl,o',q,z⟩)).elim
 refine bB.mpr ⟨fun z=>?_,dn b o e st⟩
 rcases z with (z | z) | ⟨_,o',q,z⟩
 · obtain⟨o',q1,q2⟩:=bnd b z
   obtain⟨o2,q3,q4⟩:=up b o' q1 q2;rw[st o2 q3]at q4;cases q4
 · exact n (.inl (.inr z))
 · obtain⟨o2,q3,q4⟩:=up b o' (sam _ _ q) z
   rw[st o2 q3]at q4;cases q4
variable {scope:Scope}{N:List Str}{k:Nat}{tg elt:Expr}{ifs:List Expr}{t:Tg}{fb:FB}
theorem aNb {ts:List Expr}{kk:Nat}{tp ap cp:Pos}(hc:X.calm=true)(C:CompOk X scope N k [])(ha:PE X a (tE X.K P f))(hg:∀ fp s H,PG (dI X scope N fp s H) (.Tuple ts kk tp) (gOf X.K t))(gl:xN k (gOf X.K t))(hb:∀ fp s H,PB (dI X scope N fp s H) ifs elt (tBm X.K XP0 fb))
 (hbase:attributeBase a "items" X.env (eval a X.env)=eval a X.env:=by rfl) (hline:(ap.endLine==cp.line)=true:=by rfl)
 (hs:∀ x,foldedSetIterable (.Call (.Attribute a "items" ap) [] [] cp) X.env x=pure x:=by intro _;rfl):PE X (.ListComp elt [⟨.Tuple ts kk tp,.Call (.Attribute a "items" ap) [] [] cp,ifs,0⟩] scope pos) (tE X.K P (aEg f k t fb)):=by
 refine PE.imp (aOf (aGm hc C (aLy ha hbase hline) hg gl hb hs)) ?_
 rintro σ H Q ⟨H0,B,ρ,d,h⟩
 unfold aEg at h;show tE X.K P f σ H fun x H1=>∃ a kvs,x=.ref a/\_
 cases e1:f ρ with
 | stk=>simp[e1]at h
 | exc x=>simp[e1]at h;exact dP d e1 h
 | ok r =>
  simp only[e1,R.ok_bind]at h;refine fD d e1 fun v H1 s1 d1 g1=>?_
  cases hd:r.d with
  | dct ks ds =>
   simp only[hd]at h;cases e2:dG ds with
   | stk=>simp[e2]at h
   | exc x=>exact(eY e2).elim
   | ok ns =>
    simp only[e2,R.ok_bind]at h;cases e3:lQ t fb false (Dw k none) (itD ks ns) with
    | stk=>simp[e3]at h
    | exc x=>exact(rM e3).elim
    | ok y =>
     simp only[e3,R.ok_bind]at h;by_cases hz:ks.length<=sizeLine/\y.1=true
     · rw[if_pos hz]at h
       obtain⟨a',kvs,h1,h2,h3,h4⟩:=g1.dict hd;have hn:=aJ.ints e2 h4;have ll:(itD ks ns).length<=sizeLine:=by simp[itD];omega
       refine⟨a',kvs,h1,?_⟩
       have core:∀ (Hf:Hp) (o:Obj) (bs:List Addr),Hf a'=some (.frz o (.dT kvs))->KyA Hf bs kvs->∀ {Qf:Hp->Prop} acc,Hf acc=none->(∀ H2,aL Hf H2->aW X.K Hf Hf H2 (fun _=>False) (.ref acc) ⟨.tmp,true,.lst y.2⟩->Qf H2)->uP (ItD a' o kvs bs) k [] (gOf X.K t) (tBm X.K XP0 fb) σ acc Qf Hf:=fun Hf o bs q1 q2 Qf acc q3 q4=>by
        refine aDa (w:=⟨true,false,itD ks ns⟩) aNi (aL.refl _) (aD9 q1 q2 h3 hn) (y:=y) (by rw[show eF k [] (σ.map fun _=>none)=Dw k none by simp[eF]];exact e3) ll q3 fun H2 s2 g2=>q4 H2 s2 ?_
        rw[hz.2]at g2;exact g2
       rcases h2 with h2 | ⟨o,h2⟩
       · refine .inl ⟨h2,fun o bs kb acc hacc=>?_⟩
         have nz:∀ {b:Addr} {u:HO},H1 b=some u->b≠a'->upd H1 a' (.frz o (.dT kvs)) b=some u:=fun e n=>by rw[aR n];exact e
         have kb':KyA (upd H1 a' (.frz o (.dT kvs))) bs kvs:=⟨kb.1,fun i b p q1 q2=>nz (kb.2 i b p q1 q2) fun z=>by have:=kb.2 i b p q1 q2;rw[z,h2]at this;cases this⟩
         refine core _ o bs bL kb' acc hacc fun H2 s2 g2=>?_
         have ha2:H2 a'=some (.frz o (.dT kvs)):=s2 _ _ bL;have na:acc≠a':=fun z=>by rw[z,bL]at hacc;cases hacc
         refine⟨upd H2 a' (.dT kvs),.inr ⟨a',o,_,ha2,fun o' u' z=>?_,rfl⟩,?_⟩
         · rw[s1 _ _ z]at h2;cases h2
         · have sm:aL H1 (upd H2 a' (.dT kvs)):=fun b u e=>by
            by_cases z:b=a'
            · rw[z,h2]at e;cases e;rw[z];exact bL
            · rw[aR z];exact s2 _ _ (nz e z)
           obtain⟨q,w,z1,z2,z3,z4⟩:=g2;cases z1;obtain⟨vs,z5,z6⟩:=z4;subst z5;have hacc1:H1 acc=none:=by rw[aR na]at hacc;exact hacc
           refine h _ _ (s1.trans sm) ⟨acc,_,rfl,s1.none hacc1,by rw[aR na];exact z3,vs,rfl,aO1 d1.sam d1.bnd (fun b u q1 q2=>?_) (fun b u q1 q2=>?_) z6⟩
           · by_cases z:b=a'
             · subst z;exact⟨_,bL,rfl⟩
             · exact⟨u,nz q1 z,q2⟩
           · by_cases z:b=a'
             · subst z;have:=q2 _ bL;cases this
             · rw[aR z];exact q1
       · refine .inr ⟨o,h2,fun bs kb acc hacc=>?_⟩
         refine core _ o bs h2 kb acc hacc fun H2 s2 g2=>⟨H2,.inl rfl,?_⟩
         obtain⟨q,w,z1,z2,z3,z4⟩:=g2;cases z1;obtain⟨vs,z5,z6⟩:=z4;subst z5;exact h _ _ (s1.trans s2) ⟨acc,_,rfl,s1.none hacc,z3,vs,rfl,aO1 d1.sam d1.bnd (fun b u q1 q2=>⟨u,q1,q2⟩) (fun b u q1 q2=>q1) z6⟩
     · rw[if_neg hz]at h;exact h.elim
  | _=>simp[hd]at h
end Mir
namespace L2
open PySem PySem.Spec PyProof.Rows
def Itu (a:Addr):It :=
 ⟨fun i H=>∃ xs x,H a=some (.tup xs)/\xs[i]?=some x,fun i H v H'=>∃ t x xs,v=.ref t/\H t=none/\H'=upd H t (.tup [.int i,x])/\H a=some (.tup xs)/\xs[i]?=some x,fun i H=>∃ xs,H a=some (.tup xs)/\xs.length<=i⟩
def UTn (e it a:Addr)(i:Nat)(h:Heap):Prop:=(∃ old,h.get? e=some (En.erc it i old))/\h.get? it=some (En.trc a i)
theorem aKe {P:Program}{w:World}{K:PySem.W.Frag}{es:List Expr}{k:Nat}{pos:Pos}{e it a:Addr}(n1:e≠it):Turn P w K (.Tuple es k pos) (Itu a) [e,it] e (UTn e it a) where
 mem:=by simp
 obj:=fun i h ⟨⟨old,he⟩,q⟩ c hc=>by
  simp only[An,Bd,or_false]at hc;rcases hc with z | z<;>rw[z]
  · exact⟨_,he,fun v z=>nomatch z⟩
  · exact⟨_,q,fun v z=>nomatch z⟩
 keep:=fun i h h' st kp=>⟨st.1.imp fun old he=>kp _ (by simp) _ he,kp _ (by simp) _ st.2⟩
 item:=by
  intro X hP hw hK hc i pins s σ H E I hf st hg;subst hP hw hK;obtain⟨xs,x,ha,hx⟩:=hg;obtain⟨us,ru,pu⟩:=lO I ha;obtain⟨u,eu,rxu⟩:=ru.get hx;obtain⟨⟨old,he⟩,hit⟩:=st;have ee:e<s.heap.objs.size:=Ae he;have ei:it<s.heap.objs.size:=Ae hit;refine En.nxt he rfl (En.aIy he hit pu (x:=u) (by simpa using eu) n1 fun h' b1 b2 b3 b5=>⟨_,rfl,_,rfl,?_⟩)
  refine wpAny_letOwnedTupleGo_enum b1 fun hp2 c1 cs=>?_
  have kp:∀ c o,c∉[e,it]->s.heap.get? c=some o->hp2.get? c=some o:=fun c o hc' q=>by
   simp only[An,Bd,or_false,not_or]at hc';exact cs.extBut c o hc'.1 (b5 c o hc'.1 hc'.2 q)
  have st':UTn e it a (i+1) hp2:=⟨⟨u,by push_cast;exact c1⟩,cs.extBut _ _ n1.symm b2⟩
  have pr:=cs.extBut _ _ (De ee) b3
  refine⟨.ref s.heap.objs.size,upd H s.heap.objs.size (.tup [.int i,x]),I.turnedNew (t':=s.toks+1) kp hf (fun c hc'=>?_) (Af _) ⟨by show 2<=sizeLine;decide,[.int i s.toks,u],.cons ⟨_,rfl⟩ (.cons rxu .nil),⟨_,pr,rfl,_,rfl⟩⟩,rfl,
   ⟨_,x,xs,rfl,I.fresh,rfl,ha,hx⟩,st',fun c hc'=>?_⟩
  · obtain⟨⟨_,d1⟩,d2⟩:=st'
    simp only[An,Bd,or_false]at hc';rcases hc' with z | z<;>rw[z]
    · exact⟨_,d1⟩
    · exact⟨_,d2⟩
  · have lt:c<s.heap.objs.size:=by
     simp only[An,Bd,or_false]at hc';rcases hc' with z | z<;>rw[z]<;>assumption
    rw[aR (Ay lt)];exact(hf c hc').1
 done:=by
  intro X hP hw hK hc i pins s σ H E I hf st hg;subst hP hw hK;obtain⟨xs,ha,hend⟩:=hg;obtain⟨us,ru,pu⟩:=lO I ha;have lu:=ru.length;obtain⟨⟨old,he⟩,hit⟩:=st;refine En.nxt he rfl (En.dry (show X.A.in1.handled=none from I.ok.hd hc) he hit pu (Array.getElem?_eq_none (by rw[Am];omega)) fun h' x u e1 e2 kp=>⟨x,u,rfl,e1,e2,rfl,I.turnedL (t':=s.toks) (fun c o hc' q=>?_) hf⟩)
  simp only[An,Bd,or_false,not_or]at hc';exact kp c o hc'.2 q
 self:=fun _ _ _ _ _ st h=>let ⟨⟨_,he⟩,_⟩:=st;wpAny_pyIter_enum he h
def aVx (ta:TA):TI:=fun σ H R=>ta σ H fun vs H1=>∃ a,vs=[.ref a]/\(∃ xs,H1 a=some (.tup xs))/\R (Itu a) H1
theorem aOn {X:Cx}{es:List Expr}{k:Nat}{tp:Pos}{a:Expr}{t:TA}{p pos:Pos}(hg:Gl X "enumerate")(hm:X.mg "enumerate" = none)(ha:PA X [a] t)(hs:starEach [a] X.env=[(false,eval a X.env)]:=by rfl) :
 PI X (.Tuple es k tp) (.Call (.Name "enumerate" p) [a] [] pos) (aVx t):=by
 intro pins s σ H R I h;refine Call_ (oD I hg hm (show bootBuiltins "enumerate" = some (.type "enumerate") by decide +kernel) (Ce (thn (ha pos pins s σ H _ I h) fun us s1 ⟨vs,H1,I1,r1,x,e,⟨xs,hx⟩,q⟩=>?_) (by rw[hs];rfl) rfl))
 subst e;obtain⟨u,rfl,rx⟩:=kE r1;cases rx;obtain⟨us',ru,pu⟩:=lO I1 hx;refine En.aWc pu fun h1 he hit hk=>wpAny_pyIter_enum he ?_
 have big:∀ c∈[s1.heap.objs.size+1,s1.heap.objs.size],s1.heap.objs.size<=c:=fun c hc'=>by
  simp only[An,Bd,or_false]at hc';rcases hc' with z | z<;>rw[z]
  · exact Da _ 1
  · exact Af _
 exact⟨_,[s1.heap.objs.size+1,s1.heap.objs.size],_,_,H1,rfl,I1.kept (t':=s1.toks) hk,aKe (Nat.succ_ne_self _),⟨⟨_,he⟩,hit⟩,fun c hc'=>I1.fpOk (big c hc') (I1.hok.fresh (big c hc')),q⟩
end L2
namespace Mir
open PySem L2
variable {X:Cx}{P:XP}{a b c e:Expr}{es:List Expr}{f g:FE}{fs:FEs}{pos p:Pos}
def uO (a:FE):FI:=fun ρ=>do
 let x ← a ρ
 match x.d with
 | .tup xs=>.ok ⟨true,x.fr,mZ xs⟩
 | _=>.stk
theorem aJs {K:PySem.W.Frag}{H0 H':Hp}{B:Addr->Prop}{σ:St}{ρ:Env}{a:Addr}{xs:List V}{ds:List D}{fr:Bool}(den:DenE K H0 H' B σ ρ)(h2:H' a=some (.tup xs))(h3:aJ K (bH fr H0 H' B) ds xs):yA K H0 H' B (Itu a) ⟨true,fr,mZ ds⟩:=by
 have nB:¬ B a:=fun z=>by obtain⟨o,q1,q2⟩:=den.bnd a z;rw[h2]at q1;cases q1;cases q2
 refine⟨fun c=>c=a,fun h c z=>z▸nB,fun H2 B2 j1 j2 j3 j4 j5 i=>?_⟩
 have q1:H2 a=some (.tup xs):=j1 a _ rfl h2;have l1:=h3.length;refine⟨fun hi=>⟨xs,q1,?_⟩,fun d hd=>?_⟩
 · simp[mZ]at hi;omega
 · cases e1:ds[i]? with
   | none=>simp[mZ,e1]at hd
   | some d1 =>
    have ed:d=.tup [.int i,d1]:=by simp[mZ,e1]at hd;exact hd.symm
    subst ed;obtain⟨v,hv,rv⟩:=h3.get e1;refine⟨⟨xs,v,q1,hv⟩,fun x H3 y=>?_⟩
    obtain⟨t,x1,ys,e3,e4,e5,y1,y2⟩:=y;rw[q1]at y1;cases y1;rw[hv]at y2;cases y2;subst e3;subst e5;refine⟨aL.upd_new e4,t,[.int i,v],rfl,bB.mpr ⟨fun z=>?_,bL⟩,.int i,[v],rfl,rfl,v,[],rfl,?_,rfl⟩
    · rcases z with z | ⟨_,o,z,_⟩
      · obtain⟨o,q⟩:=j4 t z;rw[e4]at q;cases q
      · rw[j5 _ _ z]at e4;cases e4
    · exact Rep.same (bA (fun b o q n=>aL.upd_new e4 b o (j2 b o q n)) j3) rv
theorem aFi {ts:List Expr}{k:Nat}{tp:Pos}(hg:Gl X "enumerate")(hm:X.mg "enumerate" = none)(ha:PE X a (tE X.K P f))(hs:starEach [a] X.env=[(false,eval a X.env)]:=by rfl) :
 PI X (.Tuple ts k tp) (.Call (.Name "enumerate" p) [a] [] pos) (tI X.K P (uO f)):=by
 refine PI.imp (aOn hg hm (aA ha aF hs) hs) ?_
 intro σ H Rq h
 have e:uO f=fun ρ=>evs [f] ρ >>= fun rs=>match rs with | [x]=>(match x.d with | .tup xs=>.ok ⟨true,x.fr,mZ xs⟩ | _=>.stk) | _=>.stk:=by
  funext ρ
  unfold uO evs;cases f ρ<;>rfl
 rw[e]at h;refine aOo (q:=fun vs H1=>∃ a,vs=[.ref a]/\(∃ xs,H1 a=some (.tup xs))/\Rq (Itu a) H1) h ?_
 intro H0 B ρ vs H' rs d0 d gs s h;match vs,rs,gs with
 | [],rs,gs=>rw[show rs=[] from gs]at h;exact h.elim
 | [v],_,⟨r,rr,e1,g1,g2⟩ =>
  subst e1;rw[show rr=[] from g2]at h
  cases hd:r.d with
  | tup ds =>
   simp only[hd]at h;obtain⟨a,xs,h1,h2,h3⟩:=g1.tuple hd;exact⟨a,by rw[h1],⟨xs,h2⟩,h _ H' (aL.refl _) (aJs d h2 h3)⟩
  | _=>simp[hd]at h
 | v :: w :: _,_,⟨r,rr,e1,g1,r2,rr2,e2,g2⟩ =>
  subst e1;subst e2;exact h.elim
end Mir
namespace Ls
open PySem PySem.Spec PyProof.Rows
theorem aWo:isSubtype (.type "tuple") (.type "set")=pure false:=by rw[isSubtype_type];kernel_rfl
theorem aXd:isSubtype (.type "tuple") (.type "frozenset")=pure false:=by rw[isSubtype_type];kernel_rfl
abbrev fresh (led:Bool):Obj:={ cls:=.type "set",dict:=none,data:=.set #[] 0 (.fresh 0 0 led) }
section
variable {prog:Program}{w:World}{A:Around}{E:Value->Shared->Prop}{s:Shared}{S t:Addr}{items:Array Value}{ns:List Int}
abbrev met (ns:List Int)(n:Nat):List Int:=firstMet (fun i=>ns.getD i 0) n
theorem init {led:Bool}{Q:Fin->Shared->Prop}(hh:A.handled=none)(hS:s.heap.get? S=some (fresh led))(ht:IsTup s.heap t items)(hi:IntsAre items.toList ns)(hb:items.size+1<scanBound)(nt:t≠S)
 (q:∀ h' tk,h'.SetOf (intKind prog w) S (fun k'=>(met ns items.size).any (·==k')) (met ns items.size).length->(∀ b o,b≠S->s.heap.get? b=some o->h'.get? b=some o)->Q (.done (.ret .none)) { s with heap:=h',toks:=tk }) :
 wpAny (model prog w) A (Builtin.«set.__init__» ⟨[.ref S,.ref t],[]⟩) Q E s:=by
 have ty:s.TypeIs (.ref S) "set":=⟨_,hS,rfl⟩;have ht0:=ht;obtain⟨⟨c,dc,dt,sl⟩,h1,h2,n,h3⟩:=ht;cases (show c=.type "tuple" from h2)
 cases (show dt=.seq items n from h3)
 have s1:=aWo;have s2:=aXd;have ne:(Value.type "tuple" == Value.type "dict")=false:=by decide
 repeat (first | assumption | (with_reducible refine iter_tuple ht0 ?_) | (with_reducible refine wpAny_runValue ?_) | wp_step)
 have lt:t<s.heap.objs.size:=Ae h1;have lS:S<s.heap.objs.size:=Ae hS;have tup:(s.heap.push { cls:=.type "tuple_iterator",data:=.fields #[.ref t,.int 0 0] }).IsTuple t items:=⟨_,Aa _ h1,rfl,n,rfl⟩;have nf:S∉[s.heap.objs.size,t]:=by simp only[An,Bd,or_false,not_or];exact⟨Ay lS,nt.symm⟩
 have val:∀ (i:Nat) (v:Value),items[i]?=some v->∃ k,v=.int (ns.getD i 0) k:=fun i v e=>IntsAre.int_at hi i v (by rw[Array.getElem?_toList];exact e)
 have zero:(s.heap.push { cls:=.type "tuple_iterator",data:=.fields #[.ref t,.int 0 0] }).SetOf (intKind prog w) S (fun k'=>(met ns 0).any (·==k')) (met ns 0).length :=
  SetOf_congr ((setObjOf_fresh (knd:=intKind prog w) led).setOf (Aa _ hS) (by unfold scanBound;omega)) (fun _=>rfl) rfl
 refine codeAny_set_update_loopS ((Walks.tuple (A:=A.in1) hh s.heap.objs.size t (Ay lt) items).toS) S nf (fun i=>ns.getD i 0) val hb items.size 0 _ rfl (Cc _) ⟨⟨_,Ag _ rfl,rfl,rfl⟩,tup⟩ zero fun s' hm hS'=>?_
 obtain⟨h',g1,d1,tk',os1⟩:=s';cases (show g1=s.gens from hm.gens);cases (show d1=s.drawn from hm.drawn);cases (show os1=s.os from hm.os)
 refine wpAny_pure (wpAny_pure (q h' tk' hS' fun b o nb e=>hm.heap b o ?_ (Aa _ e)))
 simp only[An,Bd,or_false,not_or];exact⟨nb,Ay (Ae e)⟩
theorem made {Q:Value->Shared->Prop}(hh:A.handled=none)(ht:IsTup s.heap t items)(hi:IntsAre items.toList ns)(hb:items.size+1<scanBound)
 (q:∀ h' tk,h'.SetOf (intKind prog w) s.heap.objs.size (fun k'=>(met ns items.size).any (·==k')) (met ns items.size).length->(∀ b o,s.heap.get? b=some o->h'.get? b=some o)->Q (.ref s.heap.objs.size) { s with heap:=h',toks:=tk }) :
 wpAny (model prog w) A (call (.type "set") [.ref t]) Q E s:=by
 have lt:t<s.heap.objs.size:=by obtain⟨o,e,_⟩:=ht;exact Ae e
 obtain⟨c,tl,m1⟩:=F.called_set.mro;have m2:=F.called_set.made;have m3:=F.called_set.sub;have m4:=F.called_set.notType;have m5:=F.called_set.canCreate;have m6:=F.typeCall_set_1 (.ref t)
 refine wpAny_call (codeAny_of_tree (wpAny_pure ⟨Code.quiet_builtin _ (by decide +kernel),codeAny_builtin F.entry_type_call (by
  rw[Around.under_plain (weight_type_call_type "set" [.ref t] []) rfl];repeat any_goals (first | assumption | wp_step)
  refine codeAny_mono (code_set_new_1 (.ref t) (E:=E) (Q₁:=fun obj s1=>∃ led:Bool,obj=.ref s.heap.objs.size/\s1={ s with heap:=s.heap.push (fresh led) }) fun led=>⟨led,rfl,rfl⟩) fun r s1 hr=>?_
  match r,hr with
  | .error e,hr=>exact hr
  | .ok (.ret obj),⟨led,e1,e2⟩ =>
   subst e1 e2;have hS:(s.heap.push (fresh led)).get? s.heap.objs.size=some (fresh led):=Ag _ rfl;have ty:Shared.TypeIs { s with heap:=s.heap.push (fresh led) } (.ref s.heap.objs.size) "set":=⟨_,hS,rfl⟩
   have n1:=F.called_set.init.lookup;have n2:=F.called_set.init.bind (.ref s.heap.objs.size);have ht':IsTup (s.heap.push (fresh led)) t items:=by obtain⟨o,e,r⟩:=ht;exact⟨o,Aa _ e,r⟩
   repeat any_goals (first | assumption | wp_step)
   refine codeAny_mono (codeAny_call_builtin (R:=wants (fun r s2=>r=.none/\∃ h' tk,s2={ s with heap:=h',toks:=tk }/\h'.SetOf (intKind prog w) s.heap.objs.size (fun k'=>(met ns items.size).any (·==k')) (met ns items.size).length/\∀ b o,s.heap.get? b=some o->h'.get? b=some o) E) F.called_set.init.plain F.entry_set_init (check_set_init_1 ty ?_)) ?_
   · exact init (led:=led) (s:={ s with heap:=s.heap.push (fresh led) }) hh hS ht' hi hb (Ay lt) fun h' tk z1 z2=>⟨rfl,h',tk,rfl,z1,fun b o e=>z2 b o (Ay (Ae e)) (Aa _ e)⟩
   · intro r2 s2 hr2
     match r2,hr2 with
     | .error e,hr2=>exact hr2
     | .ok (.ret v),⟨e1,h',tk,e2,z1,z2⟩ =>
      subst e1 e2;repeat any_goals (first | assumption | wp_step)
      exact q h' tk z1 z2)⟩))
end
end Ls
namespace L2
open PySem PySem.Spec PyProof.Rows
section
variable {X:Cx}
def sH (ns:List Int):Nat:=(ns.foldl step_dedup []).length
theorem aGi (ns:List Int):Ls.met ns ns.length=ns.foldl step_dedup []:=by
 show ((Ao ns.length).map fun i=>ns.getD i 0).foldl step_dedup []=_
 rw[Srt.zI]
theorem aIx (hc:X.calm=true):kI X (.type "set") (fun xs H Q=>∃ (a:Addr) (ns:List Int),xs=[.ref a]/\H a=some (.tup (ns.map V.int))/\ns.length<1000/\∀ l S,H l=none->Q (.ref l) (upd H l (.set S (sH ns)))):=by
 intro pins s σ H xs us Q I r h;obtain⟨a,ns,rfl,hq,few,q⟩:=h;obtain⟨u,rfl,rx⟩:=kE r;cases rx;obtain⟨its,rv,pl⟩:=lO I hq;have hi:=lU rv;have ln:its.toArray.size=ns.length:=by rw[Am,←rv.length,Ac]
 refine Ls.made (ns:=ns) (I.ok.hd hc) pl (by simpa using hi) (by rw[ln];unfold scanBound;omega) fun h' tk z1 z2=>?_
 rw[ln,aGi]at z1;exact⟨.ref s.heap.objs.size,_,I.laid (t':=tk) (o:=.set _ (sH ns)) z2 (Af _) z1,rfl,q _ _ I.fresh⟩
theorem aH4:kI X (.builtin "len") (fun xs H Q=>∃ (a:Addr) (S:Int->Bool) (n:Nat),xs=[.ref a]/\H a=some (.set S n)/\n<1000/\Q (.int n) H):=by
 intro pins s σ H xs us Q I r h;obtain⟨a,S,n,rfl,hq,few,q⟩:=h;obtain⟨u,rfl,rx⟩:=kE r;cases rx;have z:=I.hok a _ hq;obtain⟨o,es,ep,t,z1,z2,z3,_,_,_,z4,z5⟩:=(show s.heap.SetOf (intKind X.prog X.w) a S n from z)
 refine call_len_set z1 z2 z3 z4 (by rw[z5];omega) ⟨.int n,H,I.tok _,⟨_,by rw[z5]⟩,q⟩
theorem aOx (ns:List Int):sH ns<=ns.length:=by
 have:=firstMet_length_le (fun i=>ns.getD i 0) ns.length
 rw[show firstMet (fun i=>ns.getD i 0) ns.length=_ from aGi ns]at this
 exact this
end
end L2
namespace Mir
open PySem L2
variable {X:Cx}{P:XP}{a b c e:Expr}{es:List Expr}{f g:FE}{fs:FEs}{pos p pos2 p2:Pos}
def tF (a:FE):FE:=fun ρ=>do
 let x ← a ρ
 match x.d with
 | .tup ds=>do
  let ns ← dG ds
  if ns.length<1000 then .ok (sc (.int (sH ns))) else .stk
 | _=>.stk
theorem aS7 (hc:X.calm=true)(hg:Gl X "len")(hm:X.mg "len" = none)(hg2:Gl X "set")(hm2:X.mg "set" = none)(ha:PE X a (tE X.K P f))(he:starEach [a] X.env=[(false,eval a X.env)]:=by rfl)
 (he2:starEach [.Call (.Name "set" p2) [a] [] pos2] X.env=[(false,eval (.Call (.Name "set" p2) [a] [] pos2) X.env)]:=by rfl):PE X (.Call (.Name "len" p) [.Call (.Name "set" p2) [a] [] pos2] [] pos) (tE X.K P (tF f)):=by
 refine PE.imp (kG aH4 hg hm PySem.boot_len (kX (iP (aIx hc) hg2 hm2 (by decide +kernel) (aA ha aF he) (he:=he)) nZ he2) (he:=he2)) ?_
 intro σ H Q h
 have main:tCB (fun vs H1 Q=>∃ (a:Addr) (ns:List Int),vs=[.ref a]/\H1 a=some (.tup (ns.map V.int))/\ns.length<1000/\∀ l S,H1 l=none->∃ (a:Addr) (S':Int->Bool) (n:Nat),[V.ref l]=[.ref a]/\upd H1 l (.set S (sH ns)) a=some (.set S' n)/\n<1000/\Q (.int n) (upd H1 l (.set S (sH ns)))) (tAs X.K P [f]) σ H Q:=by
  refine oK h ?_
  intro H0 B ρ v H' r d0 d g s h;cases hd:r.d with
  | tup ds =>
   simp only[hd]at h;cases e2:dG ds with
   | stk=>simp[e2]at h
   | exc x=>exact(eY e2).elim
   | ok ns =>
    simp only[e2,R.ok_bind]at h;by_cases few:ns.length<1000
    · rw[if_pos few]at h
      obtain⟨a,xs,h1,h2,h3⟩:=g.tuple hd;have hx:=aJ.ints e2 h3;subst hx;refine⟨a,ns,by rw[h1],h2,few,fun l S hl=>⟨l,S,sH ns,rfl,bL,Cy (aOx ns) few,h _ _ (aL.upd_new hl) (aW.sc (show Rep _ _ (.int _) _ from rfl))⟩⟩
    · rw[if_neg few]at h;exact h.elim
  | _=>simp[hd]at h
 exact main
end Mir
namespace L2
open PySem PySem.Spec PyProof.Rows
section
variable {X:Cx}
theorem aC9:kI X (.type "range") (fun xs H Q=>∃ j:Int,xs=[.int j]/\0<=j/\j<=1000/\∀ l,H l=none->Q (.ref l) (upd H l (.rng 0 j))):=by
 intro pins s σ H xs us Q I r h;obtain⟨j,rfl,h1,h2,q⟩:=h;obtain⟨u,rfl,t,rfl⟩:=kE r;refine call_range_1 ⟨.ref s.heap.objs.size,_,I.laid (o:=.rng 0 j) (fun b o e=>Aa _ e) (Af _) ⟨_,_,_,Ag _ rfl⟩,rfl,q _ I.fresh⟩
def pT (n:Nat):List V:=(Ao n).map fun (i:Nat)=>.int ((0:Int)+(i:Int))
theorem aFa:∀ {xs:List V} {us:List Value},xs.length=us.length->(∀ (i:Nat) (x:V) (u:Value),xs[i]?=some x->us[i]?=some u->bZ x u)->bU xs us
 | [],[],_,_=>.nil
 | [],(_ :: _),h,_=>(by simp at h)
 | (_ :: _),[],h,_=>(by simp at h)
 | x :: xs,u :: us,h,f=>.cons (f 0 x u rfl rfl) (aFa (by simpa using h) fun i y v a b=>f (i+1) y v (by simpa using a) (by simpa using b))
theorem vB {n:Nat}{acc:Array Value}(h:ItemsOf (fun i v=>∃ t,v=.int (0+i*1) t) acc n):bU (pT n) acc.toList:=by
 refine aFa (by simp[pT,h.1]) fun i x u hx hu=>?_
 obtain⟨t,e⟩:=h.2 i u (by rw[←Array.getElem?_toList];exact hu)
 have hi:i<n:=by have:=(Au.mp hx).1;simpa[pT] using this
 have ex:x=.int ((0:Int)+(i:Int)):=by simp[pT,hi]at hx;rw[←hx];simp
 subst ex;exact⟨t,by rw[e,Int.mul_one]⟩
theorem aHz (hc:X.calm=true):kI X (.type "list") (fun xs H Q=>∃ (a:Addr) (j:Int),xs=[.ref a]/\H a=some (.rng 0 j)/\0<=j/\j<=1000/\∀ l,H l=none->Q (.ref l) (upd H l (.lst (pT j.toNat)))):=by
 intro pins s σ H xs us Q I r h;obtain⟨a,j,rfl,hq,h1,h2,q⟩:=h;obtain⟨u,rfl,rx⟩:=kE r;cases rx;obtain⟨t,u,v,e⟩:=I.hok a _ hq;refine call_list_range (n:=j.toNat) (I.ok.hd hc) e (small_one (by omega) (by omega) (by omega) (by omega)) (by rw[rangeSize_one];split<;>omega) (by omega) fun h' tk acc c k e1 it=>?_
 have rv:=vB it;refine⟨.ref s.heap.objs.size,_,I.laid (t':=tk) (o:=.lst (pT j.toNat)) k (Af _) ⟨by simp[pT,sizeLine_eq];omega,acc.toList,c,rv,by simpa using e1⟩,rfl,q _ I.fresh⟩
end
end L2
namespace Mir
open PySem L2
variable {X:Cx}{P:XP}{a b c e:Expr}{es:List Expr}{f g:FE}{fs:FEs}{pos p pos2 p2:Pos}
def qY (a:FE):FE:=fun ρ=>do
 let x ← a ρ
 let j ← asI x.d
 if 0<=j/\j<=1000 then .ok ⟨.tmp,true,.lst (kP 0 j.toNat)⟩ else .stk
theorem aDg {K:PySem.W.Frag}{G:Hp}(n:Nat):aJ K G (kP 0 n) (pT n):=by
 refine aJ.of_get (by simp[kP,pT]) fun i d v h1 h2=>?_
 have hi:i<n:=by have:=(Au.mp h1).1;simpa[kP] using this
 have e1:d=.int ((0:Int)+(i:Int)):=by simp[kP,hi]at h1;rw[←h1];simp
 have e2:v=.int ((0:Int)+(i:Int)):=by simp[pT,hi]at h2;rw[←h2];simp
 subst e1 e2;rfl
theorem aJ5 (hc:X.calm=true)(hg:Gl X "list")(hm:X.mg "list" = none)(hg2:Gl X "range")(hm2:X.mg "range" = none)(ha:PE X a (tE X.K P f))(he:starEach [a] X.env=[(false,eval a X.env)]:=by rfl)
 (he2:starEach [.Call (.Name "range" p2) [a] [] pos2] X.env=[(false,eval (.Call (.Name "range" p2) [a] [] pos2) X.env)]:=by rfl):PE X (.Call (.Name "list" p) [.Call (.Name "range" p2) [a] [] pos2] [] pos) (tE X.K P (qY f)):=by
 refine PE.imp (iP (aHz hc) hg hm (by decide +kernel) (kX (iP aC9 hg2 hm2 (by decide +kernel) (aA ha aF he) (he:=he)) nZ he2) (he:=he2)) ?_
 intro σ H Q h
 have main:tCB (fun vs H1 Q=>∃ j:Int,vs=[.int j]/\0<=j/\j<=1000/\∀ l,H1 l=none->∃ (a:Addr) (i:Int),[V.ref l]=[.ref a]/\upd H1 l (.rng 0 j) a=some (.rng 0 i)/\0<=i/\i<=1000/\∀ l2,upd H1 l (.rng 0 j) l2=none->Q (.ref l2) (upd (upd H1 l (.rng 0 j)) l2 (.lst (pT i.toNat)))) (tAs X.K P [f]) σ H Q:=by
  refine oK h ?_
  intro H0 B ρ v H' r d0 d g s h;cases e:asI r.d with
  | stk=>simp[e]at h
  | exc x=>exact(dR e).elim
  | ok j =>
   simp only[e,R.ok_bind]at h;by_cases hj:0<=j/\j<=1000
   · rw[if_pos hj]at h
     refine⟨j,by rw[g.int (eN e)],hj.1,hj.2,fun l hl=>⟨l,j,rfl,bL,hj.1,hj.2,fun l2 hl2=>?_⟩⟩
     exact h _ _ ((aL.upd_new hl).trans (aL.upd_new hl2)) (kA (d.mono (aL.upd_new hl)) (s.trans (aL.upd_new hl)) hl2 (aDg _))
   · rw[if_neg hj]at h;exact h.elim
 exact main
end Mir
namespace L2
open PySem PySem.Spec PyProof.Rows
section
variable {X:Cx}
def aQh:R2:=fun x y H Q=>∃ a b xs ys,x=.ref a/\y=.ref b/\H a=some (.tup xs)/\H b=some (.tup ys)/\xs.length+ys.length<=sizeLine /\
 (xs=[]->Q (.ref b) H)/\(xs≠[]->ys=[]->Q (.ref a) H)/\(xs≠[]->ys≠[]->∀ p,H p=none->Q (.ref p) (upd H p (.tup (xs++ys))))
theorem aOr:OpR X (binaryOp .Add) aQh:=by
 intro pins s σ H x y v u Q I rx ry h;obtain⟨a,b,xs,ys,rfl,rfl,ha,hb,hz,q0,q1,q2⟩:=h;by_cases hx:xs=[]
 · cases rx
   cases ry;obtain⟨its,r1,p1⟩:=lO I ha;obtain⟨its2,r2,p2⟩:=lO I hb;have e1:its=[]:=r1.nil_iff.mpr hx;subst e1;obtain⟨⟨c1,d1,t1,l1⟩,o1,w1,n1,z1⟩:=p1;obtain⟨⟨c2,d2,t2,l2⟩,o2,w2,n2,z2⟩:=p2;cases (show c1=.type "tuple" from w1);cases (show c2=.type "tuple" from w2)
   cases (show t1=.seq #[] n1 from z1);cases (show t2=.seq its2.toArray n2 from z2)
   exact concat_meets ⟨_,o1,rfl⟩ ⟨_,o2,rfl⟩ noFill_tuple_add seq_tuple_add PySem.F.slot_tuple_add PySem.F.entry_tuple_add (PySem.F.args_tuple_add_2 _ _) (tuple_addW0 a b #[] its2.toArray n1 n2 d1 d2 l1 l2 rfl) ⟨o1,o2,⟨.ref b,H,I,rfl,q0 hx⟩⟩
 · exact aOh pins s σ H _ _ v u Q I rx ry ⟨a,b,xs,ys,rfl,rfl,.inl (.inl ha),.inl (.inl hb),hx,hz,q1 hx,q2 hx⟩
end
end L2
namespace Mir
open PySem L2
variable {X:Cx}{P:XP}{a b c e:Expr}{es:List Expr}{f g:FE}{fs:FEs}{pos p:Pos}
def kL (a b:FE):FE:=fun ρ=>do
 let x ← a ρ
 let y ← b ρ
 let i ← asT x.d
 let j ← asT y.d
 if i.length+j.length<=sizeLine then .ok ⟨.shr,x.fr&&y.fr,.tup (i++j)⟩ else .stk
theorem vX (ha:PE X a (tE X.K P f))(hb:PE X b (tE X.K P g)):PE X (.BinOp a .Add b pos) (tE X.K P (kL f g)):=by
 refine PE.imp (aJk aOr ha hb) ?_
 intro σ H Q h;refine t2 (q:=fun x y H2=>aQh x y H2 Q) h ?_
 intro H0 B ρ v w H' r r' d g1 g2 s h;cases e1:asT r.d with
 | stk=>simp[e1]at h
 | exc x=>exact(uI e1).elim
 | ok i =>
  cases e2:asT r'.d with
  | stk=>simp[e1,e2]at h
  | exc x=>exact(uI e2).elim
  | ok j =>
   simp only[e1,e2,R.ok_bind]at h;by_cases hz:i.length+j.length<=sizeLine
   · rw[if_pos hz]at h
     have w1:=g1.shr_of (by rw[nR e1];rfl)
     have w2:=g2.shr_of (by rw[nR e2];rfl)
     rw[nR e1]at w1;rw[nR e2]at w2;obtain⟨a1,xs,h1,h2,h3⟩:=id w1;obtain⟨a2,ys,k1,k2,k3⟩:=id w2;have lx:=h3.length;have ly:=k3.length;refine⟨a1,a2,xs,ys,h1,k1,fG _ _ h2,fG _ _ k2,by omega,fun z=>?_,fun _ z=>?_,fun _ _ p hp=>?_⟩
     · have jn:i=[]:=Be.mp (by rw[lx,z];rfl)
       refine h _ H' (aL.refl _) ?_
       show Rep X.K (bH (r.fr&&r'.fr) H0 H' B) (.tup (i++j)) (.ref a2)
       rw[jn,Dh,←k1];obtain⟨_,_,z1,z2,_⟩:=(aJ.one w2).andR (fr:=r.fr);cases z1;exact z2
     · have jn:j=[]:=Be.mp (by rw[ly,z];rfl)
       refine h _ H' (aL.refl _) ?_
       show Rep X.K (bH (r.fr&&r'.fr) H0 H' B) (.tup (i++j)) (.ref a1)
       rw[jn,Bt,←h1];obtain⟨_,_,z1,z2,_⟩:=(aJ.one w1).andL (fr':=r'.fr);cases z1;exact z2
     · exact h _ _ (aL.upd_new hp) (oP d hp (h3.andL.append k3.andR))
   · rw[if_neg hz]at h;exact h.elim
end Mir
namespace Dp
open PySem PySem.Spec PyProof.Rows L2
theorem wT:entryFor table "dict.update.loop" = some Builtin.«dict.update.loop»:=entryFor_of_tree (by kernel_rfl)
theorem mW:plainId "dict.update.loop" = true:=by decide +kernel
section
variable {prog:Program}{w:World}{A:Around}{R:Result->Shared->Prop}{I:Addr}{fp wr:List Addr}{G:Array GenState->Array GenState->Prop}{n:Nat}{P:Nat->Value->Prop}{St:Nat->Shared->Prop}
def made (ks:Nat->List Key)(kb:Nat->Addr)(vs:Nat->Value):Nat->List (List Key×Addr×Value)
 | 0=>[]
 | i+1=>storedH (made ks kb vs i) (ks i) (kb i) (vs i)
theorem aCo (ks:Nat->List Key)(kb:Nat->Addr)(vs:Nat->Value):∀ i,(made ks kb vs i).length<=i
 | 0=>Af 0
 | i+1=>by
  have:=aCo ks kb vs i
  show (storedH (made ks kb vs i) (ks i) (kb i) (vs i)).length<=i+1
  unfold storedH;split<;>simp<;>omega
theorem vT {ks:Nat->List Key}{kb:Nat->Addr}{vs:Nat->Value}:∀ {i:Nat} {x:List Key×Addr×Value},x∈made ks kb vs i->∃ j,j<i/\x.1=ks j/\x.2.1=kb j
 | 0,x,h=>by cases h
 | i+1,x,h=>by
  unfold made storedH at h;split at h
  · obtain⟨y,hy,e⟩:=Ak.mp h
    obtain⟨j,hj,a,b⟩:=vT hy;refine⟨j,by omega,?_,?_⟩
    · rw[←e,←a];unfold putAt;split<;>rfl
    · rw[←e,←b];unfold putAt;split<;>rfl
  · rcases Bf.mp h with q | q
    · obtain⟨j,hj,a,b⟩:=vT q
      exact⟨j,by omega,a,b⟩
    · rw[Aq.mp q];exact⟨i,by omega,rfl,rfl⟩
theorem loop (hh:A.units+2<cLine){s0:Shared}(W:WalksS prog w A.in1 I fp wr G n P St)(d:Addr)(hdf:d∉fp)(hz:n<=sizeLine)
 (ks:Nat->List Key) (kb tb:Nat->Addr) (vs:Nat->Value) (hval:∀ i v,P i v->v=.ref (tb i))
 (ht:∀ i,i<n->tb i∉d :: wr/\s0.heap.IsTuple (tb i) #[.ref (kb i),vs i]) (hk:∀ i,i<n->kb i∉d :: wr/\(tupleKind (cF prog w)).is s0.heap (ks i) (kb i)) :
 ∀ (k i:Nat) (s:Shared) (t:Tok),n-i=k->i<=n->St i s->Moved (d :: wr) G s0 s->s.heap.DictOfH (tupleKind (cF prog w)) d (made ks kb vs i) ->
  (∀ s',Moved (d :: wr) G s0 s'->s'.heap.DictOfH (tupleKind (cF prog w)) d (made ks kb vs n)->R (.ok (.ret .none)) s') ->
  codeAny (model prog w) A (.builtin "dict.update.loop" ⟨[.ref d,.ref I,.int (i:Int) t,.none],[]⟩) R s:=by
 have hdw:d∉wr:=fun h=>hdf (W.sub _ h);have hsub:∀ b∈wr,b∈d :: wr:=fun b hb=>Ad _ hb
 have keyAt:∀ (s':Shared),Moved (d :: wr) G s0 s'->∀ j,j<n->(tupleKind (cF prog w)).is s'.heap (ks j) (kb j):=fun s' hm j hj=>by
  obtain⟨k1,o,its,nn,g1,g2⟩:=hk j hj;exact⟨o,its,nn,hm.heap _ _ k1 g1,g2⟩
 have keep:∀ (s s':Shared) (i:Nat),i<=n->Moved (d :: wr) G s0 s'->Moved wr G s s'->s.heap.DictOfH (tupleKind (cF prog w)) d (made ks kb vs i)->s'.heap.DictOfH (tupleKind (cF prog w)) d (made ks kb vs i):=fun s s' i hi h0 hm ⟨o,es,ep,ho,hc,hd,he,his,hn⟩ =>
  ⟨o,es,ep,hm.heap d _ hdw ho,hc,hd,he,fun x hx=>(by
   obtain⟨j,hj,a,b⟩:=vT hx;rw[a,b]
   exact keyAt s' h0 j (by omega)),hn⟩
 intro k;induction k with
 | zero =>
  intro i s t hk' hi hst hm0 hD hR;have hin:i=n:=by omega
  subst hin;refine codeAny_builtin wT ?_
  rw[Around.under_plainId mW _];show wpAny (model prog w) A.in1 (pyNext (.ref I) >>= _) _ _ s
  refine wpAny_bind (W.done s _ _ hst fun s' hm=>?_)
  show wpAny _ A.in1 (Builtin.Dict.addKeywords d [] >>= fun _=>ret Value.none) _ _ s'
  refine wpAny_bind (wpAny_pure (wpAny_pure (hR s' (Moved.trans W.gtrans hm0 (hm.mono hsub)) ?_)))
  exact keep s s' _ (Af _) (Moved.trans W.gtrans hm0 (hm.mono hsub)) hm hD
 | succ k ih =>
  intro i s t hk' hi hst hm0 hD hR;have hlt:i<n:=by omega
  refine codeAny_builtin wT ?_
  rw[Around.under_plainId mW _];show wpAny (model prog w) A.in1 (pyNext (.ref I) >>= _) _ _ s
  refine wpAny_bind (W.item i s _ _ hlt hst fun v s' hP hst' hm=>?_)
  obtain rfl:=hval i v hP;have m1:Moved (d :: wr) G s0 s':=Moved.trans W.gtrans hm0 (hm.mono hsub);obtain⟨t1,o,t2,t3,nn,t4⟩:=ht i hlt;have t5:s'.heap.get? (tb i)=some o:=m1.heap _ _ t1 t2;have ty:s'.TypeIs (.ref (tb i)) "tuple":=⟨_,t5,t3⟩;have hD':=keep s s' i hi m1 hm hD;refine wpAny_bind (wpAny_holding (wpAny_bind (wpAny_tryCatch ?_)))
  unfold Builtin.Dict.pairItems;repeat (first | assumption | wp_step)
  rw[t4];refine(wpAny_pure (wpAny_pure ?_))
  show wpAny _ A.in1 (holding [Value.ref (kb i),vs i] (dictSet d (.ref (kb i)) (vs i))) _ _ s'
  refine wpAny_holding (wpAny_dictSet_heap (hsz:=Ah (aCo ks kb vs i) (by omega)) (tupleKind_room_in1 (by omega)) (keyAt s' m1 i hlt) hD' fun h' hD2 hsb=>?_)
  refine wpAny_pure ⟨plainId_quiet mW _,ih (i+1) _ _ (by omega) hlt (W.frame _ s' _ _ hst' (Da _ _) fun b hb o e=>?_) (m1.then_heap (Da _ _) fun b o hb e=>?_) hD2 hR⟩
  · rw[hsb.2 b (fun h:b=d=>hdf (by rw[←h];exact hb))];exact e
  · rw[hsb.2 b (fun h:b=d=>hb (by rw[h];exact Ab))];exact e
end
end Dp
namespace Dp
open PySem PySem.Spec PyProof.Rows L2
theorem aBb:typeLookup (.type "list") "keys" = pure none:=by rw[typeLookup_type,builtinLookup_eq_fast];kernel_rfl
theorem aDt:typeLookup (.type "list") "__getattr__" = pure none:=by rw[typeLookup_type,builtinLookup_eq_fast];kernel_rfl
section
variable {prog:Program}{w:World}{A:Around}{E:Value->Shared->Prop}{h:Heap}{g:Array GenState}{d:Drawn}{t:Nat}{os:OsState}{a:Addr}{o:Obj}
theorem aEv {tk:Tok}{Q:PySem.Fin->Shared->Prop}(hh:A.handled=none)(hx:h.get? a=some o)(hc:o.cls=.type "list")(hdc:o.dict=none){items:Array Value}{n:Nat}(hdt:o.data=.seq items n)
 (q:∀ h' tk e,Heap.NewAttrErr h h' e (.ref a) "keys"->E (.ref e) ⟨h',g,d,tk,os⟩) :
 wpAny (model prog w) A (Builtin.«object.__getattribute__» ⟨[.ref a,.str "keys" tk],[]⟩) Q E ⟨h,g,d,t,os⟩:=by
 have hT:(⟨h,g,d,t,os⟩:Shared).TypeIs (.ref a) "list":=⟨_,hx,hc⟩;have f4:=aBb;obtain⟨c,dc,dt,sl⟩:=o;cases (show c=.type "list" from hc)
 cases (show dc=none from hdc)
 cases (show dt=.seq items n from hdt)
 repeat (any_goals first | assumption | wp_step)
 exact wpAny_raiseAttrError hh q (attrMsg_fits (by decide +kernel) (by decide +kernel))
theorem aHc {tk:Tok}{R:Result->Shared->Prop}(hh:A.handled=none)(hx:h.get? a=some o)(hc:o.cls=.type "list")(hdc:o.dict=none){items:Array Value}{n:Nat}(hdt:o.data=.seq items n)
 (q:∀ h' tk e,Heap.NewAttrErr h h' e (.ref a) "keys"->R (.error (.ref e)) ⟨h',g,d,tk,os⟩) :
 codeAny (model prog w) A (.call (.builtin "list.__getattribute__") ⟨[.ref a,.str "keys" tk],[]⟩) R ⟨h,g,d,t,os⟩ :=
 codeAny_call_builtin F.slot_list_getattribute.plain F.entry_list_ga (F.slot_list_getattribute.check _ _ _ _ _ _ _ _ (show (⟨h,g,d,t,os⟩:Shared).TypeIs (.ref a) "list" from ⟨_,hx,hc⟩) (F.args_list_getattribute_2 _ _) (aEv hh hx hc hdc hdt q))
theorem aH1 {Q:Option Value->Shared->Prop}(hh:A.handled=none)(hx:h.get? a=some o)(hc:o.cls=.type "list")(hdc:o.dict=none){items:Array Value}{n:Nat}(hdt:o.data=.seq items n)
 (q:∀ h' tk,(∀ b ob,h.get? b=some ob->h'.get? b=some ob)->Q none ⟨h',g,d,tk,os⟩):wpAny (model prog w) A (getAttr? (.ref a) "keys") Q E ⟨h,g,d,t,os⟩:=by
 have hT:(⟨h,g,d,t,os⟩:Shared).TypeIs (.ref a) "list":=⟨_,hx,hc⟩;have f1:=sub_AttributeError;have f2:=F.slot_list_getattribute.lookup;have f3:=F.slot_list_getattribute.bind (.ref a);have f5:=aDt;obtain⟨c,dc,dt,sl⟩:=o;cases (show c=.type "list" from hc)
 cases (show dc=none from hdc)
 cases (show dt=.seq items n from hdt)
 unfold getAttr?;unfold getAttrBy? getAttrBy;repeat (any_goals first | assumption | wp_step)
 refine aHc hh hx hc hdc hdt fun h' tk' e hx'=>?_
 obtain⟨t',u',he⟩:=hx'.there;repeat (any_goals first | assumption | wp_step)
 exact q _ _ hx'.keeps
end
end Dp
namespace Dp
open PySem PySem.Spec PyProof.Rows L2
section
variable {prog:Program}{w:World}{A:Around}{E:Value->Shared->Prop}{s:Shared}{L:Addr}{items:Array Value}
theorem aEz {Q:Value->Shared->Prop}(hh:A.handled=none)(hu:A.units+9<cLine)(hL:s.heap.IsList L items)(hdn:∀ o,s.heap.get? L=some o->o.dict=none)(hz:items.size<=sizeLine)(hb:sysModules<s.heap.objs.size)
 (ks:Nat->List Key) (kb tb:Nat->Addr) (vs:Nat->Value) (hval:∀ (i:Nat) (v:Value),items[i]?=some v->v=.ref (tb i))
 (ht:∀ i,i<items.size->s.heap.IsTuple (tb i) #[.ref (kb i),vs i]) (hk:∀ i,i<items.size->(tupleKind (cF prog w)).is s.heap (ks i) (kb i))
 (q:∀ h' tk,h'.DictOfH (tupleKind (cF prog w)) s.heap.objs.size (made ks kb vs items.size)->(∀ b o,s.heap.get? b=some o->h'.get? b=some o)->Q (.ref s.heap.objs.size) { s with heap:=h',toks:=tk }) :
 wpAny (model prog w) A (call (.type "dict") [.ref L]) Q E s:=by
 refine callType_codes (Q₁:=fun obj s₁=>obj=.ref s.heap.objs.size/\s₁={ s with heap:=s.heap.push { cls:=.type "dict",data:=.dict #[] } }) F.kt_called_dict (F.kt_typeCall_dict_1 _) F.entry_dict_init (kt_code_dict_new _ ⟨rfl,rfl⟩) ?_
 rintro obj s₁ ⟨rfl,rfl⟩
 have lt:L<s.heap.objs.size:=let ⟨_,e,_⟩:=hL;Ae e
 have hnew:(s.heap.push { cls:=.type "dict",data:=.dict #[] }).DictOfH (tupleKind (cF prog w)) s.heap.objs.size []:=⟨_,#[],0,Ag _ rfl,⟨rfl,rfl,rfl⟩,rfl,rfl,(fun x hx=>nomatch hx),Cl⟩;have hL':(s.heap.push { cls:=.type "dict",data:=.dict #[] }).IsList L items:=let ⟨o,e,r⟩:=hL;⟨o,Aa _ e,r⟩
 have tyd:Shared.TypeIs { s with heap:=s.heap.push { cls:=.type "dict",data:=.dict #[] } } (.ref s.heap.objs.size) "dict":=⟨_,Ag _ rfl,rfl⟩
 have tyl:Shared.TypeIs { s with heap:=s.heap.push { cls:=.type "dict",data:=.dict #[] } } (.ref L) "list":=let ⟨o,e,r,_⟩:=hL';⟨o,e,r⟩
 refine⟨tyd,F.args_dict_init_2 _ _,?_⟩
 unfold Builtin.«dict.__init__»;refine wpAny_bind ?_;unfold Builtin.Dict.selfAndRest;refine wpAny_bind (wpAny_notOrdered_dict tyd ?_);show wpAny _ _ (pure (s.heap.objs.size,[Value.ref L])) _ _ _
 refine wpAny_pure ?_
 show wpAny _ _ (Builtin.Dict.updateFrom "dict.__init__" s.heap.objs.size (.ref L) [] .none) _ _ _
 unfold Builtin.Dict.updateFrom;refine wpAny_bind (wpAny_typeOf tyl ?_);rw[if_pos (by decide)]
 obtain⟨o,g1,g2,nn,g3⟩:=hL'
 have hdn':o.dict=none:=by
  obtain⟨o',e,_⟩:=hL;have:(s.heap.push { cls:=.type "dict",data:=.dict #[] }).get? L=some o':=Aa _ e
  rw[g1]at this;cases this;exact hdn _ e
 refine wpAny_bind (aH1 (A:=A.in1.in1) hh g1 g2 hdn' g3 fun h1 tk1 kp=>?_)
 show wpAny _ _ (rule _ >>= _) _ _ _
 refine wpAny_bind (wpAny_rule ?_)
 have hL1:h1.IsList L items:=⟨o,kp _ _ g1,g2,nn,g3⟩;refine wpAny_bind (wpAny_pyIter_list (s:=⟨h1,s.gens,s.drawn,tk1,s.os⟩) hL1 ?_)
 refine wpAny_pure ⟨plainId_quiet mW _,?_⟩
 have dlt:s.heap.objs.size<h1.objs.size:=Ae (kp _ _ (Ag _ rfl));have llt:L<h1.objs.size:=Eg lt dlt;have up:∀ b ob,s.heap.get? b=some ob->(h1.push { cls:=.type "list_iterator",data:=.fields #[.ref L,.int 0 0] }).get? b=some ob:=fun b ob e=>Aa _ (kp _ _ (Aa _ e))
 have nin:∀ b ob,s.heap.get? b=some ob->b∉s.heap.objs.size :: [h1.objs.size]:=fun b ob e=>by
  have:=Ae e
  simp only[An,Bd,or_false,not_or];exact⟨Ay this,Ay (Eg this dlt)⟩
 have nf:s.heap.objs.size∉[h1.objs.size,L]:=by
  simp only[An,Bd,or_false,not_or];exact⟨Ay dlt,De lt⟩
 refine loop (s0:=⟨h1.push { cls:=.type "list_iterator",data:=.fields #[.ref L,.int 0 0] },s.gens,s.drawn,tk1,s.os⟩) (A:=A.in1) (by show A.units+1+2<cLine;omega) ((Walks.list (A:=A.in1.in1) hh h1.objs.size L (Ay llt) items).toS) s.heap.objs.size nf hz ks kb tb vs hval
  (fun i hi=>?_) (fun i hi=>?_) items.size 0 _ _ rfl (Cc _) ⟨⟨_,Ag _ rfl,rfl,rfl⟩,⟨o,Aa _ (kp _ _ g1),g2,nn,g3⟩⟩ (Moved.refl fun _=>rfl) ?_ fun s' hm hD=>?_
 · obtain⟨o',e,r⟩:=ht i hi
   exact⟨nin _ _ e,o',up _ _ e,r⟩
 · obtain⟨o',its,n',e,r⟩:=hk i hi
   exact⟨nin _ _ e,o',its,n',up _ _ e,r⟩
 · obtain⟨o',es,ep,e1,r⟩:=hnew
   exact⟨_,#[],0,Aa _ (kp _ _ (Ag _ rfl)),⟨rfl,rfl,rfl⟩,rfl,rfl,(fun x hx=>nomatch hx),Cl⟩
 · obtain⟨h',gg,dd,tk',os1⟩:=s'
   cases (show gg=s.gens from hm.gens);cases (show dd=s.drawn from hm.drawn);cases (show os1=s.os from hm.os)
   exact⟨rfl,q h' tk' hD fun b ob e=>hm.heap b ob (nin b ob e) (up b ob e)⟩
end
end Dp
namespace L2
open PySem PySem.Spec PyProof.Rows
section
variable {X:Cx}
def dOf (ps:List (List Int×Int)):List (List Key×V):=ps.foldl (fun acc p=>pE acc (p.1.map Sum.inl) (.int p.2)) []
theorem vS (ps:List (List Int×Int))(p:List Int×Int):dOf (ps++[p])=pE (dOf ps) (p.1.map Sum.inl) (.int p.2):=by
 unfold dOf;rw[Gh];rfl
theorem aM9:∀ n,∀ ps:List (List Int×Int),ps.length=n->(dOf ps).length<=n:=by
 intro n;induction n with
 | zero=>intro ps h;rw[Be.mp h];exact Af 0
 | succ n ih =>
  intro ps h;have hy:ps≠[]:=fun z=>by rw[z]at h;simp at h
  rw[←Cb hy,vS];have h1:=nQ (dOf ps.dropLast) ((ps.getLast hy).1.map Sum.inl) (V.int (ps.getLast hy).2);have h2:=ih ps.dropLast (by rw[Dl];omega)
  omega
theorem aOy (hc:X.calm=true)(hu:X.A.units+64<cLine):kI X (.type "dict") (fun xs H Q=>∃ (a:Addr) (ys:List V) (ps:List (List Int×Int)),xs=[.ref a]/\SqL X.K H a ys/\PrV H ys ps/\ps.length<=1000/\∀ l,H l=none->Q (.ref l) (upd H l (.dT (dOf ps)))):=by
 intro pins s σ H xs us Q I r h;obtain⟨a,ys,ps,rfl,hq,hp,few,q⟩:=h;obtain⟨u,rfl,rx⟩:=kE r;cases rx;obtain⟨its,rv,⟨o,n,g1,g2,g3,g4⟩,z⟩:=I.list hq;have ln:its.length=ps.length:=by rw[←rv.length];exact hp.1
 have hex:∀ i:Nat,∃ (p b:Addr) (v:Value),i<ps.length->its[i]?=some (.ref p)/\s.heap.IsTuple p #[.ref b,v]/\bZ (.int (ps.getD i ([],0)).2) v/\H b=some (.tup ((ps.getD i ([],0)).1.map V.int)):=fun i=>by
  by_cases hi:i<ps.length
  · have ek:ps[i]?=some (ps.getD i ([],0)):=by simp[hi]
    obtain⟨p,b,e1,e2,e3⟩:=hp.2 i _ ek;obtain⟨i2,r2,t2⟩:=lO I e2;obtain⟨v1,v2,rfl,q1,q2⟩:=aJr r2;cases (show v1=Value.ref b from q1)
    refine⟨p,b,v2,fun _=>⟨?_,?_,q2,e3⟩⟩
    · obtain⟨w,h1,h2⟩:=rv.get e1
      cases (show w=Value.ref p from h2)
      exact h1
    · obtain⟨ob,k1,k2,m,k3⟩:=t2
      exact⟨ob,k1,k2,m,k3⟩
  · exact⟨0,0,.none,fun h=>absurd h hi⟩
 let tb:Nat->Addr:=fun i=>Classical.choose (hex i)
 let kb:Nat->Addr:=fun i=>Classical.choose (Classical.choose_spec (hex i))
 let vs:Nat->Value:=fun i=>Classical.choose (Classical.choose_spec (Classical.choose_spec (hex i)))
 have sp:∀ i,i<ps.length->its[i]?=some (.ref (tb i))/\s.heap.IsTuple (tb i) #[.ref (kb i),vs i]/\bZ (.int (ps.getD i ([],0)).2) (vs i)/\H (kb i)=some (.tup ((ps.getD i ([],0)).1.map V.int)):=fun i=>Classical.choose_spec (Classical.choose_spec (Classical.choose_spec (hex i)));let ks:Nat->List Key:=fun i=>(ps.getD i ([],0)).1.map Sum.inl
 have hkb:∀ i,i<ps.length->H (kb i)=some (.tup ((ks i).map kV)):=fun i hi=>by rw[(sp i hi).2.2.2,aAa]
 have kt:∀ i,i<=ps.length->KT H (dOf (ps.take i)) (Dp.made ks kb vs i):=by
  intro i;induction i with
  | zero=>intro _;exact .nil
  | succ i ih =>
   intro hi;have e:ps.take (i+1)=ps.take i++[ps.getD i ([],0)]:=by rw[Ea];simp[show i<ps.length by omega]
   rw[e,vS];exact(ih (by omega)).put _ (hkb i (by omega)) (sp i (by omega)).2.2.1
 have sz:its.toArray.size=ps.length:=by rw[Am];exact ln
 refine Dp.aEz (I.ok.hd hc) (by omega) ⟨o,g1,g2,n,g4⟩ (fun o' e=>?_) (by rw[sz,sizeLine_eq];omega) I.big ks kb tb vs (fun i v e=>?_) (fun i hi=>?_) (fun i hi=>?_) fun h' tk hD kp=>?_
 · rw[g1]at e;cases e;exact g3
 · have e':its[i]?=some v:=by simpa using e
   have hi:i<ps.length:=by rw[←ln];exact(Au.mp e').1
   rw[(sp i hi).1]at e';cases e';rfl
 · rw[sz]at hi;exact(sp i hi).2.1
 · rw[sz]at hi;exact jL I.hok (hkb i hi)
 · have ktn:=kt ps.length (Af _)
   rw[Gn]at ktn;rw[sz]at hD;obtain⟨oo,es,ep,h1,h2,h3,h4,_,h5⟩:=hD;have hn:H s.heap.objs.size=none:=I.fresh
   have ktu:KT (upd H s.heap.objs.size (.dT (dOf ps))) (dOf ps) (Dp.made ks kb vs ps.length):=ktn.keeps fun c yy ec=>by
    rw[aR (fun zz=>by rw[zz,hn]at ec;cases ec)];exact ec
   have len:=aM9 ps.length ps rfl;exact⟨.ref s.heap.objs.size,_,I.laid (t':=tk) (o:=.dT (dOf ps)) kp (Af _) ⟨by rw[sizeLine_eq];omega,beq_eq_false_iff_ne.mpr (Ne.symm (Ay I.big)),_,ktu,oo,es,ep,h1,h2,h3,h4,h5⟩,rfl,q _ hn⟩
end
end L2
namespace Mir
open PySem L2
variable {X:Cx}{P:XP}{a b c e:Expr}{es:List Expr}{f g:FE}{fs:FEs}{pos p:Pos}
def wL (ps:List (List Int×Int)):List (List Int)×List D:=ps.foldl (fun A p=>tK A.1 A.2 p.1 (.int p.2)) ([],[])
def aEk (a:FE):FE:=fun ρ=>do
 let x ← a ρ
 let ds ← asL x.d
 let ks ← gI ds
 if ks.length<=1000 then .ok ⟨.tmp,true,.dct (wL ks).1 (wL ks).2⟩ else .stk
theorem aBl {K:PySem.W.Frag}{G:Hp}:∀ n,∀ ps:List (List Int×Int),ps.length=n->dF (wL ps).1 (dOf ps)/\aJ K G (wL ps).2 ((dOf ps).map (·.2)):=by
 intro n;induction n with
 | zero=>intro ps h;rw[Be.mp h];exact⟨rfl,rfl⟩
 | succ n ih =>
  intro ps h;have hy:ps≠[]:=fun z=>by rw[z]at h;simp at h
  have hc:=Cb hy;have ih:=ih ps.dropLast (by rw[Dl];omega)
  rw[←hc,vS];have e:wL (ps.dropLast++[ps.getLast hy])=tK (wL ps.dropLast).1 (wL ps.dropLast).2 (ps.getLast hy).1 (.int (ps.getLast hy).2):=by unfold wL;rw[Gh];rfl
  rw[e];exact aFv ih.1 ih.2 rfl
theorem aU9 (hc:X.calm=true)(hu:X.A.units+64<cLine)(hg:Gl X "dict")(hm:X.mg "dict" = none)(ha:PE X a (tE X.K P f))(he:starEach [a] X.env=[(false,eval a X.env)]:=by rfl):PE X (.Call (.Name "dict" p) [a] [] pos) (tE X.K P (aEk f)):=by
 refine PE.imp (iP (aOy hc hu) hg hm (by decide +kernel) (aA ha aF he) (he:=he)) ?_
 intro σ H Q h;refine oK h ?_
 intro H0 B ρ v H' r d0 d g s h;cases e:asL r.d with
 | stk=>simp[e]at h
 | exc x=>exact(gS e).elim
 | ok ds =>
  simp only[e,R.ok_bind]at h;cases e2:gI ds with
  | stk=>simp[e2]at h
  | exc x=>exact(mP e2).elim
  | ok ks =>
   simp only[e2,R.ok_bind]at h;by_cases few:ks.length<=1000
   · rw[if_pos few]at h
     obtain⟨a,xs,h1,h2,h3⟩:=g.list (iL e);have ed:=sD e2;subst ed;refine⟨a,xs,ks,by rw[h1],.inl h2,aMc fG h3,few,fun l hl=>h _ _ (aL.upd_new hl) ?_⟩
     have hl0:H l=none:=by
      cases hH:H l with
      | none=>rfl
      | some o=>have:=s l o hH;rw[hl]at this;cases this
     exact⟨l,_,rfl,hl0,bL,⟨_,rfl,(aBl (K:=X.K) (G:=H) ks.length ks rfl).1,(aBl ks.length ks rfl).2⟩⟩
   · rw[if_neg few]at h;exact h.elim
end Mir
namespace Mir
open PySem L2
def aVh:D->Bool
 | .lst es=>D.imms es
 | _=>false
theorem aOu {d:D}(h:aVh d=true):∃ es,d=.lst es/\D.imms es=true:=by
 cases d<;>first | exact⟨_,rfl,h⟩ | cases h
theorem aJ.lil {K:PySem.W.Frag}{G G':Hp}(s:∀ b o,G b=some o->stab o=true->G' b=some o):∀ {ds:List D} {vs:List V},ds.all aVh=true->(∀ b xs,V.ref b∈vs->Rd G b (.lst xs)->Rd G' b (.lst xs))->aJ K G ds vs->aJ K G' ds vs
 | [],_,_,_,h=>h
 | d :: r,_,i,l,⟨x,xr,h1,h2,h3⟩=>by
  rw[List.all_cons,Cm]at i;obtain⟨es,rfl,ie⟩:=aOu i.1;obtain⟨a,xs,e1,e2,e3⟩:=h2;subst h1;refine⟨x,xr,rfl,⟨a,xs,e1,l a xs (by rw[e1];exact Ab) e2,aJ.stb s ie e3⟩,aJ.lil s i.2 (fun b ys q=>l b ys (Ad _ q)) h3⟩
theorem Rd.raw {G:Hp}{a:Addr}{xs:List V}(h:Rd G a (.lst xs)):∃ o,G a=some o/\stab o=false:=by
 rcases h with h | ⟨o,h⟩
 · exact⟨_,h,rfl⟩
 · exact⟨_,h,rfl⟩
end Mir
namespace HT
open PySem PySem.Spec PyProof.Rows
section
variable {prog:Program}{w:World}{A:Around}{E:Value->Shared->Prop}{s:Shared}
theorem pF {t sl:Addr}{items:Array Value}{vl vu:Value}{lo hi:Option Int}{Q:Value->Shared->Prop}(ht:IsTup s.heap t items)(hs:s.heap.IsSliceOf sl vl vu .none)(pl:IsPart vl lo)(pu:IsPart vu hi)
 (hw:sIx items.size 0 lo=0/\sIx items.size items.size hi=items.size) (h:Q (.ref t) s):wpAny (model prog w) A (getItem (.ref t) (.ref sl)) Q E s:=by
 obtain⟨os,hos,hcs,hds⟩:=id hs;have hTs:s.TypeIs (.ref sl) "slice":=⟨os,hos,hcs⟩;unfold getItem;try with_reducible refine wpAny_holding ?_
 first | refine wpAny_bind (wpAny_pure ?_) | skip
 refine wpAny_bind (wpAny_sequenceKey ht.typeIs (by decide) ?_)
 refine wpAny_bind (wpAny_callSpecial?_slot (name:=Str.ofString "__getitem__") ht.typeIs Cf
  (wpAny_call_entry Cf ht.typeIs entry_tuple_getitem ?_ (args_tuple_getitem _ _)))
 show wpAny _ _ (Builtin.Tuple.tupleItemsOf (.ref t) >>= _) _ _ s
 refine wpAny_bind (tupleItemsOf_ ht ?_)
 refine wpAny_bind (wpAny_typeOf hTs ?_)
 rw[if_pos (by decide)]
 refine wpAny_bind (mL hs pl pu ?_)
 have yes:(((sIx items.size 0 lo:Nat):Int)==0&&(1:Int)==1&&(sIx items.size items.size hi-sIx items.size 0 lo)==items.size)=true:=by
  rw[hw.1,hw.2];simp
 show wpAny _ _ (if (((sIx items.size 0 lo:Nat):Int)==0&&(1:Int)==1&&(sIx items.size items.size hi-sIx items.size 0 lo)==items.size)=true then _ else _) _ _ s
 rw[if_pos yes];refine wpAny_bind (m:=Builtin.Tuple.tupleIsExact _) (wpAny_bind (wpAny_typeOf ht.typeIs (wpAny_pure ?_)))
 rw[if_pos (by decide)]
 refine wpAny_bind (wpAny_rule ?_)
 first
  | exact wpAny_pure ⟨_,rfl,wpAny_pure h⟩
  | exact wpAny_bind (wpAny_pure ⟨_,rfl,wpAny_pure h⟩)
  | exact wpAny_bind (wpAny_pure (wpAny_pure ⟨_,rfl,wpAny_pure h⟩))
end
end HT
namespace L2
open PySem PySem.Spec PyProof.Rows
section
variable {X:Cx}
abbrev aFh (n:Nat)(lo hi:Option Int):Prop:=HT.sIx n 0 lo=0/\HT.sIx n n hi=n
def aVl (K:PySem.W.Frag):V->Option Int->Option Int->Hp->VK->Prop:=fun x lo hi H Q=>∃ a xs,x=.ref a/\SqT K H a xs /\
 (aFh xs.length lo hi->Q (.ref a) H)/\(¬ aFh xs.length lo hi->∀ p,H p=none->Q (.ref p) (upd H p (.tup (sA xs lo hi))))
theorem aN3:SlR X (aVl X.K):=by
 intro pins s σ H x v vl vu lo hi sl Q I rx hs pl pu h;obtain⟨a,xs,e,hx,q1,q2⟩:=h;by_cases hw:aFh xs.length lo hi
 · subst e
   cases rx;obtain⟨its,r,ht,hz⟩:=I.tuple hx;have n:its.toArray.size=xs.length:=by rw[Am];exact r.length.symm
   exact⟨"tuple",_,Cf.lookup,ht.typeIs,HT.pF ht hs pl pu (by rw[n];exact hw) ⟨.ref a,H,I,rfl,q1 hw⟩⟩
 · exact aJh pins s σ H x v vl vu lo hi sl Q I rx hs pl pu ⟨a,xs,e,hx,hw,q2 hw⟩
end
end L2
namespace Mir
open PySem L2
variable {X:Cx}{P:XP}{a b c e:Expr}{es:List Expr}{f g:FE}{fs:FEs}{pos p:Pos}
def nO (a:FE)(lo hi:FO):FE:=fun ρ=>do
 let x ← a ρ
 let l ← lo ρ
 let h ← hi ρ
 let ds ← asT x.d
 .ok ⟨.shr,x.fr,.tup (lG ds l h)⟩
theorem aMn {ds:List D}{l h:Option Int}(w:aFh ds.length l h):lG ds l h=ds:=by
 unfold lG;rw[w.1,w.2];simp
theorem aJo {lo hi:Option Expr}{fl fh:FO}{p2:Pos}(ha:PE X a (tE X.K P f))(hl:PO X lo (tO X.K P fl))(hh:PO X hi (tO X.K P fh)):PE X (.Subscript a (.Slice lo hi none p2) pos) (tE X.K P (nO f fl fh)):=by
 refine PE.imp (vC aN3 ha hl hh) ?_
 rintro σ H Q ⟨H0,B,ρ,d,h⟩
 unfold nO at h;show tE X.K P f σ H fun x H1=>tO X.K P fl σ H1 fun l H2=>tO X.K P fh σ H2 fun u H3=>aVl X.K x l u H3 Q
 cases e:f ρ with
 | stk=>simp[e]at h
 | exc x=>simp[e]at h;exact dP d e h
 | ok r =>
  simp only[e,R.ok_bind]at h;refine fD d e fun v H1 s1 d1 g1=>⟨H0,B,ρ,d1,?_⟩
  cases e1:fl ρ with
  | stk=>simp[e1]at h
  | exc x=>simp[e1]at h;exact P.mono h s1
  | ok l =>
   simp only[e1,R.ok_bind]at h;intro H2 s2;refine⟨H0,B,ρ,d1.mono s2,?_⟩
   cases e2:fh ρ with
   | stk=>simp[e2]at h
   | exc x=>simp[e2]at h;exact P.mono h (s1.trans s2)
   | ok u =>
    simp only[e2,R.ok_bind]at h;intro H3 s3;cases e3:asT r.d with
    | stk=>simp[e3]at h
    | exc x=>exact(uI e3).elim
    | ok ds =>
     simp only[e3,R.ok_bind]at h;have g2:=g1.mono (s2.trans s3);obtain⟨a1,xs,h1,h2,h3⟩:=g2.tuple (nR e3);have s:=(s1.trans s2).trans s3;have lx:=h3.length;refine⟨a1,xs,h1,.inl (.inl h2),fun z=>h _ _ s ?_,fun z p hp=>h _ _ (s.trans (aL.upd_new hp)) ?_⟩
     · have w1:=g2.shr_of (by rw[nR e3];rfl)
       rw[nR e3,h1]at w1;show Rep X.K (bH r.fr H0 H3 B) (.tup (lG ds l u)) (.ref a1)
       rw[aMn (by rw[lx];exact z)]
       exact w1
     · have q:aJ X.K (bH r.fr H0 H3 B) (lG ds l u) (sA xs l u):=by
        unfold lG sA;rw[lx];exact(h3.drop _).take _
       exact oP ((d1.mono s2).mono s3) hp q
end Mir
namespace Mir
open PySem L2
variable {X:Cx}{P:XP}{a b c e:Expr}{es:List Expr}{f g:FE}{fs:FEs}{pos p:Pos}
def aT3 (a:FE):FE:=fun ρ=>do
 let x ← a ρ
 let ds ← asT x.d
 let l ← dG ds
 .ok (sc (.int l.sum))
end Mir
namespace Rg
open PySem Zp PySem.W
section
variable {prog:Program}{w:World}{A:Around}{E:Value->Shared->Prop}{s:Shared}{r:Addr}{a b c:Int}{t u v:Tok}{n:Nat}
abbrev Is (a c:Int):Nat->Value->Prop:=fun i v=>∃ t,v=.int (a+i*c) t
theorem aHj {Q:List Value->Shared->Prop}(hh:A.handled=none)(hr:IsRange s.heap r a b c t u v)(hs:Builtin.Range.small a b c=true)(hn:Builtin.Range.rangeSize a b c=n)(hl:n<=2^24)
 (q:∀ h' tk acc,(∀ b o,s.heap.get? b=some o->h'.get? b=some o)->ItemsOf (Is a c) acc n->Q acc.toList { s with heap:=h',toks:=tk }):wpAny (model prog w) A (collect (.ref r)) Q E s:=by
 have e0:(s.heap.push (mk [] 0)).get? s.heap.objs.size=some (mk [] 0):=Ag _ rfl;have r0:IsRange (s.heap.push (mk [] 0)) r a b c t u v:=Aa _ hr
 refine wpAny_bind (wpAny_runValue (codeAny_builtin F.entry_proto_collect (by
  rw[Around.under_plainId F.plain_proto_collect]
  refine wpAny_bind (m:=newList []) (wpAny_newObj_type (wpAny_pure ⟨plainId_quiet F.plain_list_iadd _,codeAny_builtin F.entry_list_iadd (by
   rw[Around.under_plainId F.plain_list_iadd];refine wpAny_mono (wpAny_extend_range (R:=fun z s'=>z=.ok (.ret (.ref s.heap.objs.size))/\∃ h' tk acc c',s'={ s with heap:=h',toks:=tk }/\h'.get? s.heap.objs.size=some { cls:=.type "list",dict:=none,data:=.seq acc c',slots:=#[] }/\ItemsOf (Is a c) acc n/\∀ b o,b≠s.heap.objs.size->(s.heap.push (mk [] 0)).get? b=some o->h'.get? b=some o) (s:={ s with heap:=s.heap.push (mk [] 0) }) (A:=A) hh r0 hs hn hl s.heap.objs.size (.ref s.heap.objs.size) 0 e0 fun h' tk acc c' k1 e1 i1=>⟨rfl,h',tk,acc,c',rfl,e1,i1,k1⟩) ?_ fun _ _ z=>nomatch z.1
   have fin:∀ h' tk acc c',h'.get? s.heap.objs.size=some { cls:=.type "list",dict:=none,data:=.seq acc c',slots:=#[] }->ItemsOf (Is a c) acc n->(∀ b o,b≠s.heap.objs.size->(s.heap.push (mk [] 0)).get? b=some o->h'.get? b=some o)->wpAny (model prog w) A (load s.heap.objs.size >>= fun ob=>match ob.data with | .seq xs _=>pure xs.toList | _=>unsupported "internal:collect") Q E { s with heap:=h',toks:=tk }:=fun h' tk acc c' e1 i1 k1 =>
    wpAny_bind (wpAny_load e1 (wpAny_pure (q h' tk acc (fun b o hb=>k1 b o (Ay (Ae hb)) (Aa _ hb)) i1)))
   intro f s1 z;cases f with
   | done f =>
    obtain⟨z,h',tk,acc,c',rfl,e1,i1,k1⟩:=z;cases z;exact fin h' tk acc c' e1 i1 k1
   | again c1=>exact⟨z.1,codeAny_mono z.2 fun r s2 y=>by obtain⟨rfl,h',tk,acc,c',rfl,e1,i1,k1⟩:=y;exact fin h' tk acc c' e1 i1 k1⟩)⟩)))))
theorem aVm {Q:Value->Shared->Prop}(hh:A.handled=none)(hr:IsRange s.heap r a b c t u v)(hs:Builtin.Range.small a b c=true)(hn:Builtin.Range.rangeSize a b c=n)(hl:n<=2^24)
 (q:∀ (h':Heap) (tk:Nat) (acc:Array Value),(∀ b o,s.heap.get? b=some o->h'.get? b=some o)->ItemsOf (Is a c) acc n->Q (.ref h'.objs.size) { s with heap:=h'.push { cls:=.type "tuple",data:=.seq acc },toks:=tk }):codeAny (model prog w) A (.call (.builtin "tuple.__new__") ⟨[.type "tuple",.ref r],[]⟩) (wants Q E) s:=by
 have hT:s.TypeIs (.ref r) "range":=⟨_,hr,rfl⟩;have hz:n<=sizeLine:=Ah hl (by rw[sizeLine_eq];decide)
 refine codeAny_of_tree (wpAny_bind (m:=checkBuiltinCall "tuple.__new__" ⟨[.type "tuple",.ref r],[]⟩) (wpAny_of_eq (F.newCall_tuple_1 _) (wpAny_pure ⟨plainId_quiet F.plain_tuple_new _,codeAny_builtin F.entry_tuple_new (by
  rw[Around.under_plainId F.plain_tuple_new];have k1:=sub_tuple_self;have k2:=init_tuple_lookup;have k3:=madeHere_tuple;wp_walk using wpAny_typeOf hT,aHj (A:=A.in1) hh hr hs hn hl
  intro h' tk acc kp it;refine wpAny_bind (m:=Builtin.Tuple.tupleExact acc.toList.toArray) (wpAny_newObj_type (wpAny_pure ?_) (by show acc.toList.toArray.size<=sizeLine;rw[Array.toArray_toList,it.1];exact hz))
  rw[Array.toArray_toList]
  exact q h' tk acc kp it)⟩)))
end
end Rg
namespace L2
open PySem PySem.Spec PyProof.Rows
section
variable {X:Cx}
theorem aGz (hc:X.calm=true):kI X (.type "tuple") (fun xs H Q=>∃ (a:Addr) (j:Int),xs=[.ref a]/\H a=some (.rng 0 j)/\0<=j/\j<=1000/\∀ l,H l=none->Q (.ref l) (upd H l (.tup (pT j.toNat)))):=by
 intro pins s σ H xs us Q I r h;obtain⟨a,j,rfl,hq,h1,h2,q⟩:=h;obtain⟨u,rfl,rx⟩:=kE r;cases rx;obtain⟨t,u,v,e⟩:=I.hok a _ hq
 refine callType_codes (Q₁:=fun y s₁=>s₁.TypeIs y "tuple"/\EP X pins σ Q y s₁) F.called_tuple (F.typeCall_tuple_1 _) F.entry_object_init
  (Rg.aVm (n:=j.toNat) (I.ok.hd hc) e (small_one (by omega) (by omega) (by omega) (by omega)) (by rw[rangeSize_one];split<;>omega) (by omega) fun h' tk acc kp it=>⟨⟨_,Ag _ rfl,rfl⟩,?_⟩)
  fun y s₁ z=>⟨z.1,F.args_object_init_2 y _,object_init_meets F.called_tuple.init.lookup F.called_tuple.made (by decide) X.prog X.w X.A.in1 _ s₁ ⟨z.1,rfl,z.2⟩⟩
 have I1:Inv X pins σ H { s with heap:=h',toks:=tk }:=I.kept (t':=tk) kp
 exact⟨.ref h'.objs.size,_,I1.laid (t':=tk) (o:=.tup (pT j.toNat)) (fun b o e=>Aa _ e) (Af _) ⟨by simp[pT,sizeLine_eq];omega,acc.toList,vB it,by simpa using IsTup.new _ _⟩,rfl,q _ (I1.hok.fresh (Af _))⟩
end
end L2
namespace Mir
open PySem L2
variable {X:Cx}{P:XP}{a b c e:Expr}{es:List Expr}{f g:FE}{fs:FEs}{pos p pos2 p2:Pos}
def rJ (a:FE):FE:=fun ρ=>do
 let x ← a ρ
 let j ← asI x.d
 if 0<=j/\j<=1000 then .ok ⟨.shr,true,.tup (kP 0 j.toNat)⟩ else .stk
theorem aMp (hc:X.calm=true)(hg:Gl X "tuple")(hm:X.mg "tuple" = none)(hg2:Gl X "range")(hm2:X.mg "range" = none)(ha:PE X a (tE X.K P f))(he:starEach [a] X.env=[(false,eval a X.env)]:=by rfl)
 (he2:starEach [.Call (.Name "range" p2) [a] [] pos2] X.env=[(false,eval (.Call (.Name "range" p2) [a] [] pos2) X.env)]:=by rfl):PE X (.Call (.Name "tuple" p) [.Call (.Name "range" p2) [a] [] pos2] [] pos) (tE X.K P (rJ f)):=by
 refine PE.imp (iP (aGz hc) hg hm (by decide +kernel) (kX (iP aC9 hg2 hm2 (by decide +kernel) (aA ha aF he) (he:=he)) nZ he2) (he:=he2)) ?_
 intro σ H Q h
 have main:tCB (fun vs H1 Q=>∃ j:Int,vs=[.int j]/\0<=j/\j<=1000/\∀ l,H1 l=none->∃ (a:Addr) (i:Int),[V.ref l]=[.ref a]/\upd H1 l (.rng 0 j) a=some (.rng 0 i)/\0<=i/\i<=1000/\∀ l2,upd H1 l (.rng 0 j) l2=none->Q (.ref l2) (upd (upd H1 l (.rng 0 j)) l2 (.tup (pT i.toNat)))) (tAs X.K P [f]) σ H Q:=by
  refine oK h ?_
  intro H0 B ρ v H' r d0 d g s h;cases e:asI r.d with
  | stk=>simp[e]at h
  | exc x=>exact(dR e).elim
  | ok j =>
   simp only[e,R.ok_bind]at h;by_cases hj:0<=j/\j<=1000
   · rw[if_pos hj]at h
     refine⟨j,by rw[g.int (eN e)],hj.1,hj.2,fun l hl=>⟨l,j,rfl,bL,hj.1,hj.2,fun l2 hl2=>?_⟩⟩
     exact h _ _ ((aL.upd_new hl).trans (aL.upd_new hl2)) (oP (d.mono (aL.upd_new hl)) hl2 (aDg _))
   · rw[if_neg hj]at h;exact h.elim
 exact main
end Mir
namespace Mir
open PySem L2
abbrev li (xs:List Int):List D:=xs.map .int
abbrev lil (t:List (List Int)):List D:=t.map fun xs=>.lst (li xs)
theorem aM {s t:FS}{ρ ρ1:Mir.Env}(h:s ρ=.nx ρ1):aP s t ρ=t ρ1:=by simp only[aP,h]
theorem uR {s t:FS}{ρ:Mir.Env}{r:Res}(h:s ρ=.rt r):aP s t ρ=.rt r:=by simp only[aP,h]
theorem eB {it:FI}{tg:Tg}{b:FS}{ρ:Mir.Env}{fr:Bool}{ds:List D}(h:it ρ=.ok ⟨true,fr,ds⟩):cB it tg b ρ=fN tg b fr ds ρ:=by simp only[cB,h,R.at,if_true]
theorem cJ {np n:Nat}{s:FS}{ds:List D}{r:Res}(hl:ds.length=np)(h:s (stE n ds)=.rt r):cG np n s ds=.ok ⟨r.k,r.fr||r.d.imm,r.d⟩:=by simp only[cG,hl,if_true,h]
theorem aA6 {np n:Nat}{s:FS}{ds:List D}{ρ:Mir.Env}(hl:ds.length=np)(h:s (stE n ds)=.nx ρ):cG np n s ds=.ok (sc .non):=by simp only[cG,hl,if_true,h]
theorem aDr {f:FE}{ρ:Mir.Env}{k:Kd}{fr:Bool}{d:D}(h:f ρ=.ok ⟨k,fr,d⟩):bM f ρ=.rt ⟨if k=.shr then .shr else .tmp,fr,d⟩:=by simp only[bM,h,R.at]
theorem qE {f:FE}{ρ:Mir.Env}{r:Res}(h:f ρ=.ok r):jK f ρ=.nx ρ:=by simp only[jK,h,R.at]
theorem eD {f:FE}{ρ:Mir.Env}{i:Nat}{fr:Bool}{d:D}(h:f ρ=.ok ⟨.tmp,fr,d⟩):aO i f ρ=.nx (ρ.set i (some ⟨.own,fr,d⟩)):=by simp only[aO,h,R.at,Res.keep]
theorem set_shr {f:FE}{ρ:Mir.Env}{i:Nat}{fr:Bool}{d:D}(h:f ρ=.ok ⟨.shr,fr,d⟩):aO i f ρ=.nx (ρ.set i (some ⟨.shr,fr,d⟩)):=by simp only[aO,h,R.at,Res.keep]
theorem nP {t:FT}{A B:FS}{ρ:Mir.Env}{b:Bool}(h:t ρ=.ok b):ifS t A B ρ=if b then A ρ else B ρ:=by simp only[ifS,h,R.at]
theorem aCy {f:FE}{A B:FS}{ρ:Mir.Env}{b:Bool}{k:Kd}{fr:Bool}(h:f ρ=.ok ⟨k,fr,.bl b⟩):ifS (bT f) A B ρ=if b then A ρ else B ρ:=by
 simp only[ifS,bT,h,R.ok_bind,asB,R.at]
theorem iD {f:FE}{ρ:Mir.Env}{b:Bool}{k:Kd}{fr:Bool}(h:f ρ=.ok ⟨k,fr,.bl b⟩):bT f ρ=.ok b:=by simp only[bT,h,R.ok_bind,asB]
theorem aF2 {t:FT}{ρ:Mir.Env}{b:Bool}(h:t ρ=.ok b):aAj t ρ=.ok (!b):=by simp only[aAj,h,R.ok_bind]
theorem aKl {t u:FT}{ρ:Mir.Env}{b:Bool}{r:R Bool}(h:t ρ=.ok b)(h2:b=false->u ρ=r):orT t u ρ=if b then .ok true else r:=by
 cases b with
 | true=>simp only[orT,h,R.ok_bind,if_true]
 | false=>simp only[orT,h,R.ok_bind,h2 rfl,Bo,if_false]
theorem aAf {φ:Φ}{fs:FEs}{ρ:Mir.Env}{rs:List Res}{k:Kd}{d:D}(h:evs fs ρ=.ok rs)(hφ:φ (rs.map (·.d))=.ok ⟨k,true,d⟩):aC φ fs ρ=.ok ⟨if k=.shr then .shr else .tmp,true,d⟩:=by
 simp only[aC,h,R.ok_bind,hφ,if_true]
theorem dJ {φ:Φ}{fs:FEs}{ρ:Mir.Env}{rs:List Res}{d:D}(h:evs fs ρ=.ok rs)(hφ:φ (rs.map (·.d))=.ok ⟨.shr,true,d⟩):aC φ fs ρ=.ok ⟨.shr,true,d⟩:=(aAf h hφ).trans rfl
theorem aU {φ:Φ}{fs:FEs}{ρ:Mir.Env}{rs:List Res}{d:D}(h:evs fs ρ=.ok rs)(hφ:φ (rs.map (·.d))=.ok ⟨.tmp,true,d⟩):aC φ fs ρ=.ok ⟨.tmp,true,d⟩:=(aAf h hφ).trans rfl
theorem iS {f:FE}{ρ:Mir.Env}{fr:Bool}{d:D}(h:f ρ=.ok ⟨.tmp,fr,d⟩):bM f ρ=.rt ⟨.tmp,fr,d⟩:=(aDr h).trans rfl
theorem aGk {f:FE}{ρ:Mir.Env}{fr:Bool}{d:D}(h:f ρ=.ok ⟨.own,fr,d⟩):bM f ρ=.rt ⟨.tmp,fr,d⟩:=(aDr h).trans rfl
theorem fA {f:FE}{ρ:Mir.Env}{fr:Bool}{d:D}(h:f ρ=.ok ⟨.shr,fr,d⟩):bM f ρ=.rt ⟨.shr,fr,d⟩:=(aDr h).trans rfl
theorem aB {f:FE}{fs:FEs}{ρ:Mir.Env}{r:Res}{rs:List Res}(h:f ρ=.ok r)(h2:evs fs ρ=.ok rs):evs (f :: fs) ρ=.ok (r :: rs):=by simp only[evs,h,h2,R.ok_bind]
theorem aK {ρ:Mir.Env}:evs [] ρ=.ok []:=rfl
theorem aCq {α:Type}{tg:Tg}{b:FB}{fr:Bool}{ρ:Mir.Env}{inj out:α->D}:∀ (xs:List α),(∀ x∈xs,∃ ρ1 k,tg.bind fr (inj x) ρ=.ok ρ1/\b ρ1=.ok (some ⟨k,true,out x⟩)/\k≠.own)->lQ tg b fr ρ (xs.map inj)=.ok (true,xs.map out)
 | [],_=>rfl
 | x :: r,h=>by
  obtain⟨ρ1,k,h1,h2,h3⟩:=h x Ab;have ih:=aCq r fun y hy=>h y (Ad _ hy);simp only[Ap,lQ,h1,R.ok_bind,h2,Res.give,if_neg h3,ih];rfl
theorem jT {α:Type}{it:FI}{tg:Tg}{b:FB}{fr st:Bool}{ρ:Mir.Env}{k:Nat}{fs:List Nat}{inj out:α->D}{xs:List α}(hi:it ρ=.ok ⟨st,fr,xs.map inj⟩)
 (h:∀ x∈xs,∃ ρ1 k',tg.bind fr (inj x) (eF k fs ρ)=.ok ρ1/\b ρ1=.ok (some ⟨k',true,out x⟩)/\k'≠.own) (hz:xs.length<=sizeLine):bR it k fs tg b ρ=.ok ⟨.tmp,true,.lst (xs.map out)⟩:=by
 have:=aCq xs h
 simp only[bR,hi,R.ok_bind,this,Ac,if_pos hz]
theorem qX {f:FE}{ρ:Mir.Env}{r:Res}(h:f ρ=.ok r):bE f ρ=.ok (some r):=by simp only[bE,h,R.ok_bind]
theorem aC8 {α β:Type}{tg:Tg}{b:FS}{fr:Bool}{inj:α->D}{step:β->α->β}{Q:β->Mir.Env->Prop}:∀ (xs:List α) (s:β) (ρ:Mir.Env),Q s ρ ->
 (∀ x∈xs,∀ s ρ,Q s ρ->∃ ρ1 ρ2,tg.bind fr (inj x) ρ=.ok ρ1/\b ρ1=.nx ρ2/\Q (step s x) ρ2)->∃ ρ',fN tg b fr (xs.map inj) ρ=.nx ρ'/\Q (xs.foldl step s) ρ'
 | [],s,ρ,h,_=>⟨ρ,rfl,h⟩
 | x :: r,s,ρ,h,hs=>by
  obtain⟨ρ1,ρ2,h1,h2,h3⟩:=hs x Ab s ρ h;obtain⟨ρ',h4,h5⟩:=aC8 r (step s x) ρ2 h3 fun y hy=>hs y (Ad _ hy);refine⟨ρ',?_,h5⟩
  simp only[Ap,fN,h1,R.at,h2];exact h4
theorem aKs (lo:Int)(n:Nat):kP lo n=(Ao n).map fun (i:Nat)=>.int (lo+(i:Int)):=rfl
theorem aMd (n:Nat):kP 0 n=(Ao n).map fun (i:Nat)=>.int (i:Int):=by
 rw[aKs];simp
theorem aJ4 {α β:Type}(f:α->D)(g:β->D)(xs:List α)(ys:List β):yI (xs.map f) (ys.map g)=(xs.zip ys).map fun p=>.tup [f p.1,g p.2]:=by
 unfold yI;rw[List.zipWith_map,←List.map_uncurry_zip_eq_zipWith];rfl
theorem gG {n:Nat}(h:n<2^250):n<2^1000:=Av h (Ar (by decide) (by decide))
theorem eP {i j:Int}(h1:i.natAbs<2^1000)(h2:j.natAbs<2^1000):CM i j=true:=by
 have lg:∀ n:Nat,n<2^1000->n.log2<1000000:=fun n h=>by
  by_cases z:n=0
  · subst z;decide
  · exact Eg ((Nat.log2_lt z).mpr h) (by decide)
 unfold CM;rw[decide_eq_true (lg _ h1),decide_eq_true (lg _ h2)];rfl
theorem aFu (a b:Int):qC (.int a) (.int b)=.ok (decide (a=b)):=by
 by_cases h:a=b
 · subst h;simp[qC,lH,SeqAt.shaped,PyData.canLay0,PyData.depth,PyData.eqv]
 · simp[qC,lH,SeqAt.shaped,PyData.canLay0,PyData.depth,PyData.eqv,h]
theorem iV:∀ zs:List Int,dG (li zs)=.ok zs
 | []=>rfl
 | z :: r=>by
  have:=iV r
  simp only[li,Ap,dG]at this ⊢;simp[this,asI]
theorem zF {α:Type}(f:α->Bool):∀ xs:List α,iH (xs.map fun x=>D.bl (f x))=.ok (xs.map f)
 | []=>rfl
 | x :: r=>by
  have:=zF f r
  simp only[Ap,iH];simp[this,asB]
theorem tW {xs:List D}{k:Nat}{d:D}(h:xs[k]?=some d):atI xs (k:Int)=some d:=by
 have hk:=(Au.mp h).1;have hn:¬ (k:Int)<0:=by omega
 unfold atI ixN;rw[if_pos (by omega),if_pos (by omega)]
 simpa using h
theorem lE {f:FE}{ρ:Mir.Env}{k:Kd}{fr:Bool}{ds:List D}(h:f ρ=.ok ⟨k,fr,.lst ds⟩):bX f ρ=.ok (sc (.int ds.length)):=by simp only[bX,h,R.ok_bind,asS]
theorem oI {f:FE}{ρ:Mir.Env}{k:Kd}{fr:Bool}{ds:List D}(h:f ρ=.ok ⟨k,fr,.lst ds⟩):cW f ρ=.ok ⟨k != .own,fr,ds⟩:=by simp only[cW,h,R.ok_bind,asL]
theorem aBf {f g:FE}{ρ:Mir.Env}{k k':Kd}{fr fr':Bool}{i j:Int}(h1:f ρ=.ok ⟨k,fr,.int i⟩)(h2:g ρ=.ok ⟨k',fr',.int j⟩):neE f g ρ=.ok (sc (.bl (!decide (i=j)))):=by simp only[neE,h1,h2,R.ok_bind,aFu]
theorem wD {f g:FE}{ρ:Mir.Env}{k k':Kd}{fr fr':Bool}{i j:Int}(h1:f ρ=.ok ⟨k,fr,.int i⟩)(h2:g ρ=.ok ⟨k',fr',.int j⟩):eqE f g ρ=.ok (sc (.bl (decide (i=j)))):=by simp only[eqE,h1,h2,R.ok_bind,aFu]
theorem aVe {f g:FE}{ρ:Mir.Env}{r r':Res}{b:Bool}(h1:f ρ=.ok r)(h2:g ρ=.ok r')(h:qC r.d r'.d=.ok b):eqE f g ρ=.ok (sc (.bl b)):=by simp only[eqE,h1,h2,R.ok_bind,h]
theorem aVp {f g:FE}{ρ:Mir.Env}{r r':Res}{b:Bool}(h1:f ρ=.ok r)(h2:g ρ=.ok r')(h:qC r.d r'.d=.ok b):neE f g ρ=.ok (sc (.bl (!b))):=by simp only[neE,h1,h2,R.ok_bind,h]
theorem iY {G:Int->Int->Bool}{f g:FE}{ρ:Mir.Env}{k k':Kd}{fr fr':Bool}{i j:Int}(h1:f ρ=.ok ⟨k,fr,.int i⟩)(h2:g ρ=.ok ⟨k',fr',.int j⟩):aG8 G f g ρ=.ok (sc (.bl (G i j))):=by simp only[aG8,h1,h2,R.ok_bind,asI]
theorem aV {C:Int->Int->Bool}{G:Int->Int->Int}{f g:FE}{ρ:Mir.Env}{k k':Kd}{fr fr':Bool}{i j:Int}(h1:f ρ=.ok ⟨k,fr,.int i⟩)(h2:g ρ=.ok ⟨k',fr',.int j⟩)(hc:C i j=true):i2E C G f g ρ=.ok (sc (.int (G i j))):=by
 simp only[i2E,h1,h2,R.ok_bind,asI,hc,if_true]
theorem aLc {f:FE}{ρ:Mir.Env}{k:Kd}{fr:Bool}{zs:List Int}(h:f ρ=.ok ⟨k,fr,.lst (li zs)⟩):aBo f ρ=.ok (sc (.int zs.sum)):=by simp only[aBo,h,R.ok_bind,asL,iV]
theorem aJ1 {f:FE}{ρ:Mir.Env}{x:Res}{j:Int}(h:f ρ=.ok x)(hx:x.d=.int j)(c:-(2^62)<=j/\j<2^62):cV f ρ=.ok ⟨true,true,kP 0 j.toNat⟩:=by
 simp only[cV,h,hx,asI,R.ok_bind];rw[if_pos c]
theorem jS {f:FE}{ρ:Mir.Env}{k:Kd}{fr:Bool}{n:Nat}(h:f ρ=.ok ⟨k,fr,.int n⟩)(hn:(n:Int)<2^62):cV f ρ=.ok ⟨true,true,(Ao n).map fun (i:Nat)=>.int (i:Int)⟩ :=
 (aJ1 h rfl ⟨by omega,hn⟩).trans (by rw[Br,aMd])
theorem mR {f g:FE}{ρ:Mir.Env}{k k':Kd}{fr fr':Bool}{ds:List D}{i:Nat}{d:D}(h1:f ρ=.ok ⟨k,fr,.lst ds⟩)(h2:g ρ=.ok ⟨k',fr',.int i⟩)(h:ds[i]?=some d):bD f g ρ=.ok ⟨.shr,fr||d.imm,d⟩:=by
 simp only[bD,h1,h2,R.ok_bind,asS,asI,tW h]
theorem mX {f g:FE}{ρ:Mir.Env}{k k':Kd}{fr fr':Bool}{ds:List D}{i:Nat}{z:Int}(h1:f ρ=.ok ⟨k,fr,.lst ds⟩)(h2:g ρ=.ok ⟨k',fr',.int i⟩)(h:ds[i]?=some (.int z)):bD f g ρ=.ok ⟨.shr,true,.int z⟩ :=
 (mR h1 h2 h).trans (by simp[D.imm])
end Mir
namespace Mir
open PySem L2
theorem aMy {φ:Φ}{fs:FEs}{ρ:Mir.Env}{rs:List Res}{k:Kd}{d:D}{y:Bool×List D}(h:evs fs ρ=.ok rs)(hφ:φ (rs.map (·.d))=.ok ⟨k,false,d⟩)(hg:gives rs=.ok y):aC φ fs ρ=.ok ⟨if k=.shr then .shr else .tmp,y.1,d⟩:=by
 simp only[aC,h,R.ok_bind,hφ,Bo,if_false,hg]
theorem aIa (lo:Int)(n:Nat):kP lo (n+1)=.int lo :: kP (lo+1) n:=by
 unfold kP;simp only[List.range_succ_eq_map,Ap,Bb];congr 1
 · simp
 · apply Bq
   intro a _;simp only[Function.comp,D.int.injEq];push_cast
   omega
theorem aOd {a b:FE}{ρ:Mir.Env}{x y:Res}{lo:Int}{m:Nat}(ha:a ρ=.ok x)(hx:x.d=.int lo)(hb:b ρ=.ok y)(hy:y.d=.int (lo+m))(h1:0<=lo)(h2:lo+m<2^62):zM a b ρ=.ok ⟨true,true,kP lo m⟩:=by
 have r1:-(2^62)<=lo/\lo<2^62/\-(2^62)<=lo+(m:Int)/\lo+(m:Int)<2^62:=by omega
 have r2:(lo+(m:Int)-lo).toNat=m:=by omega
 simp only[zM,ha,hb,hx,hy,asI,R.ok_bind];rw[if_pos r1,r2]
abbrev aC3:FS:=(aP (aO 6 (cH (bN (vE 5) (vE 5)) (bN (cE (.int 3)) (vE 5))))
 (aP (ifS (bT (ltE (vE 5) (bX (vE 0))))
  (aO 6 (bD (vE 0) (vE 5)))
  eC)
 (mY 4 (eM (cA (vE 6) (cH (bN (cE (.int 2)) (vE 3)) (cE (.int 1)))) (vE 3)))))
theorem wC {i:Nat}{f:FE}{ρ:Mir.Env}{fr fr':Bool}{ds:List D}{k:Kd}{d:D}(ho:ρ[i]?=some (some ⟨.own,fr,.lst ds⟩))(h:f ρ=.ok ⟨k,fr',d⟩)(hk:k≠.own)(hz:ds.length<sizeLine):mY i f ρ=.nx (ρ.set i (some ⟨.own,fr&&fr',.lst (ds++[d])⟩)):=by
 simp only[mY,lW,ho,R.at,h,Res.give,if_neg hk,if_pos hz]
theorem aD5 (ns:List Int)(size:Int)(h0:0<=size)(hs:size.natAbs<2^250)(b c x6:Option Res)(acc:List D)(k:Nat)(hk:k<2^100)(ha:acc.length<sizeLine) :
 ∃ v y6,v.natAbs<=size.natAbs/\aC3 [some ⟨.shr,false,.lst (li ns)⟩,b,c,some ⟨.shr,false,.int size⟩,some ⟨.own,true,.lst acc⟩,some ⟨.shr,true,.int k⟩,x6] =
  .nx [some ⟨.shr,false,.lst (li ns)⟩,b,c,some ⟨.shr,false,.int size⟩,some ⟨.own,true,.lst (acc++[.int v])⟩,some ⟨.shr,true,.int k⟩,y6]:=by
 have kk:(k:Int).natAbs<2^1000:=gG (by rw[Int.natAbs_natCast];exact Eg hk (by decide))
 have ss:size.natAbs<2^1000:=gG hs;have c1:CM (k:Int) k=true:=eP kk kk;have c2:CM 3 (k:Int)=true:=eP (gG (by decide)) kk
 have c3:CM 2 size=true:=eP (gG (by decide)) ss
 have c4:∀ v,CP v (2*size+1)=true:=fun v=>decide_eq_true (by omega)
 have bd:∀ v:Int,(v%(2*size+1)-size).natAbs<=size.natAbs:=fun v=>by
  have q1:=Cj v (show 2*size+1≠0 by omega)
  have q2:=Bu v (show 0<2*size+1 by omega)
  omega
 have e1:∀ x:Option Res,aO 6 (cH (bN (vE 5) (vE 5)) (bN (cE (.int 3)) (vE 5))) [some ⟨.shr,false,.lst (li ns)⟩,b,c,some ⟨.shr,false,.int size⟩,some ⟨.own,true,.lst acc⟩,some ⟨.shr,true,.int k⟩,x]=.nx [some ⟨.shr,false,.lst (li ns)⟩,b,c,some ⟨.shr,false,.int size⟩,some ⟨.own,true,.lst acc⟩,some ⟨.shr,true,.int k⟩,some (sc (.int ((k:Int)*k+3*k)))]:=fun x =>
  set_shr (aV (C:=C0) (aV (C:=CM) (i:=(k:Int)) (j:=k) rfl rfl c1) (aV (C:=CM) (i:=3) (j:=k) rfl rfl c2) rfl)
 have e3:∀ v:Int,mY 4 (eM (cA (vE 6) (cH (bN (cE (.int 2)) (vE 3)) (cE (.int 1)))) (vE 3)) [some ⟨.shr,false,.lst (li ns)⟩,b,c,some ⟨.shr,false,.int size⟩,some ⟨.own,true,.lst acc⟩,some ⟨.shr,true,.int k⟩,some (sc (.int v))] =
  .nx [some ⟨.shr,false,.lst (li ns)⟩,b,c,some ⟨.shr,false,.int size⟩,some ⟨.own,true,.lst (acc++[.int (v%(2*size+1)-size)])⟩,some ⟨.shr,true,.int k⟩,some (sc (.int v))]:=fun v =>
  wC (fr:=true) (fr':=true) (ds:=acc) (k:=.shr) rfl (aV (C:=C0) (aV (C:=CP) (i:=v) (j:=2*size+1) rfl (aV (C:=C0) (i:=2*size) (j:=1) (aV (C:=CM) (i:=2) (j:=size) rfl rfl c3) rfl rfl) (c4 v)) rfl rfl) (by decide) ha
 by_cases h:k<ns.length
 · refine⟨_,some (sc (.int ns[k])),bd ns[k],?_⟩
   unfold aC3;rw[aM (e1 x6)];refine(aM ?_).trans (e3 ns[k])
   refine(aCy (iY (i:=(k:Int)) (j:=((li ns).length:Int)) rfl (lE (ds:=li ns) rfl))).trans ?_
   have:decide ((k:Int)<((li ns).length:Int))=true:=decide_eq_true (by simpa using h)
   simp only[this,if_true];exact(set_shr (mR (ds:=li ns) (i:=k) (d:=.int ns[k]) rfl rfl (by rw[Aw,Aj h];rfl))).trans rfl
 · refine⟨_,some (sc (.int ((k:Int)*k+3*k))),bd ((k:Int)*k+3*k),?_⟩
   unfold aC3;rw[aM (e1 x6)];refine(aM ?_).trans (e3 ((k:Int)*k+3*k))
   refine(aCy (iY (i:=(k:Int)) (j:=((li ns).length:Int)) rfl (lE (ds:=li ns) rfl))).trans ?_
   have:decide ((k:Int)<((li ns).length:Int))=false:=decide_eq_false (by simpa using h)
   simp only[this,Bo,if_false];rfl
theorem aKd (ns:List Int)(size:Int)(h0:0<=size)(hs:size.natAbs<2^250)(b c:Option Res):∀ (m k:Nat) (x5 x6:Option Res) (acc:List D),k+m<2^100->acc.length+m<=sizeLine ->
 ∃ (L:List Int) (y5 y6:Option Res),L.length=m/\(∀ v∈L,v.natAbs<=size.natAbs)/\fN (.nm 5) aC3 true (kP k m) [some ⟨.shr,false,.lst (li ns)⟩,b,c,some ⟨.shr,false,.int size⟩,some ⟨.own,true,.lst acc⟩,x5,x6] =
  .nx [some ⟨.shr,false,.lst (li ns)⟩,b,c,some ⟨.shr,false,.int size⟩,some ⟨.own,true,.lst (acc++li L)⟩,y5,y6]
 | 0,k,x5,x6,acc,_,_=>⟨[],x5,x6,rfl,fun _ h=>by simp at h,by simp[kP,fN]⟩
 | m+1,k,x5,x6,acc,hk,ha=>by
  obtain⟨v,y6,hv,e⟩:=aD5 ns size h0 hs b c x6 acc k (by omega) (by omega)
  obtain⟨L,z5,z6,l1,l2,e2⟩:=aKd ns size h0 hs b c m (k+1) (some ⟨.shr,true,.int k⟩) y6 (acc++[.int v]) (by omega) (by simp;omega)
  refine⟨v :: L,z5,z6,by simp[l1],fun u hu=>?_,?_⟩
  · rcases An.mp hu with z | z
    · rw[z];exact hv
    · exact l2 u z
  · rw[aIa,fN,Tg.bind]
    simp only[R.at,List.set,e];have:=e2
    push_cast at this
    rw[this];simp
abbrev aWb:FS:=(aP (aO 4 (cN []))
 (aP (cB (zM (vE 1) (cH (vE 1) (vE 2))) (.nm 5) aC3)
 (bM (vE 4))))
theorem aD3 (ns:List Int)(st m:Nat)(size:Int)(h0:0<=size)(hs:size.natAbs<2^250)(hk:st+m<2^60)(hm:m<=sizeLine):∃ L:List Int,L.length=m/\(∀ v∈L,v.natAbs<=size.natAbs) /\
 cG 4 7 aWb [.lst (li ns),.int st,.int m,.int size]=.ok ⟨.tmp,true,.lst (li L)⟩:=by
 obtain⟨L,y5,y6,l1,l2,e⟩:=aKd ns size h0 hs (some ⟨.shr,false,.int st⟩) (some ⟨.shr,false,.int m⟩) m st none none [] (by omega) (by simpa using hm)
 refine⟨L,l1,l2,?_⟩
 refine cJ (r:=⟨.tmp,true,.lst (li L)⟩) rfl ?_
 refine(aM (ρ1:=[some ⟨.shr,false,.lst (li ns)⟩,some ⟨.shr,false,.int st⟩,some ⟨.shr,false,.int m⟩,some ⟨.shr,false,.int size⟩,some ⟨.own,true,.lst []⟩,none,none]) (by rfl)).trans ?_
 refine(aM (ρ1:=[some ⟨.shr,false,.lst (li ns)⟩,some ⟨.shr,false,.int st⟩,some ⟨.shr,false,.int m⟩,some ⟨.shr,false,.int size⟩,some ⟨.own,true,.lst (li L)⟩,y5,y6]) ?_).trans ?_
 rotate_left
 · rfl
 · rw[eB (aOd (lo:=st) (m:=m) rfl rfl rfl rfl (by omega) (by omega))]
   exact e
end Mir
namespace Mir
open PySem L2
mutual
def D.pl:D->Nat->Bool
 | .non,_=>true
 | .bl _,_=>true
 | .int _,_=>true
 | .lst ds,n=>decide (0<n)&&D.pls ds (n-1)
 | .tup ds,n=>decide (0<n)&&D.pls ds (n-1)
 | _,_=>false
def D.pls:List D->Nat->Bool
 | [],_=>true
 | d :: r,n=>D.pl d n&&D.pls r n
end
mutual
theorem aQw:∀ (d:D) (n:Nat),d.pl n=true->∃ p,lH d=some p/\p.depth<=n/\p.canLay0=true/\PyData.eqv p p=true
 | .non,n,_=>⟨.none,rfl,by simp[PyData.depth],by simp[PyData.canLay0],by simp[PyData.eqv]⟩
 | .bl b,n,_=>⟨.bool b,rfl,by simp[PyData.depth],by simp[PyData.canLay0],by simp[PyData.eqv]⟩
 | .int i,n,_=>⟨.int i,rfl,by simp[PyData.depth],by simp[PyData.canLay0],by simp[PyData.eqv]⟩
 | .str _,_,h=>by simp[D.pl]at h
 | .obj _ _,_,h=>by simp[D.pl]at h
 | .dct _ _,_,h=>by simp[D.pl]at h
 | .any,_,h=>by simp[D.pl]at h
 | .exc _ _,_,h=>by simp[D.pl]at h
 | .lst ds,n,h=>by
  simp only[D.pl,Cm,decide_eq_true_eq]at h;obtain⟨ps,h1,h2,h3,h4⟩:=aDp ds (n-1) h.2;refine⟨.list ps,by simp only[lH,h1,Fc],?_,by simpa only[PyData.canLay0] using h3,by simpa only[PyData.eqv] using h4⟩
  simp only[PyData.depth];omega
 | .tup ds,n,h=>by
  simp only[D.pl,Cm,decide_eq_true_eq]at h;obtain⟨ps,h1,h2,h3,h4⟩:=aDp ds (n-1) h.2;refine⟨.tuple ps,by simp only[lH,h1,Fc],?_,by simpa only[PyData.canLay0] using h3,by simpa only[PyData.eqv] using h4⟩
  simp only[PyData.depth];omega
theorem aDp:∀ (ds:List D) (n:Nat),D.pls ds n=true->∃ ps,sU ds=some ps/\PyData.depthAll ps<=n/\PyData.canLayAll0 ps=true/\PyData.eqvAll ps ps=true
 | [],n,_=>⟨[],rfl,by simp[PyData.depthAll],by simp[PyData.canLayAll0],by simp[PyData.eqvAll]⟩
 | d :: r,n,h=>by
  simp only[D.pls,Cm]at h;obtain⟨p,a1,a2,a3,a4⟩:=aQw d n h.1;obtain⟨ps,h1,h2,h3,h4⟩:=aDp r n h.2;refine⟨p :: ps,by simp only[sU,a1,h1,Gk,Fc],?_,by simp only[PyData.canLayAll0,a3,h3,Gj],by simp only[PyData.eqvAll,a4,h4,Gj]⟩
  simp only[PyData.depthAll];omega
end
theorem aC5 {d:D}(n:Nat)(h:d.pl n=true)(hn:n<=64):qC d d=.ok true:=by
 obtain⟨p,h1,h2,h3,h4⟩:=aQw d n h
 have s:SeqAt.shaped p=true:=by
  unfold SeqAt.shaped;rw[h3,decide_eq_true (Ah h2 hn)];rfl
 unfold qC;rw[h1];simp only[s,Gj,if_true,h4]
theorem zY {n:Nat}:∀ {ds:List D},(∀ d∈ds,d.pl n=true)->D.pls ds n=true
 | [],_=>rfl
 | d :: r,h=>by
  simp only[D.pls,h d Ab,zY fun x hx=>h x (Ad _ hx),Gj]
theorem aSu (xs:List Int)(n:Nat):D.pls (li xs) n=true:=zY fun d hd=>by
 obtain⟨i,_,rfl⟩:=Ak.mp hd;rfl
theorem aE4 {α:Type}(f:α->D)(xs:List α):mZ (xs.map f)=xs.zipIdx.map fun p=>.tup [.int p.2,f p.1]:=by
 unfold mZ;rw[List.zipIdx_map,Bb];rfl
theorem aQy {f:FE}{lo hi:FO}{ρ:Mir.Env}{k:Kd}{fr:Bool}{ds:List D}{a b:Option Int}(h:f ρ=.ok ⟨k,fr,.lst ds⟩)(hl:lo ρ=.ok a)(hh:hi ρ=.ok b):tP f lo hi ρ=.ok ⟨.tmp,fr,.lst (lG ds a b)⟩:=by
 simp only[tP,h,hl,hh,R.ok_bind,asL]
end Mir
namespace N63
open PySem L2 Mir
def top (i:Nat):Stmt:=PySem.Challenge.pw_flatmeet_k63_whole_hooks_and_turning.main.body.getD i (.Pass ⟨0,0,0,0⟩)
structure Blt (mg:Str->Option Value):Prop where
 len_:mg "len" = none
 list_:mg "list" = none
 zip_:mg "zip" = none
 enumerate_:mg "enumerate" = none
 set_:mg "set" = none
 sorted_:mg "sorted" = none
 tuple_:mg "tuple" = none
 any_:mg "any" = none
 range_:mg "range" = none
 dict_:mg "dict" = none
 sum_:mg "sum" = none
 g_MOST_WAYS:∃ t,mg "MOST_WAYS" = some (.int 5 t)
section
variable {Pg:Program}{w:World}{K:PySem.W.Frag}{mg:Str->Option Value}{base:Heap}{k:Nat}{T:Addr}
abbrev iT:Stmt:=top 8
theorem nM:FnScope ["one","other"] ["one","other"] (aT iT):=⟨rfl,rfl,rfl,by decide +kernel,rfl,by decide +kernel,by decide +kernel⟩
def yB:FS :=
 (ifS (bT (neE (bX (vE 0)) (bX (vE 1))))
  (wV)
  eC)
def eX:Φ:=cG 2 2 yB
theorem lI (B:Blt mg)  (F:bF K mg "check_alike" iT ["one","other"]):aG Pg w K mg base (CXM Pg w) (k+1) "check_alike" ["one","other"] (spM K (clK K) eX):=by
 have nd:=nM.nd;refine cM F nM fun f cdv A outer s H E hr=>?_
 have hu:=hr.units
 exact(aQ (iG (sW hu (jE rfl B.len_ (m_v 0)) (jE rfl B.len_ (m_v 1)))
  (aQ aGa)
  fF))
abbrev uG:Stmt:=top 9
theorem aBk:FnScope ["one","other"] ["one","other"] (aT uG):=⟨rfl,rfl,rfl,by decide +kernel,rfl,by decide +kernel,by decide +kernel⟩
def aPr:FS :=
 (aP (jK (aC eX [vE 0,vE 1]))
 (bM (aS4 (vE 0) (vE 1))))
def pA:Φ:=cG 2 2 aPr
theorem aBg (B:Blt mg)(lI:aG Pg w K mg base (CXM Pg w) k "check_alike" ["one","other"] (spM K (clK K) eX))(F:bF K mg "pairs" uG ["one","other"]):aG Pg w K mg base (CXM Pg w) (k+1) "pairs" ["one","other"] (spM K (clK K) pA):=by
 have nd:=aBk.nd;refine cM F aBk fun f cdv A outer s H E hr=>?_
 have hu:=hr.units
 exact(aH (vK (aS lI hr rfl cC (aA (m_v 0) (aA (m_v 1) aF))))
  (aQ (cU (aU1 rfl rfl B.list_ rfl B.zip_ (m_v 0) (m_v 1)))))
abbrev iX:Stmt:=top 10
theorem nX:FnScope ["many"] ["many"] (aT iX):=⟨rfl,rfl,rfl,by decide +kernel,rfl,by decide +kernel,by decide +kernel⟩
def xM:FS :=
 (ifS (orT (bT (ltE (vE 0) (cE (.int 1)))) (bT (gtE (vE 0) (cE (.int 5)))))
  (wV)
  eC)
def cY:Φ:=cG 1 1 xM
theorem gB (B:Blt mg)  (F:bF K mg "check_count" iX ["many"]):aG Pg w K mg base (CXM Pg w) (k+1) "check_count" ["many"] (spM K (clK K) cY):=by
 have nd:=nX.nd;refine cM F nX fun f cdv A outer s H E hr=>?_
 have hu:=hr.units
 exact(aQ (iG (PW.pt (aQs (aBz (m_v 0) aI) (aKq (aL2 (m_v 0) (aTm rfl B.g_MOST_WAYS)))))
  (aQ aGa)
  fF))
abbrev jU:Stmt:=top 11
theorem pK:FnScope ["many","rows","place","row"] ["many","rows"] (aT jU):=⟨rfl,rfl,rfl,by decide +kernel,rfl,by decide +kernel,by decide +kernel⟩
def aBc:FS :=
 (aP (jK (aC cY [vE 0]))
 (cB (aAw (vE 1)) (.tp [.nm 2,.nm 3])
  (ifS (bT (neE (bX (vE 3)) (vE 0)))
   (wV)
   eC)))
def gV:Φ:=cG 2 4 aBc
theorem mV (B:Blt mg)(gB:aG Pg w K mg base (CXM Pg w) k "check_count" ["many"] (spM K (clK K) cY))(F:bF K mg "check_rows" jU ["many","rows"]):aG Pg w K mg base (CXM Pg w) (k+1) "check_rows" ["many","rows"] (spM K (clK K) gV):=by
 have nd:=pK.nd;refine cM F pK fun f cdv A outer s H E hr=>?_
 have hu:=hr.units
 exact(aH (vK (aS gB hr rfl cC (aA (m_v 0) aF)))
  (aQ (fW fV rfl (aFj rfl B.enumerate_ (m_v 1)) (jD rfl (bC (bS nd rfl (Or.inl rfl)) (bC (bS nd rfl (Or.inl rfl)) dY)))
   (aQ (iG (sW hu (jE rfl B.len_ (m_v 3)) (m_v 0))
    (aQ aGa)
    fF)))))
abbrev oU:Stmt:=top 13
theorem wY:FnScope ["places","exchanges","place","number"] ["places"] (aT oU):=⟨rfl,rfl,rfl,by decide +kernel,rfl,by decide +kernel,by decide +kernel⟩
def aH6:FS :=
 (aP (ifS (bT (ltE (tF (vE 0)) (bX (vE 0))))
  (bM (cE (.int 0)))
  eC)
 (aP (aO 1 (cE (.int 0)))
 (aP (cB (uO (vE 0)) (.tp [.nm 2,.nm 3])
  (yF 1 (fun m n=>m+n) (bX (bR (pU (iE (vE 0) (noO) (soO (vE 2)))) 1 [3] (.nm 0) (Mir.bIf (bT (gtE (vE 0) (vE 1))) (vE 0))))))
 (bM (eM (cE (.int 1)) (bN (cE (.int 2)) (cA (vE 1) (cE (.int 2)))))))))
def fP:Φ:=cG 1 4 aH6
theorem mG (B:Blt mg)  (F:bF K mg "turn_of" oU ["places"]):aG Pg w K mg base (CXM Pg w) (k+1) "turn_of" ["places"] (spM K (clK K) fP):=by
 have nd:=wY.nd;refine cM F wY fun f cdv A outer s H E hr=>?_
 have hu:=hr.units
 exact(aH (iG (aBz (aS7 rfl rfl B.len_ rfl B.set_ (m_v 0)) (jE rfl B.len_ (m_v 0)))
  (aQ (cU aI))
  fF)
  (aH (bW (i:=1) nd rfl (Or.inl rfl) aI)
  (aH (fW fV rfl (aFi rfl B.enumerate_ (m_v 0)) (jD rfl (bC (bS nd rfl (Or.inl rfl)) (bC (bS nd rfl (Or.inr rfl)) dY)))
   (aQ (aRk (i:=1) nd rfl (Or.inl rfl) (jE rfl B.len_ (lF rfl (cR (XN:=["places","exchanges","place","number"]) (N:=["before","number"]) (k:=1) (fs:=[3]) rfl rfl rfl (by decide +kernel)) (aLb (aD1 (m_v 0) aB6 (nT (m_v 2)))) (fun _ _ _=>(bS (show (["before","number"]:List Str).Nodup by decide +kernel) rfl (Or.inl rfl))) (pZ rfl) (fun _ _ _=>aGe (aL2 (m_v 0) (m_v 1)) (m_v 0)))))))
  (aQ (cU (kM aI (dW aI (eW (m_v 1) aI))))))))
abbrev rA:Stmt:=top 14
theorem yX:FnScope ["terms","numbers","places","number","key"] ["terms"] (aT rA):=⟨rfl,rfl,rfl,by decide +kernel,rfl,by decide +kernel,by decide +kernel⟩
def aJx:FS :=
 (aP (aO 1 (wZ))
 (aP (tQ 0 (cB (cW (vE 0)) (.tp [.nm 2,.nm 3])
  (aP (aO 4 (nK (pP (vE 2))))
  (rR 1 (vE 4) (cH (pD (vE 1) (vE 4) (cE (.int 0))) (bN (aC fP [vE 2]) (vE 3)))))))
 (bM (bR (cW (aDb (vE 1))) 1 [1] (.nm 0) (Mir.bIf (bT (neE (pO (vE 1) (vE 0)) (cE (.int 0)))) (dH [vE 0,pO (vE 1) (vE 0)]))))))
def dC:Φ:=cG 1 5 aJx
theorem eG (B:Blt mg)(mG:aG Pg w K mg base (CXM Pg w) k "turn_of" ["places"] (spM K (clK K) fP))(F:bF K mg "summed" rA ["terms"]):aG Pg w K mg base (CXM Pg w) (k+1) "summed" ["terms"] (spM K (clK K) dC):=by
 have nd:=yX.nd;refine cM F yX fun f cdv A outer s H E hr=>?_
 have hu:=hr.units
 exact(aH (bW (i:=1) nd rfl (Or.inr rfl) aLd)
  (aH (aL5 (i:=0) (fW fV rfl (fJ (m_v 0)) (jD rfl (bC (bS nd rfl (Or.inl rfl)) (bC (bS nd rfl (Or.inl rfl)) dY)))
   (aH (bW (i:=4) nd rfl (Or.inl rfl) (aBs rfl B.tuple_ (aJz rfl B.sorted_ (m_v 2))))
   (aQ (aKu (i:=1) hu rfl (Or.inr (Or.inl rfl)) (m_v 4) (gP (aL1 hu (m_v 1) (m_v 4) aI) (dW (aS mG hr rfl cC (aA (m_v 2) aF)) (m_v 3))))))))
  (aQ (cU (lF rfl (cR (XN:=["terms","numbers","places","number","key"]) (N:=["key","numbers"]) (k:=1) (fs:=[1]) rfl rfl rfl (by decide +kernel)) (fJ (aRr rfl rfl B.sorted_ (m_v 1))) (fun _ _ _=>(bS (show (["key","numbers"]:List Str).Nodup by decide +kernel) rfl (Or.inl rfl))) (pZ rfl) (fun _ _ _=>aGe (sW hu (aMz hu (m_v 1) (m_v 0)) aI) (jH (aA (m_v 0) (aA (aMz hu (m_v 1) (m_v 0)) aF)))))))))
abbrev tX:Stmt:=top 15
theorem aBy:FnScope ["one","other"] ["one","other"] (aT tX):=⟨rfl,rfl,rfl,by decide +kernel,rfl,by decide +kernel,by decide +kernel⟩
def aPy:FS :=
 (bM (aC dC [pG (vE 0) (vE 1)]))
def mU:Φ:=cG 2 2 aPy
theorem zZ (B:Blt mg)(eG:aG Pg w K mg base (CXM Pg w) k "summed" ["terms"] (spM K (clK K) dC))(F:bF K mg "added" tX ["one","other"]):aG Pg w K mg base (CXM Pg w) (k+1) "added" ["one","other"] (spM K (clK K) mU):=by
 have nd:=aBy.nd;refine cM F aBy fun f cdv A outer s H E hr=>?_
 have hu:=hr.units;exact(aQ (cU (aS eG hr rfl cC (aA (aGl (m_v 0) (m_v 1)) aF))))
abbrev uN:Stmt:=top 16
theorem aBr:FnScope ["some","many"] ["some","many"] (aT uN):=⟨rfl,rfl,rfl,by decide +kernel,rfl,by decide +kernel,by decide +kernel⟩
def aM4:FS :=
 (bM (aC dC [bR (cW (vE 0)) 2 [1] (.tp [.nm 0,.nm 1]) (bE (dH [vE 0,bN (vE 1) (vE 2)]))]))
def dU:Φ:=cG 2 2 aM4
theorem kU (B:Blt mg)(eG:aG Pg w K mg base (CXM Pg w) k "summed" ["terms"] (spM K (clK K) dC))(F:bF K mg "taken" uN ["some","many"]):aG Pg w K mg base (CXM Pg w) (k+1) "taken" ["some","many"] (spM K (clK K) dU):=by
 have nd:=aBr.nd;refine cM F aBr fun f cdv A outer s H E hr=>?_
 have hu:=hr.units;exact(aQ (cU (aS eG hr rfl cC (aA (lF rfl (cR (XN:=["some","many"]) (N:=["places","number","many"]) (k:=2) (fs:=[1]) rfl rfl rfl (by decide +kernel)) (fJ (m_v 0)) (fun _ _ _=>(jD rfl (bC (bS (show (["places","number","many"]:List Str).Nodup by decide +kernel) rfl (Or.inl rfl)) (bC (bS (show (["places","number","many"]:List Str).Nodup by decide +kernel) rfl (Or.inl rfl)) dY)))) (pZ rfl) (fun _ _ _=>lC (jH (aA (m_v 0) (aA (dW (m_v 1) (m_v 2)) aF))))) aF))))
abbrev oO:Stmt:=top 17
theorem xB:FnScope ["one","other","terms","front","left"] ["one","other"] (aT oO):=⟨rfl,rfl,rfl,by decide +kernel,rfl,by decide +kernel,by decide +kernel⟩
def aIg:FS :=
 (aP (aO 2 (cN []))
 (aP (cB (cW (vE 0)) (.tp [.nm 3,.nm 4])
  (aDk 2 (bR (cW (vE 1)) 2 [3,4] (.tp [.nm 0,.nm 1]) (bE (dH [kL (vE 2) (vE 0),bN (vE 3) (vE 1)])))))
 (bM (aC dC [vE 2]))))
def bJ:Φ:=cG 2 5 aIg
theorem eL (B:Blt mg)(eG:aG Pg w K mg base (CXM Pg w) k "summed" ["terms"] (spM K (clK K) dC))(F:bF K mg "product" oO ["one","other"]):aG Pg w K mg base (CXM Pg w) (k+1) "product" ["one","other"] (spM K (clK K) bJ):=by
 have nd:=xB.nd;refine cM F xB fun f cdv A outer s H E hr=>?_
 have hu:=hr.units
 exact(aH (bW (i:=2) nd rfl (Or.inl rfl) (fU aF))
  (aH (fW fV rfl (fJ (m_v 0)) (jD rfl (bC (bS nd rfl (Or.inr rfl)) (bC (bS nd rfl (Or.inr rfl)) dY)))
   (aQ (aTy (i:=2) rfl (Or.inl rfl) (lF rfl (cR (XN:=["one","other","terms","front","left"]) (N:=["back","right","front","left"]) (k:=2) (fs:=[3,4]) rfl rfl rfl (by decide +kernel)) (fJ (m_v 1)) (fun _ _ _=>(jD rfl (bC (bS (show (["back","right","front","left"]:List Str).Nodup by decide +kernel) rfl (Or.inl rfl)) (bC (bS (show (["back","right","front","left"]:List Str).Nodup by decide +kernel) rfl (Or.inl rfl)) dY)))) (pZ rfl) (fun _ _ _=>lC (jH (aA (vX (m_v 2) (m_v 0)) (aA (dW (m_v 3) (m_v 1)) aF))))))))
  (aQ (cU (aS eG hr rfl cC (aA (m_v 2) aF))))))
abbrev qD:Stmt:=top 18
theorem yK:FnScope ["many","rows","told","row"] ["many","rows"] (aT qD):=⟨rfl,rfl,rfl,by decide +kernel,rfl,by decide +kernel,by decide +kernel⟩
def aMg:FS :=
 (aP (jK (aC gV [vE 0,vE 1]))
 (aP (aO 2 (cN [dH [dH [],cE (.int 1)]]))
 (aP (cB (cW (vE 1)) (.nm 3)
  (aO 2 (aC bJ [vE 2,aC dC [bR (aAw (vE 3)) 2 [] (.tp [.nm 0,.nm 1]) (bE (dH [dH [vE 0],vE 1]))]])))
 (bM (vE 2)))))
def eJ:Φ:=cG 2 4 aMg
theorem mJ (B:Blt mg)(mV:aG Pg w K mg base (CXM Pg w) k "check_rows" ["many","rows"] (spM K (clK K) gV))(eL:aG Pg w K mg base (CXM Pg w) k "product" ["one","other"] (spM K (clK K) bJ))(eG:aG Pg w K mg base (CXM Pg w) k "summed" ["terms"] (spM K (clK K) dC))(F:bF K mg "box_of" qD ["many","rows"]):aG Pg w K mg base (CXM Pg w) (k+1) "box_of" ["many","rows"] (spM K (clK K) eJ):=by
 have nd:=yK.nd;refine cM F yK fun f cdv A outer s H E hr=>?_
 have hu:=hr.units
 exact(aH (vK (aS mV hr rfl cC (aA (m_v 0) (aA (m_v 1) aF))))
  (aH (bW (i:=2) nd rfl (Or.inl rfl) (fU (aA (jH (aA (jH aF) (aA aI aF))) aF)))
  (aH (fW fV rfl (fJ (m_v 1)) (bS nd rfl (Or.inl rfl))
   (aQ (bW (i:=2) nd rfl (Or.inl rfl) (aS eL hr rfl cC (aA (m_v 2) (aA (aS eG hr rfl cC (aA (lF rfl (cR (XN:=["many","rows","told","row"]) (N:=["way","number"]) (k:=2) (fs:=[]) rfl rfl rfl (by decide +kernel)) (aFj rfl B.enumerate_ (m_v 3)) (fun _ _ _=>(jD rfl (bC (bS (show (["way","number"]:List Str).Nodup by decide +kernel) rfl (Or.inl rfl)) (bC (bS (show (["way","number"]:List Str).Nodup by decide +kernel) rfl (Or.inl rfl)) dY)))) (pZ rfl) (fun _ _ _=>lC (jH (aA (jH (aA (m_v 0) aF)) (aA (m_v 1) aF))))) aF)) aF))))))
  (aQ (cU (m_v 2))))))
abbrev jB:Stmt:=top 20
theorem oC:FnScope ["row","some","places","number"] ["row","some"] (aT jB):=⟨rfl,rfl,rfl,by decide +kernel,rfl,by decide +kernel,by decide +kernel⟩
def xV:FS :=
 (cB (cW (vE 1)) (.tp [.nm 2,.nm 3])
  (ifS (bT (aH2 (bR (pU (vE 2)) 1 [0] (.nm 0) (bE (geE (vE 0) (bX (vE 1)))))))
   (wV)
   eC))
def fZ:Φ:=cG 2 4 xV
theorem lD (B:Blt mg)  (F:bF K mg "check_reach" jB ["row","some"]):aG Pg w K mg base (CXM Pg w) (k+1) "check_reach" ["row","some"] (spM K (clK K) fZ):=by
 have nd:=oC.nd;refine cM F oC fun f cdv A outer s H E hr=>?_
 have hu:=hr.units
 exact(aQ (fW fV rfl (fJ (m_v 1)) (jD rfl (bC (bS nd rfl (Or.inl rfl)) (bC (bS nd rfl (Or.inl rfl)) dY)))
  (aQ (iG (aDq (aUk rfl rfl B.any_ (lF rfl (cR (XN:=["row","some","places","number"]) (N:=["way","row"]) (k:=1) (fs:=[0]) rfl rfl rfl (by decide +kernel)) (aLb (m_v 2)) (fun _ _ _=>(bS (show (["way","row"]:List Str).Nodup by decide +kernel) rfl (Or.inl rfl))) (pZ rfl) (fun _ _ _=>lC (aWk (m_v 0) (jE rfl B.len_ (m_v 1)))))))
   (aQ aGa)
   fF))))
abbrev rL:Stmt:=top 21
theorem yN:FnScope ["row","some","terms","places","number","place","way","turned"] ["row","some"] (aT rL):=⟨rfl,rfl,rfl,by decide +kernel,rfl,by decide +kernel,by decide +kernel⟩
def aJd:FS :=
 (aP (jK (aC fZ [vE 0,vE 1]))
 (aP (aO 2 (cN []))
 (aP (cB (cW (vE 1)) (.tp [.nm 3,.nm 4])
  (cB (uO (vE 3)) (.tp [.nm 5,.nm 6])
   (aP (aO 7 (bN (vE 4) (eM (cE (.int 1)) (bN (cE (.int 2)) (cA (vE 5) (cE (.int 2)))))))
   (mY 2 (dH [kL (iE (vE 3) (noO) (soO (vE 5))) (iE (vE 3) (soO (cH (vE 5) (cE (.int 1)))) (noO)),bN (vE 7) (bD (vE 0) (vE 6))])))))
 (bM (aC dC [vE 2])))))
def bQ:Φ:=cG 2 8 aJd
theorem fM (B:Blt mg)(lD:aG Pg w K mg base (CXM Pg w) k "check_reach" ["row","some"] (spM K (clK K) fZ))(eG:aG Pg w K mg base (CXM Pg w) k "summed" ["terms"] (spM K (clK K) dC))(F:bF K mg "hooked" rL ["row","some"]):aG Pg w K mg base (CXM Pg w) (k+1) "hooked" ["row","some"] (spM K (clK K) bQ):=by
 have nd:=yN.nd;refine cM F yN fun f cdv A outer s H E hr=>?_
 have hu:=hr.units
 exact(aH (vK (aS lD hr rfl cC (aA (m_v 0) (aA (m_v 1) aF))))
  (aH (bW (i:=2) nd rfl (Or.inl rfl) (fU aF))
  (aH (fW fV rfl (fJ (m_v 1)) (jD rfl (bC (bS nd rfl (Or.inl rfl)) (bC (bS nd rfl (Or.inl rfl)) dY)))
   (aQ (fW fV rfl (aFi rfl B.enumerate_ (m_v 3)) (jD rfl (bC (bS nd rfl (Or.inl rfl)) (bC (bS nd rfl (Or.inl rfl)) dY)))
    (aH (bW (i:=7) nd rfl (Or.inl rfl) (dW (m_v 4) (kM aI (dW aI (eW (m_v 5) aI)))))
    (aQ (zG (i:=2) rfl (Or.inl rfl) (jH (aA (vX (aD1 (m_v 3) aB6 (nT (m_v 5))) (aD1 (m_v 3) (nT (gP (m_v 5) aI)) aB6)) (aA (dW (m_v 7) (dN (m_v 0) (m_v 6))) aF)))))))))
  (aQ (cU (aS eG hr rfl cC (aA (m_v 2) aF)))))))
abbrev oY:Stmt:=top 22
theorem uQ:FnScope ["many","places"] ["many","places"] (aT oY):=⟨rfl,rfl,rfl,by decide +kernel,rfl,by decide +kernel,by decide +kernel⟩
def aG1:FS :=
 (bM (nK (bR (cV (vE 0)) 1 [1] (.nm 0) (Mir.bIf (bT (inE true (vE 0) (vE 1))) (vE 0)))))
def lV:Φ:=cG 2 2 aG1
theorem sJ (B:Blt mg)  (F:bF K mg "lacking" oY ["many","places"]):aG Pg w K mg base (CXM Pg w) (k+1) "lacking" ["many","places"] (spM K (clK K) lV):=by
 have nd:=uQ.nd;refine cM F uQ fun f cdv A outer s H E hr=>?_
 have hu:=hr.units;exact(aQ (cU (aBs rfl B.tuple_ (lF rfl (cR (XN:=["many","places"]) (N:=["way","places"]) (k:=1) (fs:=[1]) rfl rfl rfl (by decide +kernel)) (iZ rfl B.range_ (m_v 0)) (fun _ _ _=>(bS (show (["way","places"]:List Str).Nodup by decide +kernel) rfl (Or.inl rfl))) (pZ rfl) (fun _ _ _=>aGe (aQ7 (m_v 0) (m_v 1)) (m_v 0))))))
abbrev iW:Stmt:=top 23
theorem oN:FnScope ["many","some","terms","places","number","others"] ["many","some"] (aT iW):=⟨rfl,rfl,rfl,by decide +kernel,rfl,by decide +kernel,by decide +kernel⟩
def xX:FS :=
 (aP (jK (aC cY [vE 0]))
 (aP (aO 2 (cN []))
 (aP (cB (cW (vE 1)) (.tp [.nm 3,.nm 4])
  (aP (aO 5 (aC lV [vE 0,vE 3]))
  (mY 2 (dH [vE 5,bN (vE 4) (aC fP [kL (vE 3) (vE 5)])]))))
 (bM (aC dC [vE 2])))))
def aX:Φ:=cG 2 6 xX
theorem dM (B:Blt mg)(gB:aG Pg w K mg base (CXM Pg w) k "check_count" ["many"] (spM K (clK K) cY))(sJ:aG Pg w K mg base (CXM Pg w) k "lacking" ["many","places"] (spM K (clK K) lV))(mG:aG Pg w K mg base (CXM Pg w) k "turn_of" ["places"] (spM K (clK K) fP))(eG:aG Pg w K mg base (CXM Pg w) k "summed" ["terms"] (spM K (clK K) dC))(F:bF K mg "turned_over" iW ["many","some"]):aG Pg w K mg base (CXM Pg w) (k+1) "turned_over" ["many","some"] (spM K (clK K) aX):=by
 have nd:=oN.nd;refine cM F oN fun f cdv A outer s H E hr=>?_
 have hu:=hr.units
 exact(aH (vK (aS gB hr rfl cC (aA (m_v 0) aF)))
  (aH (bW (i:=2) nd rfl (Or.inl rfl) (fU aF))
  (aH (fW fV rfl (fJ (m_v 1)) (jD rfl (bC (bS nd rfl (Or.inl rfl)) (bC (bS nd rfl (Or.inl rfl)) dY)))
   (aH (bW (i:=5) nd rfl (Or.inl rfl) (aS sJ hr rfl cC (aA (m_v 0) (aA (m_v 3) aF))))
   (aQ (zG (i:=2) rfl (Or.inl rfl) (jH (aA (m_v 5) (aA (dW (m_v 4) (aS mG hr rfl cC (aA (vX (m_v 3) (m_v 5)) aF))) aF)))))))
  (aQ (cU (aS eG hr rfl cC (aA (m_v 2) aF)))))))
abbrev gR:Stmt:=top 24
theorem nH:FnScope ["one","other","numbers"] ["one","other"] (aT gR):=⟨rfl,rfl,rfl,by decide +kernel,rfl,by decide +kernel,by decide +kernel⟩
def wQ:FS :=
 (aP (aO 2 (aEk (vE 1)))
 (bM (aBo (bR (cW (vE 0)) 2 [2] (.tp [.nm 0,.nm 1]) (bE (bN (vE 1) (pD (vE 2) (vE 0) (cE (.int 0)))))))))
def cP:Φ:=cG 2 3 wQ
theorem fI (B:Blt mg)  (F:bF K mg "weighed_sums" gR ["one","other"]):aG Pg w K mg base (CXM Pg w) (k+1) "weighed_sums" ["one","other"] (spM K (clK K) cP):=by
 have nd:=nH.nd;refine cM F nH fun f cdv A outer s H E hr=>?_
 have hu:=hr.units
 exact(aH (bW (i:=2) nd rfl (Or.inr rfl) (aU9 rfl hu rfl B.dict_ (m_v 1)))
  (aQ (cU (aQf rfl rfl B.sum_ (lF rfl (cR (XN:=["one","other","numbers"]) (N:=["places","number","numbers"]) (k:=2) (fs:=[2]) rfl rfl rfl (by decide +kernel)) (fJ (m_v 0)) (fun _ _ _=>(jD rfl (bC (bS (show (["places","number","numbers"]:List Str).Nodup by decide +kernel) rfl (Or.inl rfl)) (bC (bS (show (["places","number","numbers"]:List Str).Nodup by decide +kernel) rfl (Or.inl rfl)) dY)))) (pZ rfl) (fun _ _ _=>lC (dW (m_v 1) (aL1 hu (m_v 2) (m_v 0) aI))))))))
abbrev oS:Stmt:=top 26
theorem wE:FnScope ["one","other"] ["one","other"] (aT oS):=⟨rfl,rfl,rfl,by decide +kernel,rfl,by decide +kernel,by decide +kernel⟩
def aG5:FS :=
 (bM (aBo (bR (cW (aC pA [vE 0,vE 1])) 2 [] (.tp [.nm 0,.nm 1]) (bE (bN (vE 0) (vE 1))))))
def gQ:Φ:=cG 2 2 aG5
theorem rZ (B:Blt mg)(aBg:aG Pg w K mg base (CXM Pg w) k "pairs" ["one","other"] (spM K (clK K) pA))(F:bF K mg "weighed" oS ["one","other"]):aG Pg w K mg base (CXM Pg w) (k+1) "weighed" ["one","other"] (spM K (clK K) gQ):=by
 have nd:=wE.nd;refine cM F wE fun f cdv A outer s H E hr=>?_
 have hu:=hr.units;exact(aQ (cU (aQf rfl rfl B.sum_ (lF rfl (cR (XN:=["one","other"]) (N:=["left","right"]) (k:=2) (fs:=[]) rfl rfl rfl (by decide +kernel)) (fJ (aS aBg hr rfl cC (aA (m_v 0) (aA (m_v 1) aF)))) (fun _ _ _=>(jD rfl (bC (bS (show (["left","right"]:List Str).Nodup by decide +kernel) rfl (Or.inl rfl)) (bC (bS (show (["left","right"]:List Str).Nodup by decide +kernel) rfl (Or.inl rfl)) dY)))) (pZ rfl) (fun _ _ _=>lC (dW (m_v 0) (m_v 1)))))))
abbrev lA:Stmt:=top 28
theorem qL:FnScope ["_law_script","_law_k"] ["_law_script","_law_k"] (aT lA):=⟨rfl,rfl,rfl,by decide +kernel,rfl,by decide +kernel,by decide +kernel⟩
def aBv:FS :=
 (aP (ifS (bT (ltE (vE 1) (bX (vE 0))))
  (bM (cA (bD (vE 0) (vE 1)) (cE (.int 2147483647))))
  eC)
 (bM (cE (.int 0))))
def bY:Φ:=cG 2 2 aBv
theorem gO (B:Blt mg)  (F:bF K mg "_law_cell" lA ["_law_script","_law_k"]):aG Pg w K mg base (CXM Pg w) (k+1) "_law_cell" ["_law_script","_law_k"] (spM K (clK K) bY):=by
 have nd:=qL.nd;refine cM F qL fun f cdv A outer s H E hr=>?_
 have hu:=hr.units
 exact(aH (iG (aBz (m_v 1) (jE rfl B.len_ (m_v 0)))
  (aQ (cU (eW (dN (m_v 0) (m_v 1)) aI)))
  fF)
  (aQ (cU aI)))
abbrev jQ:Stmt:=top 29
theorem pI:FnScope ["_law_cell_here","_law_k","_law_many","_law_number"] ["_law_cell_here","_law_k","_law_many"] (aT jQ):=⟨rfl,rfl,rfl,by decide +kernel,rfl,by decide +kernel,by decide +kernel⟩
def aAz:FS :=
 (aP (aO 3 (cA (cH (cH (bN (cA (vE 0) (cE (.int 2147483647))) (cE (.int 48271))) (bN (bN (cE (.int 69621)) (vE 1)) (vE 1))) (bN (cE (.int 7)) (vE 1))) (cE (.int 2147483629))))
 (aP (aO 3 (cA (bN (vE 3) (vE 3)) (cE (.int 2147483587))))
 (bM (cA (cA (bN (vE 3) (cH (vE 3) (cE (.int 48271)))) (cE (.int 2147483563))) (vE 2)))))
def gW:Φ:=cG 3 4 aAz
theorem nG (B:Blt mg)  (F:bF K mg "_law_thing" jQ ["_law_cell_here","_law_k","_law_many"]):aG Pg w K mg base (CXM Pg w) (k+1) "_law_thing" ["_law_cell_here","_law_k","_law_many"] (spM K (clK K) gW):=by
 have nd:=pI.nd;refine cM F pI fun f cdv A outer s H E hr=>?_
 have hu:=hr.units
 exact(aH (bW (i:=3) nd rfl (Or.inl rfl) (eW (gP (gP (dW (eW (m_v 0) aI) aI) (dW (dW aI (m_v 1)) (m_v 1))) (dW aI (m_v 1))) aI))
  (aH (bW (i:=3) nd rfl (Or.inl rfl) (eW (dW (m_v 3) (m_v 3)) aI))
  (aQ (cU (eW (eW (dW (m_v 3) (gP (m_v 3) aI)) aI) (m_v 2))))))
abbrev gF:Stmt:=top 30
theorem mF:FnScope ["_law_terms","_law_counts","_law_places","_law_number","_law_sign","_law_j","_law_k","_law_rising"] ["_law_terms"] (aT gF):=⟨rfl,rfl,rfl,by decide +kernel,rfl,by decide +kernel,by decide +kernel⟩
def tU:FS :=
 (aP (aO 1 (wZ))
 (aP (cB (cW (vE 0)) (.tp [.nm 2,.nm 3])
  (aP (aO 4 (cE (.int 1)))
  (aP (cB (cV (bX (vE 2))) (.nm 5)
   (cB (cV (vE 5)) (.nm 6)
    (aP (ifS (bT (gtE (bD (vE 2) (vE 6)) (bD (vE 2) (vE 5))))
     (aO 4 (eM (cE (.int 0)) (vE 4)))
     eC)
    (ifS (bT (eqE (bD (vE 2) (vE 6)) (bD (vE 2) (vE 5))))
     (aO 3 (cE (.int 0)))
     eC))))
  (aP (aO 7 (nK (pP (vE 2))))
  (rR 1 (vE 7) (cH (pD (vE 1) (vE 7) (cE (.int 0))) (bN (vE 4) (vE 3))))))))
 (bM (aB8 (aEg (vE 1) 2 (.tp [.nm 0,.nm 1]) (Mir.bIf (bT (neE (vE 1) (cE (.int 0)))) (dH [vE 0,vE 1])))))))
def eU:Φ:=cG 1 8 tU
theorem jM (B:Blt mg)  (F:bF K mg "_law_gathered" gF ["_law_terms"]):aG Pg w K mg base (CXM Pg w) (k+1) "_law_gathered" ["_law_terms"] (spM K (clK K) eU):=by
 have nd:=mF.nd;refine cM F mF fun f cdv A outer s H E hr=>?_
 have hu:=hr.units
 exact(aH (bW (i:=1) nd rfl (Or.inl rfl) aLd)
  (aH (fW fV rfl (fJ (m_v 0)) (jD rfl (bC (bS nd rfl (Or.inl rfl)) (bC (bS nd rfl (Or.inl rfl)) dY)))
   (aH (bW (i:=4) nd rfl (Or.inl rfl) aI)
   (aH (fW fV rfl (iZ rfl B.range_ (jE rfl B.len_ (m_v 2))) (bS nd rfl (Or.inl rfl))
    (aQ (fW fV rfl (iZ rfl B.range_ (m_v 5)) (bS nd rfl (Or.inl rfl))
     (aH (iG (aL2 (dN (m_v 2) (m_v 6)) (dN (m_v 2) (m_v 5)))
      (aQ (bW (i:=4) nd rfl (Or.inl rfl) (kM aI (m_v 4))))
      fF)
     (aQ (iG (aFy hu (dN (m_v 2) (m_v 6)) (dN (m_v 2) (m_v 5)))
      (aQ (bW (i:=3) nd rfl (Or.inl rfl) aI))
      fF))))))
   (aH (bW (i:=7) nd rfl (Or.inl rfl) (aBs rfl B.tuple_ (aJz rfl B.sorted_ (m_v 2))))
   (aQ (aKu (i:=1) hu rfl (Or.inl rfl) (m_v 7) (gP (aL1 hu (m_v 1) (m_v 7) aI) (dW (m_v 4) (m_v 3)))))))))
  (aQ (cU (aTj hu rfl B.sorted_ (aNb rfl (cR (XN:=["_law_terms","_law_counts","_law_places","_law_number","_law_sign","_law_j","_law_k","_law_rising"]) (N:=["_law_places","_law_number"]) (k:=2) (fs:=[]) rfl rfl rfl (by decide +kernel)) (m_v 1) (fun _ _ _=>(jD rfl (bC (bS (show (["_law_places","_law_number"]:List Str).Nodup by decide +kernel) rfl (Or.inl rfl)) (bC (bS (show (["_law_places","_law_number"]:List Str).Nodup by decide +kernel) rfl (Or.inl rfl)) dY)))) (pZ rfl) (fun _ _ _=>aGe (sW hu (m_v 1) aI) (jH (aA (m_v 0) (aA (m_v 1) aF))))))))))
abbrev jA:Stmt:=top 31
theorem oB:FnScope ["_law_cell_here","_law_far","_law_many","_law_size","_law_left","_law_found","_law_k"] ["_law_cell_here","_law_far","_law_many","_law_size"] (aT jA):=⟨rfl,rfl,rfl,by decide +kernel,rfl,by decide +kernel,by decide +kernel⟩
def yH:FS :=
 (aP (aO 4 (qY (vE 2)))
 (aP (aO 5 (cN []))
 (aP (cB (cV (vE 3)) (.nm 6)
  (lR 5 4 (aC gW [vE 0,cH (vE 1) (vE 6),bX (vE 4)])))
 (bM (nK (vE 5))))))
def gC:Φ:=cG 4 7 yH
theorem lM (B:Blt mg)(nG:aG Pg w K mg base (CXM Pg w) k "_law_thing" ["_law_cell_here","_law_k","_law_many"] (spM K (clK K) gW))(F:bF K mg "_law_chosen" jA ["_law_cell_here","_law_far","_law_many","_law_size"]):aG Pg w K mg base (CXM Pg w) (k+1) "_law_chosen" ["_law_cell_here","_law_far","_law_many","_law_size"] (spM K (clK K) gC):=by
 have nd:=oB.nd;refine cM F oB fun f cdv A outer s H E hr=>?_
 have hu:=hr.units
 exact(aH (bW (i:=4) nd rfl (Or.inl rfl) (aJ5 rfl rfl B.list_ rfl B.range_ (m_v 2)))
  (aH (bW (i:=5) nd rfl (Or.inl rfl) (fU aF))
  (aH (fW fV rfl (iZ rfl B.range_ (m_v 3)) (bS nd rfl (Or.inl rfl))
   (aQ (aCt (j:=5) (i:=4) rfl rfl (Or.inl rfl) (Or.inl rfl) (aS nG hr rfl cC (aA (m_v 0) (aA (gP (m_v 1) (m_v 6)) (aA (jE rfl B.len_ (m_v 4)) aF)))))))
  (aQ (cU (aBs rfl B.tuple_ (m_v 5)))))))
abbrev fC:Stmt:=top 32
theorem kK:FnScope ["_law_cell_here","_law_many","_law_size","_law_left","_law_found","_law_k","_law_place"] ["_law_cell_here","_law_many","_law_size"] (aT fC):=⟨rfl,rfl,rfl,by decide +kernel,rfl,by decide +kernel,by decide +kernel⟩
def qN:FS :=
 (aP (aO 3 (qY (vE 1)))
 (aP (aO 4 (cN []))
 (aP (cB (cV (vE 2)) (.nm 5)
  (aP (aO 6 (cA (vE 0) (bX (vE 3))))
  (aP (aO 0 (jR (vE 0) (bX (vE 3))))
  (lR 4 3 (vE 6)))))
 (bM (dH [nK (vE 4),eM (cA (vE 0) (cH (bN (cE (.int 2)) (pW (cE (.int 10)) (cE (.int 9)))) (cE (.int 1)))) (pW (cE (.int 10)) (cE (.int 9)))])))))
def dZ:Φ:=cG 3 7 qN
theorem gU (B:Blt mg)  (F:bF K mg "_law_digit_term" fC ["_law_cell_here","_law_many","_law_size"]):aG Pg w K mg base (CXM Pg w) (k+1) "_law_digit_term" ["_law_cell_here","_law_many","_law_size"] (spM K (clK K) dZ):=by
 have nd:=kK.nd;refine cM F kK fun f cdv A outer s H E hr=>?_
 have hu:=hr.units
 exact(aH (bW (i:=3) nd rfl (Or.inl rfl) (aJ5 rfl rfl B.list_ rfl B.range_ (m_v 1)))
  (aH (bW (i:=4) nd rfl (Or.inl rfl) (fU aF))
  (aH (fW fV rfl (iZ rfl B.range_ (m_v 2)) (bS nd rfl (Or.inl rfl))
   (aH (bW (i:=6) nd rfl (Or.inl rfl) (eW (m_v 0) (jE rfl B.len_ (m_v 3))))
   (aH (bW (i:=0) nd rfl (Or.inl rfl) (sV (m_v 0) (jE rfl B.len_ (m_v 3))))
   (aQ (aCt (j:=4) (i:=3) rfl rfl (Or.inl rfl) (Or.inl rfl) (m_v 6))))))
  (aQ (cU (jH (aA (aBs rfl B.tuple_ (m_v 4)) (aA (kM (eW (m_v 0) (gP (dW aI (aGc aI aI)) aI)) (aGc aI aI)) aF))))))))
abbrev fT:Stmt:=top 33
theorem kW:FnScope ["_law_cells","_law_many","_law_size","_law_far","_law_terms","_law_cell_here","_law_number"] ["_law_cells","_law_many","_law_size","_law_far"] (aT fT):=⟨rfl,rfl,rfl,by decide +kernel,rfl,by decide +kernel,by decide +kernel⟩
def rV:FS :=
 (aP (aO 4 (cN []))
 (aP (cB (cW (vE 0)) (.nm 5)
  (ifS (bT (eqE (cA (vE 5) (cE (.int 2))) (cE (.int 1))))
   (mY 4 (aC dZ [jR (vE 5) (cE (.int 2)),vE 1,vE 2]))
   (aP (aO 6 (bD (cN [eM (cA (jR (vE 5) (cE (.int 8))) (cE (.int 7))) (cE (.int 3)),cA (jR (vE 5) (cE (.int 8))) (pW (cE (.int 10)) (cE (.int 9))),eM (cE (.int 0)) (cA (jR (vE 5) (cE (.int 8))) (pW (cE (.int 10)) (cE (.int 9))))]) (cA (cA (jR (vE 5) (cE (.int 2))) (cE (.int 4))) (cE (.int 3)))))
   (mY 4 (dH [aC gC [jR (vE 5) (cE (.int 2)),vE 3,vE 1,vE 2],vE 6])))))
 (bM (aC eU [vE 4]))))
def bV:Φ:=cG 4 7 rV
theorem eK (B:Blt mg)(gU:aG Pg w K mg base (CXM Pg w) k "_law_digit_term" ["_law_cell_here","_law_many","_law_size"] (spM K (clK K) dZ))(lM:aG Pg w K mg base (CXM Pg w) k "_law_chosen" ["_law_cell_here","_law_far","_law_many","_law_size"] (spM K (clK K) gC))(jM:aG Pg w K mg base (CXM Pg w) k "_law_gathered" ["_law_terms"] (spM K (clK K) eU))(F:bF K mg "_law_drawn_sum" fT ["_law_cells","_law_many","_law_size","_law_far"]):aG Pg w K mg base (CXM Pg w) (k+1) "_law_drawn_sum" ["_law_cells","_law_many","_law_size","_law_far"] (spM K (clK K) bV):=by
 have nd:=kW.nd;refine cM F kW fun f cdv A outer s H E hr=>?_
 have hu:=hr.units
 exact(aH (bW (i:=4) nd rfl (Or.inl rfl) (fU aF))
  (aH (fW fV rfl (fJ (m_v 0)) (bS nd rfl (Or.inl rfl))
   (aQ (iG (aFy hu (eW (m_v 5) aI) aI)
    (aQ (zG (i:=4) rfl (Or.inl rfl) (aS gU hr rfl cC (aA (sV (m_v 5) aI) (aA (m_v 1) (aA (m_v 2) aF))))))
    (aH (bW (i:=6) nd rfl (Or.inl rfl) (dN (fU (aA (kM (eW (sV (m_v 5) aI) aI) aI) (aA (eW (sV (m_v 5) aI) (aGc aI aI)) (aA (kM aI (eW (sV (m_v 5) aI) (aGc aI aI))) aF)))) (eW (eW (sV (m_v 5) aI) aI) aI)))
    (aQ (zG (i:=4) rfl (Or.inl rfl) (jH (aA (aS lM hr rfl cC (aA (sV (m_v 5) aI) (aA (m_v 3) (aA (m_v 1) (aA (m_v 2) aF))))) (aA (m_v 6) aF)))))))))
  (aQ (cU (aS jM hr rfl cC (aA (m_v 4) aF))))))
abbrev gT:Stmt:=top 34
theorem nJ:FnScope ["_law_script","_law_start","_law_many","_law_size","_law_found","_law_k","_law_number"] ["_law_script","_law_start","_law_many","_law_size"] (aT gT):=⟨rfl,rfl,rfl,by decide +kernel,rfl,by decide +kernel,by decide +kernel⟩
def vR:FS :=
 (aP (aO 4 (cN []))
 (aP (cB (zM (vE 1) (cH (vE 1) (vE 2))) (.nm 5)
  (aP (aO 6 (cH (bN (vE 5) (vE 5)) (bN (cE (.int 3)) (vE 5))))
  (aP (ifS (bT (ltE (vE 5) (bX (vE 0))))
   (aO 6 (bD (vE 0) (vE 5)))
   eC)
  (mY 4 (eM (cA (vE 6) (cH (bN (cE (.int 2)) (vE 3)) (cE (.int 1)))) (vE 3))))))
 (bM (vE 4))))
def aY:Φ:=cG 4 7 vR
theorem eI (B:Blt mg)  (F:bF K mg "_law_numbers" gT ["_law_script","_law_start","_law_many","_law_size"]):aG Pg w K mg base (CXM Pg w) (k+1) "_law_numbers" ["_law_script","_law_start","_law_many","_law_size"] (spM K (clK K) aY):=by
 have nd:=nJ.nd;refine cM F nJ fun f cdv A outer s H E hr=>?_
 have hu:=hr.units
 exact(aH (bW (i:=4) nd rfl (Or.inl rfl) (fU aF))
  (aH (fW fV rfl (aOc rfl B.range_ (m_v 1) (gP (m_v 1) (m_v 2))) (bS nd rfl (Or.inl rfl))
   (aH (bW (i:=6) nd rfl (Or.inl rfl) (gP (dW (m_v 5) (m_v 5)) (dW aI (m_v 5))))
   (aH (iG (aBz (m_v 5) (jE rfl B.len_ (m_v 0)))
    (aQ (bW (i:=6) nd rfl (Or.inl rfl) (dN (m_v 0) (m_v 5))))
    fF)
   (aQ (zG (i:=4) rfl (Or.inl rfl) (kM (eW (m_v 6) (gP (dW aI (m_v 3)) aI)) (m_v 3)))))))
  (aQ (cU (m_v 4)))))
abbrev eS:Stmt:=top 35
theorem jN:FnScope ["_law_many","_law_number"] ["_law_many","_law_number"] (aT eS):=⟨rfl,rfl,rfl,by decide +kernel,rfl,by decide +kernel,by decide +kernel⟩
def gK:FS :=
 (aP (ifS (bT (eqE (vE 1) (cE (.int 0))))
  (bM (cN []))
  eC)
 (bM (cN [dH [rJ (vE 0),vE 1]])))
def cI:Φ:=cG 2 2 gK
theorem gH (B:Blt mg)  (F:bF K mg "_law_whole_space" eS ["_law_many","_law_number"]):aG Pg w K mg base (CXM Pg w) (k+1) "_law_whole_space" ["_law_many","_law_number"] (spM K (clK K) cI):=by
 have nd:=jN.nd;refine cM F jN fun f cdv A outer s H E hr=>?_
 have hu:=hr.units
 exact(aH (iG (aFy hu (m_v 1) aI)
  (aQ (cU (fU aF)))
  fF)
  (aQ (cU (fU (aA (jH (aA (aMp rfl rfl B.tuple_ rfl B.range_ (m_v 0)) (aA (m_v 1) aF))) aF)))))
abbrev iQ:Stmt:=top 36
theorem nY:FnScope ["_law_size","_law_found","_law_number","_law_longer","_law_some","_law_sign","_law_k"] ["_law_size"] (aT iQ):=⟨rfl,rfl,rfl,by decide +kernel,rfl,by decide +kernel,by decide +kernel⟩
def xK:FS :=
 (aP (aO 1 (cN [dH [dH [],cE (.int 1)]]))
 (aP (cB (cV (vE 0)) (.nm 2)
  (aP (aO 3 (cN []))
  (aP (tQ 1 (cB (cW (vE 1)) (.tp [.nm 4,.nm 5])
   (cB (cV (cH (bX (vE 4)) (cE (.int 1)))) (.nm 6)
    (mY 3 (dH [kL (kL (nO (vE 4) (noO) (soO (vE 6))) (dH [vE 2])) (nO (vE 4) (soO (vE 6)) (noO)),bN (vE 5) (eM (cE (.int 1)) (bN (cE (.int 2)) (cA (eM (bX (vE 4)) (vE 6)) (cE (.int 2)))))])))))
  (tQ 3 (aO 1 (vE 3))))))
 (bM (vE 1))))
def fY:Φ:=cG 1 7 xK
theorem lK (B:Blt mg)  (F:bF K mg "_law_orders" iQ ["_law_size"]):aG Pg w K mg base (CXM Pg w) (k+1) "_law_orders" ["_law_size"] (spM K (clK K) fY):=by
 have nd:=nY.nd;refine cM F nY fun f cdv A outer s H E hr=>?_
 have hu:=hr.units
 exact(aH (bW (i:=1) nd rfl (Or.inl rfl) (fU (aA (jH (aA (jH aF) (aA aI aF))) aF)))
  (aH (fW fV rfl (iZ rfl B.range_ (m_v 0)) (bS nd rfl (Or.inl rfl))
   (aH (bW (i:=3) nd rfl (Or.inl rfl) (fU aF))
   (aH (aL5 (i:=1) (fW fV rfl (fJ (m_v 1)) (jD rfl (bC (bS nd rfl (Or.inl rfl)) (bC (bS nd rfl (Or.inl rfl)) dY)))
    (aQ (fW fV rfl (iZ rfl B.range_ (gP (jE rfl B.len_ (m_v 4)) aI)) (bS nd rfl (Or.inl rfl))
     (aQ (zG (i:=3) rfl (Or.inl rfl) (jH (aA (vX (vX (aJo (m_v 4) aB6 (nT (m_v 6))) (jH (aA (m_v 2) aF))) (aJo (m_v 4) (nT (m_v 6)) aB6)) (aA (dW (m_v 5) (kM aI (dW aI (eW (kM (jE rfl B.len_ (m_v 4)) (m_v 6)) aI)))) aF)))))))))
   (aQ (aL5 (i:=3) (bW (i:=1) nd rfl (Or.inl rfl) (m_v 3)))))))
  (aQ (cU (m_v 1)))))
abbrev jW:Stmt:=top 37
theorem pQ:FnScope ["_law_rows","_law_places","_law_total","_law_order","_law_sign","_law_number","_law_k"] ["_law_rows","_law_places"] (aT jW):=⟨rfl,rfl,rfl,by decide +kernel,rfl,by decide +kernel,by decide +kernel⟩
def aAi:FS :=
 (aP (aO 2 (cE (.int 0)))
 (aP (cB (cW (aC fY [bX (vE 1)])) (.tp [.nm 3,.nm 4])
  (aP (aO 5 (vE 4))
  (aP (cB (cV (bX (vE 1))) (.nm 6)
   (aO 5 (bN (vE 5) (bD (bD (vE 0) (vE 6)) (bD (vE 1) (bD (vE 3) (vE 6)))))))
  (aO 2 (cH (vE 2) (vE 5))))))
 (bM (vE 2))))
def fQ:Φ:=cG 2 7 aAi
theorem nA (B:Blt mg)(lK:aG Pg w K mg base (CXM Pg w) k "_law_orders" ["_law_size"] (spM K (clK K) fY))(F:bF K mg "_law_minor" jW ["_law_rows","_law_places"]):aG Pg w K mg base (CXM Pg w) (k+1) "_law_minor" ["_law_rows","_law_places"] (spM K (clK K) fQ):=by
 have nd:=pQ.nd;refine cM F pQ fun f cdv A outer s H E hr=>?_
 have hu:=hr.units
 exact(aH (bW (i:=2) nd rfl (Or.inl rfl) aI)
  (aH (fW fV rfl (fJ (aS lK hr rfl cC (aA (jE rfl B.len_ (m_v 1)) aF))) (jD rfl (bC (bS nd rfl (Or.inl rfl)) (bC (bS nd rfl (Or.inl rfl)) dY)))
   (aH (bW (i:=5) nd rfl (Or.inl rfl) (m_v 4))
   (aH (fW fV rfl (iZ rfl B.range_ (jE rfl B.len_ (m_v 1))) (bS nd rfl (Or.inl rfl))
    (aQ (bW (i:=5) nd rfl (Or.inl rfl) (dW (m_v 5) (dN (dN (m_v 0) (m_v 6)) (dN (m_v 1) (dN (m_v 3) (m_v 6))))))))
   (aQ (bW (i:=2) nd rfl (Or.inl rfl) (gP (m_v 2) (m_v 5)))))))
  (aQ (cU (m_v 2)))))
abbrev kZ:Stmt:=top 38
theorem rS:FnScope ["_law_row","_law_some","_law_size"] ["_law_row","_law_some","_law_size"] (aT kZ):=⟨rfl,rfl,rfl,by decide +kernel,rfl,by decide +kernel,by decide +kernel⟩
def oJ:FS :=
 (aP (ifS (bT (eqE (vE 2) (cE (.int 0))))
  (bM (cN []))
  eC)
 (bM (aC bQ [vE 0,vE 1])))
def cK:Φ:=cG 3 3 oJ
theorem jC (B:Blt mg)(fM:aG Pg w K mg base (CXM Pg w) k "hooked" ["row","some"] (spM K (clK K) bQ))(F:bF K mg "_law_hook" kZ ["_law_row","_law_some","_law_size"]):aG Pg w K mg base (CXM Pg w) (k+1) "_law_hook" ["_law_row","_law_some","_law_size"] (spM K (clK K) cK):=by
 have nd:=rS.nd;refine cM F rS fun f cdv A outer s H E hr=>?_
 have hu:=hr.units
 exact(aH (iG (aFy hu (m_v 2) aI)
  (aQ (cU (fU aF)))
  fF)
  (aQ (cU (aS fM hr rfl cC (aA (m_v 0) (aA (m_v 1) aF))))))
abbrev fB:Stmt:=top 39
theorem kB:FnScope ["_law_rows","_law_one","_law_other","_law_sizes","_law_sign","_law_left","_law_right","_law_once"] ["_law_rows","_law_one","_law_other","_law_sizes"] (aT fB):=⟨rfl,rfl,rfl,by decide +kernel,rfl,by decide +kernel,by decide +kernel⟩
def hJ:FS :=
 (aP (aO 4 (eM (cE (.int 1)) (bN (cE (.int 2)) (cA (bD (vE 3) (cE (.int 0))) (cE (.int 2))))))
 (aP (aO 5 (aC bJ [aC cK [bD (vE 0) (cE (.int 0)),vE 1,bD (vE 3) (cE (.int 0))],vE 2]))
 (aP (aO 6 (aC bJ [vE 1,aC cK [bD (vE 0) (cE (.int 0)),vE 2,bD (vE 3) (cE (.int 1))]]))
 (aP (ifS (bT (neE (aC cK [bD (vE 0) (cE (.int 0)),aC bJ [vE 1,vE 2],cH (bD (vE 3) (cE (.int 0))) (bD (vE 3) (cE (.int 1)))]) (aC mU [vE 5,aC dU [vE 6,vE 4]])))
  (bM (cE (.bl false)))
  eC)
 (aP (aO 7 (aC bQ [bD (vE 0) (cE (.int 0)),vE 1]))
 (aP (ifS (bT (ltE (bD (vE 3) (cE (.int 0))) (cE (.int 2))))
  (bM (cE (.bl true)))
  eC)
 (aP (ifS (bT (neE (aC bQ [bD (vE 0) (cE (.int 0)),vE 7]) (cN [])))
  (bM (cE (.bl false)))
  eC)
 (bM (eqE (aC bQ [bD (vE 0) (cE (.int 1)),vE 7]) (aC dU [aC bQ [bD (vE 0) (cE (.int 0)),aC bQ [bD (vE 0) (cE (.int 1)),vE 1]],eM (cE (.int 0)) (cE (.int 1))]))))))))))
def cO:Φ:=cG 4 8 hJ
theorem gY (B:Blt mg)(eL:aG Pg w K mg base (CXM Pg w) k "product" ["one","other"] (spM K (clK K) bJ))(jC:aG Pg w K mg base (CXM Pg w) k "_law_hook" ["_law_row","_law_some","_law_size"] (spM K (clK K) cK))(zZ:aG Pg w K mg base (CXM Pg w) k "added" ["one","other"] (spM K (clK K) mU))(kU:aG Pg w K mg base (CXM Pg w) k "taken" ["some","many"] (spM K (clK K) dU))(fM:aG Pg w K mg base (CXM Pg w) k "hooked" ["row","some"] (spM K (clK K) bQ))(F:bF K mg "_law_hooks_good" fB ["_law_rows","_law_one","_law_other","_law_sizes"]):aG Pg w K mg base (CXM Pg w) (k+1) "_law_hooks_good" ["_law_rows","_law_one","_law_other","_law_sizes"] (spM K (clK K) cO):=by
 have nd:=kB.nd;refine cM F kB fun f cdv A outer s H E hr=>?_
 have hu:=hr.units
 exact(aH (bW (i:=4) nd rfl (Or.inl rfl) (kM aI (dW aI (eW (dN (m_v 3) aI) aI))))
  (aH (bW (i:=5) nd rfl (Or.inl rfl) (aS eL hr rfl cC (aA (aS jC hr rfl cC (aA (dN (m_v 0) aI) (aA (m_v 1) (aA (dN (m_v 3) aI) aF)))) (aA (m_v 2) aF))))
  (aH (bW (i:=6) nd rfl (Or.inl rfl) (aS eL hr rfl cC (aA (m_v 1) (aA (aS jC hr rfl cC (aA (dN (m_v 0) aI) (aA (m_v 2) (aA (dN (m_v 3) aI) aF)))) aF))))
  (aH (iG (sW hu (aS jC hr rfl cC (aA (dN (m_v 0) aI) (aA (aS eL hr rfl cC (aA (m_v 1) (aA (m_v 2) aF))) (aA (gP (dN (m_v 3) aI) (dN (m_v 3) aI)) aF)))) (aS zZ hr rfl cC (aA (m_v 5) (aA (aS kU hr rfl cC (aA (m_v 6) (aA (m_v 4) aF))) aF))))
   (aQ (cU aIb))
   fF)
  (aH (bW (i:=7) nd rfl (Or.inl rfl) (aS fM hr rfl cC (aA (dN (m_v 0) aI) (aA (m_v 1) aF))))
  (aH (iG (aBz (dN (m_v 3) aI) aI)
   (aQ (cU aIb))
   fF)
  (aH (iG (sW hu (aS fM hr rfl cC (aA (dN (m_v 0) aI) (aA (m_v 7) aF))) (fU aF))
   (aQ (cU aIb))
   fF)
  (aQ (cU (aTe hu (aS fM hr rfl cC (aA (dN (m_v 0) aI) (aA (m_v 7) aF))) (aS kU hr rfl cC (aA (aS fM hr rfl cC (aA (dN (m_v 0) aI) (aA (aS fM hr rfl cC (aA (dN (m_v 0) aI) (aA (m_v 1) aF))) aF))) (aA (kM aI aI) aF)))))))))))))
abbrev eZ:Stmt:=top 40
theorem kN:FnScope ["_law_many","_law_one","_law_other","_law_size","_law_sign","_law_weight"] ["_law_many","_law_one","_law_other","_law_size"] (aT eZ):=⟨rfl,rfl,rfl,by decide +kernel,rfl,by decide +kernel,by decide +kernel⟩
def gZ:FS :=
 (aP (aO 4 (eM (cE (.int 1)) (bN (cE (.int 2)) (cA (bN (vE 3) (eM (vE 0) (vE 3))) (cE (.int 2))))))
 (aP (ifS (bT (neE (aC aX [vE 0,aC aX [vE 0,vE 1]]) (aC dU [vE 1,vE 4])))
  (bM (cE (.bl false)))
  eC)
 (aP (aO 5 (aC cP [vE 1,vE 2]))
 (bM (eqE (aC bJ [vE 1,aC aX [vE 0,vE 2]]) (aC cI [vE 0,vE 5]))))))
def cQ:Φ:=cG 4 6 gZ
theorem iA (B:Blt mg)(dM:aG Pg w K mg base (CXM Pg w) k "turned_over" ["many","some"] (spM K (clK K) aX))(kU:aG Pg w K mg base (CXM Pg w) k "taken" ["some","many"] (spM K (clK K) dU))(fI:aG Pg w K mg base (CXM Pg w) k "weighed_sums" ["one","other"] (spM K (clK K) cP))(eL:aG Pg w K mg base (CXM Pg w) k "product" ["one","other"] (spM K (clK K) bJ))(gH:aG Pg w K mg base (CXM Pg w) k "_law_whole_space" ["_law_many","_law_number"] (spM K (clK K) cI))(F:bF K mg "_law_turns_good" eZ ["_law_many","_law_one","_law_other","_law_size"]):aG Pg w K mg base (CXM Pg w) (k+1) "_law_turns_good" ["_law_many","_law_one","_law_other","_law_size"] (spM K (clK K) cQ):=by
 have nd:=kN.nd;refine cM F kN fun f cdv A outer s H E hr=>?_
 have hu:=hr.units
 exact(aH (bW (i:=4) nd rfl (Or.inl rfl) (kM aI (dW aI (eW (dW (m_v 3) (kM (m_v 0) (m_v 3))) aI))))
  (aH (iG (sW hu (aS dM hr rfl cC (aA (m_v 0) (aA (aS dM hr rfl cC (aA (m_v 0) (aA (m_v 1) aF))) aF))) (aS kU hr rfl cC (aA (m_v 1) (aA (m_v 4) aF))))
   (aQ (cU aIb))
   fF)
  (aH (bW (i:=5) nd rfl (Or.inl rfl) (aS fI hr rfl cC (aA (m_v 1) (aA (m_v 2) aF))))
  (aQ (cU (aTe hu (aS eL hr rfl cC (aA (m_v 1) (aA (aS dM hr rfl cC (aA (m_v 0) (aA (m_v 2) aF))) aF))) (aS gH hr rfl cC (aA (m_v 0) (aA (m_v 5) aF)))))))))
abbrev fS:Stmt:=top 41
theorem kR:FnScope ["_law_many","_law_left","_law_right","_law_table"] ["_law_many","_law_left","_law_right"] (aT fS):=⟨rfl,rfl,rfl,by decide +kernel,rfl,by decide +kernel,by decide +kernel⟩
def iN:FS :=
 (aP (aO 3 (bR (cW (vE 1)) 1 [2] (.nm 0) (bE (bR (cW (vE 1)) 1 [0] (.nm 0) (bE (aC gQ [vE 1,vE 0]))))))
 (bM (eqE (aC cP [aC eJ [vE 0,vE 1],aC eJ [vE 0,vE 2]]) (aC fQ [vE 3,rJ (bX (vE 1))]))))
def dO:Φ:=cG 3 4 iN
theorem iJ (B:Blt mg)(rZ:aG Pg w K mg base (CXM Pg w) k "weighed" ["one","other"] (spM K (clK K) gQ))(fI:aG Pg w K mg base (CXM Pg w) k "weighed_sums" ["one","other"] (spM K (clK K) cP))(mJ:aG Pg w K mg base (CXM Pg w) k "box_of" ["many","rows"] (spM K (clK K) eJ))(nA:aG Pg w K mg base (CXM Pg w) k "_law_minor" ["_law_rows","_law_places"] (spM K (clK K) fQ))(F:bF K mg "_law_rows_good" fS ["_law_many","_law_left","_law_right"]):aG Pg w K mg base (CXM Pg w) (k+1) "_law_rows_good" ["_law_many","_law_left","_law_right"] (spM K (clK K) dO):=by
 have nd:=kR.nd;refine cM F kR fun f cdv A outer s H E hr=>?_
 have hu:=hr.units
 exact(aH (aD0 (i:=3) rfl nd rfl rfl (cR (XN:=["_law_many","_law_left","_law_right","_law_table"]) (N:=["_law_one","_law_right"]) (k:=1) (fs:=[2]) rfl rfl rfl (by decide +kernel)) (fJ (m_v 1)) (fun _ _ _=>(bS (show (["_law_one","_law_right"]:List Str).Nodup by decide +kernel) rfl (Or.inr rfl))) (pZ rfl) (fun _ _ _=>lC (lF rfl (aH8 (N:=["_law_other","_law_one"]) (k:=1) (fs:=[0]) (cR (XN:=["_law_many","_law_left","_law_right","_law_table"]) (N:=["_law_one","_law_right"]) (k:=1) (fs:=[2]) rfl rfl rfl (by decide +kernel)) (by decide +kernel)) (fJ (m_v 1)) (fun _ _ _=>(bS (show (["_law_other","_law_one"]:List Str).Nodup by decide +kernel) rfl (Or.inl rfl))) (pZ rfl) (fun _ _ _=>lC (aS rZ hr rfl aSq (aA (m_v 1) (aA (m_v 0) aF)))))))
  (aQ (cU (aTe hu (aS fI hr rfl cC (aA (aS mJ hr rfl cC (aA (m_v 0) (aA (m_v 1) aF))) (aA (aS mJ hr rfl cC (aA (m_v 0) (aA (m_v 2) aF))) aF))) (aS nA hr rfl cC (aA (m_v 3) (aA (aMp rfl rfl B.tuple_ rfl B.range_ (jE rfl B.len_ (m_v 1))) aF)))))))
abbrev xF:Stmt:=top 42
theorem aJg:FnScope ["_law_script","_law_many","_law_sizes","_law_one","_law_other","_law_like","_law_rows","_law_near","_law_count","_law_left","_law_right"] ["_law_script"] (aT xF):=⟨rfl,rfl,rfl,by decide +kernel,rfl,by decide +kernel,by decide +kernel⟩
def aQt:FS :=
 (aP (aO 1 (cH (cE (.int 1)) (cA (aC bY [vE 0,cE (.int 0)]) (cE (.int 5)))))
 (aP (aO 2 (cN [cH (cE (.int 1)) (cA (aC bY [vE 0,cE (.int 1)]) (vE 1)),cA (aC bY [vE 0,cE (.int 2)]) (cH (vE 1) (cE (.int 1)))]))
 (aP (aO 3 (aC bV [pG (tP (vE 0) (soO (cE (.int 3))) (soO (cE (.int 13)))) (cN [cE (.int 5)]),vE 1,bD (vE 2) (cE (.int 0)),cE (.int 3)]))
 (aP (aO 4 (aC bV [pG (tP (vE 0) (soO (cE (.int 13))) (soO (cE (.int 23)))) (cN [cE (.int 6)]),vE 1,bD (vE 2) (cE (.int 1)),cE (.int 13)]))
 (aP (aO 5 (aC bV [pG (tP (vE 0) (soO (cE (.int 23))) (soO (cE (.int 33)))) (cN [cE (.int 9)]),vE 1,bD (vE 2) (cE (.int 0)),cE (.int 23)]))
 (aP (aO 6 (cN [aC aY [vE 0,cE (.int 3),vE 1,cE (.int 9)],aC aY [vE 0,cH (cE (.int 3)) (vE 1),vE 1,cE (.int 9)]]))
 (aP (ifS (orT (aAj (bT (aC cO [vE 6,vE 3,vE 4,vE 2]))) (aAj (bT (aC cQ [vE 1,vE 3,vE 5,bD (vE 2) (cE (.int 0))]))))
  (bM (cE (.bl false)))
  eC)
 (aP (aO 7 (aC bJ [aC aX [vE 1,vE 3],aC eJ [vE 1,cN [bD (vE 6) (cE (.int 0))]]]))
 (aP (ifS (bT (neE (aC aX [vE 1,aC bQ [bD (vE 6) (cE (.int 0)),vE 3]]) (aC dU [vE 7,eM (cE (.int 1)) (bN (cE (.int 2)) (cA (eM (vE 1) (cE (.int 1))) (cE (.int 2))))])))
  (bM (cE (.bl false)))
  eC)
 (aP (aO 8 (cA (jR (aC bY [vE 0,cE (.int 2)]) (cE (.int 6))) (cE (.int 4))))
 (aP (aO 9 (bR (cV (vE 8)) 1 [0,1] (.nm 0) (bE (aC aY [vE 1,cH (cE (.int 3)) (bN (vE 2) (vE 0)),vE 2,cE (.int 9)]))))
 (aP (aO 10 (bR (cV (vE 8)) 1 [0,1] (.nm 0) (bE (aC aY [vE 1,cH (cE (.int 30)) (bN (vE 2) (vE 0)),vE 2,cE (.int 9)]))))
 (bM (aC dO [vE 1,vE 9,vE 10]))))))))))))))
def zE:Φ:=cG 1 11 aQt
theorem aUq (B:Blt mg)(gO:aG Pg w K mg base (CXM Pg w) k "_law_cell" ["_law_script","_law_k"] (spM K (clK K) bY))(eK:aG Pg w K mg base (CXM Pg w) k "_law_drawn_sum" ["_law_cells","_law_many","_law_size","_law_far"] (spM K (clK K) bV))(eI:aG Pg w K mg base (CXM Pg w) k "_law_numbers" ["_law_script","_law_start","_law_many","_law_size"] (spM K (clK K) aY))(iA:aG Pg w K mg base (CXM Pg w) k "_law_turns_good" ["_law_many","_law_one","_law_other","_law_size"] (spM K (clK K) cQ))(gY:aG Pg w K mg base (CXM Pg w) k "_law_hooks_good" ["_law_rows","_law_one","_law_other","_law_sizes"] (spM K (clK K) cO))(eL:aG Pg w K mg base (CXM Pg w) k "product" ["one","other"] (spM K (clK K) bJ))(dM:aG Pg w K mg base (CXM Pg w) k "turned_over" ["many","some"] (spM K (clK K) aX))(mJ:aG Pg w K mg base (CXM Pg w) k "box_of" ["many","rows"] (spM K (clK K) eJ))(fM:aG Pg w K mg base (CXM Pg w) k "hooked" ["row","some"] (spM K (clK K) bQ))(kU:aG Pg w K mg base (CXM Pg w) k "taken" ["some","many"] (spM K (clK K) dU))(iJ:aG Pg w K mg base (CXM Pg w) k "_law_rows_good" ["_law_many","_law_left","_law_right"] (spM K (clK K) dO)){fa:Addr}{fd:FuncData}(F:Fun K "law" "law" xF fa fd):FnOk Pg w K mg base (CXM Pg w) (k+1) fa fd ["_law_script"] (spM K (clK K) zE):=by
 have nd:=aJg.nd;refine aQx F aJg fun f cdv A outer s H E hr=>?_
 have hu:=hr.units
 exact(aH (bW (i:=1) nd rfl (Or.inr rfl) (gP aI (eW (aS gO hr rfl cC (aA (m_v 0) (aA aI aF))) aI)))
  (aH (bW (i:=2) nd rfl (Or.inl rfl) (fU (aA (gP aI (eW (aS gO hr rfl cC (aA (m_v 0) (aA aI aF))) (m_v 1))) (aA (eW (aS gO hr rfl cC (aA (m_v 0) (aA aI aF))) (gP (m_v 1) aI)) aF))))
  (aH (bW (i:=3) nd rfl (Or.inl rfl) (aS eK hr rfl cC (aA (aGl (aK2 (m_v 0) (nT aI) (nT aI)) (fU (aA aI aF))) (aA (m_v 1) (aA (dN (m_v 2) aI) (aA aI aF))))))
  (aH (bW (i:=4) nd rfl (Or.inl rfl) (aS eK hr rfl cC (aA (aGl (aK2 (m_v 0) (nT aI) (nT aI)) (fU (aA aI aF))) (aA (m_v 1) (aA (dN (m_v 2) aI) (aA aI aF))))))
  (aH (bW (i:=5) nd rfl (Or.inl rfl) (aS eK hr rfl cC (aA (aGl (aK2 (m_v 0) (nT aI) (nT aI)) (fU (aA aI aF))) (aA (m_v 1) (aA (dN (m_v 2) aI) (aA aI aF))))))
  (aH (bW (i:=6) nd rfl (Or.inl rfl) (fU (aA (aS eI hr rfl cC (aA (m_v 0) (aA aI (aA (m_v 1) (aA aI aF))))) (aA (aS eI hr rfl cC (aA (m_v 0) (aA (gP aI (m_v 1)) (aA (m_v 1) (aA aI aF))))) aF))))
  (aH (iG (PW.pt (aQs (aK4 (aDq (aS gY hr rfl cC (aA (m_v 6) (aA (m_v 3) (aA (m_v 4) (aA (m_v 2) aF))))))) (aKq (aK4 (aDq (aS iA hr rfl cC (aA (m_v 1) (aA (m_v 3) (aA (m_v 5) (aA (dN (m_v 2) aI) aF))))))))))
   (aQ (cU aIb))
   fF)
  (aH (bW (i:=7) nd rfl (Or.inl rfl) (aS eL hr rfl cC (aA (aS dM hr rfl cC (aA (m_v 1) (aA (m_v 3) aF))) (aA (aS mJ hr rfl cC (aA (m_v 1) (aA (fU (aA (dN (m_v 6) aI) aF)) aF))) aF))))
  (aH (iG (sW hu (aS dM hr rfl cC (aA (m_v 1) (aA (aS fM hr rfl cC (aA (dN (m_v 6) aI) (aA (m_v 3) aF))) aF))) (aS kU hr rfl cC (aA (m_v 7) (aA (kM aI (dW aI (eW (kM (m_v 1) aI) aI))) aF))))
   (aQ (cU aIb))
   fF)
  (aH (bW (i:=8) nd rfl (Or.inl rfl) (eW (sV (aS gO hr rfl cC (aA (m_v 0) (aA aI aF))) aI) aI))
  (aH (aD0 (i:=9) rfl nd rfl rfl (cR (XN:=["_law_script","_law_many","_law_sizes","_law_one","_law_other","_law_like","_law_rows","_law_near","_law_count","_law_left","_law_right"]) (N:=["_law_k","_law_script","_law_many"]) (k:=1) (fs:=[0,1]) rfl rfl rfl (by decide +kernel)) (iZ rfl B.range_ (m_v 8)) (fun _ _ _=>(bS (show (["_law_k","_law_script","_law_many"]:List Str).Nodup by decide +kernel) rfl (Or.inl rfl))) (pZ rfl) (fun _ _ _=>lC (aS eI hr rfl aSq (aA (m_v 1) (aA (gP aI (dW (m_v 2) (m_v 0))) (aA (m_v 2) (aA aI aF)))))))
  (aH (aD0 (i:=10) rfl nd rfl rfl (cR (XN:=["_law_script","_law_many","_law_sizes","_law_one","_law_other","_law_like","_law_rows","_law_near","_law_count","_law_left","_law_right"]) (N:=["_law_k","_law_script","_law_many"]) (k:=1) (fs:=[0,1]) rfl rfl rfl (by decide +kernel)) (iZ rfl B.range_ (m_v 8)) (fun _ _ _=>(bS (show (["_law_k","_law_script","_law_many"]:List Str).Nodup by decide +kernel) rfl (Or.inl rfl))) (pZ rfl) (fun _ _ _=>lC (aS eI hr rfl aSq (aA (m_v 1) (aA (gP aI (dW (m_v 2) (m_v 0))) (aA (m_v 2) (aA aI aF)))))))
  (aQ (cU (aS iJ hr rfl cC (aA (m_v 1) (aA (m_v 9) (aA (m_v 10) aF))))))))))))))))))
end
theorem all_mk {l:PySem.W.OpenLaw}{w:World}{K:PySem.W.Frag}{h:Heap}{mg:Str->Option Value}{fa:Addr}(X:K.In h)(G:h.Ns mainGlobals mg)(hfa:mg "law" = some (.ref fa))
 {f0:Addr} {oc0 kV0 dc0 pm0 cd0 ct0:Value} {od0 an0:Option Addr} {sl0:Array (Option Value)} (a0:At K "check_alike" iT f0 oc0 kV0 dc0 pm0 cd0 ct0 od0 an0 sl0)
 {f1:Addr} {oc1 kV1 dc1 pm1 cd1 ct1:Value} {od1 an1:Option Addr} {sl1:Array (Option Value)} (a1:At K "pairs" uG f1 oc1 kV1 dc1 pm1 cd1 ct1 od1 an1 sl1)
 {f2:Addr} {oc2 kV2 dc2 pm2 cd2 ct2:Value} {od2 an2:Option Addr} {sl2:Array (Option Value)} (a2:At K "check_count" iX f2 oc2 kV2 dc2 pm2 cd2 ct2 od2 an2 sl2)
 {f3:Addr} {oc3 kV3 dc3 pm3 cd3 ct3:Value} {od3 an3:Option Addr} {sl3:Array (Option Value)} (a3:At K "check_rows" jU f3 oc3 kV3 dc3 pm3 cd3 ct3 od3 an3 sl3)
 {f4:Addr} {oc4 kV4 dc4 pm4 cd4 ct4:Value} {od4 an4:Option Addr} {sl4:Array (Option Value)} (a4:At K "turn_of" oU f4 oc4 kV4 dc4 pm4 cd4 ct4 od4 an4 sl4)
 {f5:Addr} {oc5 kV5 dc5 pm5 cd5 ct5:Value} {od5 an5:Option Addr} {sl5:Array (Option Value)} (a5:At K "summed" rA f5 oc5 kV5 dc5 pm5 cd5 ct5 od5 an5 sl5)
 {f6:Addr} {oc6 kV6 dc6 pm6 cd6 ct6:Value} {od6 an6:Option Addr} {sl6:Array (Option Value)} (a6:At K "added" tX f6 oc6 kV6 dc6 pm6 cd6 ct6 od6 an6 sl6)
 {f7:Addr} {oc7 kV7 dc7 pm7 cd7 ct7:Value} {od7 an7:Option Addr} {sl7:Array (Option Value)} (a7:At K "taken" uN f7 oc7 kV7 dc7 pm7 cd7 ct7 od7 an7 sl7)
 {f8:Addr} {oc8 kV8 dc8 pm8 cd8 ct8:Value} {od8 an8:Option Addr} {sl8:Array (Option Value)} (a8:At K "product" oO f8 oc8 kV8 dc8 pm8 cd8 ct8 od8 an8 sl8)
 {f9:Addr} {oc9 kV9 dc9 pm9 cd9 ct9:Value} {od9 an9:Option Addr} {sl9:Array (Option Value)} (a9:At K "box_of" qD f9 oc9 kV9 dc9 pm9 cd9 ct9 od9 an9 sl9)
 {f10:Addr} {oc10 kV10 dc10 pm10 cd10 ct10:Value} {od10 an10:Option Addr} {sl10:Array (Option Value)} (a10:At K "check_reach" jB f10 oc10 kV10 dc10 pm10 cd10 ct10 od10 an10 sl10)
 {f11:Addr} {oc11 kV11 dc11 pm11 cd11 ct11:Value} {od11 an11:Option Addr} {sl11:Array (Option Value)} (a11:At K "hooked" rL f11 oc11 kV11 dc11 pm11 cd11 ct11 od11 an11 sl11)
 {f12:Addr} {oc12 kV12 dc12 pm12 cd12 ct12:Value} {od12 an12:Option Addr} {sl12:Array (Option Value)} (a12:At K "lacking" oY f12 oc12 kV12 dc12 pm12 cd12 ct12 od12 an12 sl12)
 {f13:Addr} {oc13 kV13 dc13 pm13 cd13 ct13:Value} {od13 an13:Option Addr} {sl13:Array (Option Value)} (a13:At K "turned_over" iW f13 oc13 kV13 dc13 pm13 cd13 ct13 od13 an13 sl13)
 {f14:Addr} {oc14 kV14 dc14 pm14 cd14 ct14:Value} {od14 an14:Option Addr} {sl14:Array (Option Value)} (a14:At K "weighed_sums" gR f14 oc14 kV14 dc14 pm14 cd14 ct14 od14 an14 sl14)
 {f15:Addr} {oc15 kV15 dc15 pm15 cd15 ct15:Value} {od15 an15:Option Addr} {sl15:Array (Option Value)} (a15:At K "weighed" oS f15 oc15 kV15 dc15 pm15 cd15 ct15 od15 an15 sl15)
 {f16:Addr} {oc16 kV16 dc16 pm16 cd16 ct16:Value} {od16 an16:Option Addr} {sl16:Array (Option Value)} (a16:At K "_law_cell" lA f16 oc16 kV16 dc16 pm16 cd16 ct16 od16 an16 sl16)
 {f17:Addr} {oc17 kV17 dc17 pm17 cd17 ct17:Value} {od17 an17:Option Addr} {sl17:Array (Option Value)} (a17:At K "_law_thing" jQ f17 oc17 kV17 dc17 pm17 cd17 ct17 od17 an17 sl17)
 {f18:Addr} {oc18 kV18 dc18 pm18 cd18 ct18:Value} {od18 an18:Option Addr} {sl18:Array (Option Value)} (a18:At K "_law_gathered" gF f18 oc18 kV18 dc18 pm18 cd18 ct18 od18 an18 sl18)
 {f19:Addr} {oc19 kV19 dc19 pm19 cd19 ct19:Value} {od19 an19:Option Addr} {sl19:Array (Option Value)} (a19:At K "_law_chosen" jA f19 oc19 kV19 dc19 pm19 cd19 ct19 od19 an19 sl19)
 {f20:Addr} {oc20 kV20 dc20 pm20 cd20 ct20:Value} {od20 an20:Option Addr} {sl20:Array (Option Value)} (a20:At K "_law_digit_term" fC f20 oc20 kV20 dc20 pm20 cd20 ct20 od20 an20 sl20)
 {f21:Addr} {oc21 kV21 dc21 pm21 cd21 ct21:Value} {od21 an21:Option Addr} {sl21:Array (Option Value)} (a21:At K "_law_drawn_sum" fT f21 oc21 kV21 dc21 pm21 cd21 ct21 od21 an21 sl21)
 {f22:Addr} {oc22 kV22 dc22 pm22 cd22 ct22:Value} {od22 an22:Option Addr} {sl22:Array (Option Value)} (a22:At K "_law_numbers" gT f22 oc22 kV22 dc22 pm22 cd22 ct22 od22 an22 sl22)
 {f23:Addr} {oc23 kV23 dc23 pm23 cd23 ct23:Value} {od23 an23:Option Addr} {sl23:Array (Option Value)} (a23:At K "_law_whole_space" eS f23 oc23 kV23 dc23 pm23 cd23 ct23 od23 an23 sl23)
 {f24:Addr} {oc24 kV24 dc24 pm24 cd24 ct24:Value} {od24 an24:Option Addr} {sl24:Array (Option Value)} (a24:At K "_law_orders" iQ f24 oc24 kV24 dc24 pm24 cd24 ct24 od24 an24 sl24)
 {f25:Addr} {oc25 kV25 dc25 pm25 cd25 ct25:Value} {od25 an25:Option Addr} {sl25:Array (Option Value)} (a25:At K "_law_minor" jW f25 oc25 kV25 dc25 pm25 cd25 ct25 od25 an25 sl25)
 {f26:Addr} {oc26 kV26 dc26 pm26 cd26 ct26:Value} {od26 an26:Option Addr} {sl26:Array (Option Value)} (a26:At K "_law_hook" kZ f26 oc26 kV26 dc26 pm26 cd26 ct26 od26 an26 sl26)
 {f27:Addr} {oc27 kV27 dc27 pm27 cd27 ct27:Value} {od27 an27:Option Addr} {sl27:Array (Option Value)} (a27:At K "_law_hooks_good" fB f27 oc27 kV27 dc27 pm27 cd27 ct27 od27 an27 sl27)
 {f28:Addr} {oc28 kV28 dc28 pm28 cd28 ct28:Value} {od28 an28:Option Addr} {sl28:Array (Option Value)} (a28:At K "_law_turns_good" eZ f28 oc28 kV28 dc28 pm28 cd28 ct28 od28 an28 sl28)
 {f29:Addr} {oc29 kV29 dc29 pm29 cd29 ct29:Value} {od29 an29:Option Addr} {sl29:Array (Option Value)} (a29:At K "_law_rows_good" fS f29 oc29 kV29 dc29 pm29 cd29 ct29 od29 an29 sl29)
 {f30:Addr} {oc30 kV30 dc30 pm30 cd30 ct30:Value} {od30 an30:Option Addr} {sl30:Array (Option Value)} (a30:At K "law" xF f30 oc30 kV30 dc30 pm30 cd30 ct30 od30 an30 sl30)
 (z_len:Ch K mainGlobals "len" = some none)
 (z_list:Ch K mainGlobals "list" = some none)
 (z_zip:Ch K mainGlobals "zip" = some none)
 (z_enumerate:Ch K mainGlobals "enumerate" = some none)
 (z_set:Ch K mainGlobals "set" = some none)
 (z_sorted:Ch K mainGlobals "sorted" = some none)
 (z_tuple:Ch K mainGlobals "tuple" = some none)
 (z_any:Ch K mainGlobals "any" = some none)
 (z_range:Ch K mainGlobals "range" = some none)
 (z_dict:Ch K mainGlobals "dict" = some none)
 (z_sum:Ch K mainGlobals "sum" = some none)
 {t_MOST_WAYS:Tok} (g_MOST_WAYS:Ch K mainGlobals "MOST_WAYS" = some (some (.int 5 t_MOST_WAYS)))
:∃ fd:FuncData,(∀ (s:Shared) (v:Value),BindsTo s fd ⟨[v],[]⟩ [("_law_script",v)])/\∀ base:Heap,K.In base->base.Ns mainGlobals mg->FnOk l.prog w K mg base (CXM l.prog w) 6 fa fd ["_law_script"] (spM K (clK K) zE):=by
 have B:Blt mg:=⟨Cd X G z_len,Cd X G z_list,Cd X G z_zip,Cd X G z_enumerate,Cd X G z_set,Cd X G z_sorted,Cd X G z_tuple,Cd X G z_any,Cd X G z_range,Cd X G z_dict,Cd X G z_sum,⟨_,Hc X G g_MOST_WAYS⟩⟩;have yE:bF K mg "check_alike" iT ["one","other"]:=bG X G a0.ns a0.lk a0.cd a0.kp fun _ _ _ _ _ _ us hl=>match us,hl with | [_,_],_=>rfl
 have aA8:bF K mg "pairs" uG ["one","other"]:=bG X G a1.ns a1.lk a1.cd a1.kp fun _ _ _ _ _ _ us hl=>match us,hl with | [_,_],_=>rfl
 have xR:bF K mg "check_count" iX ["many"]:=bG X G a2.ns a2.lk a2.cd a2.kp fun _ _ _ _ _ _ us hl=>match us,hl with | [_],_=>rfl
 have aA2:bF K mg "check_rows" jU ["many","rows"]:=bG X G a3.ns a3.lk a3.cd a3.kp fun _ _ _ _ _ _ us hl=>match us,hl with | [_,_],_=>rfl
 have aHh:bF K mg "turn_of" oU ["places"]:=bG X G a4.ns a4.lk a4.cd a4.kp fun _ _ _ _ _ _ us hl=>match us,hl with | [_],_=>rfl
 have rK:bF K mg "summed" rA ["terms"]:=bG X G a5.ns a5.lk a5.cd a5.kp fun _ _ _ _ _ _ us hl=>match us,hl with | [_],_=>rfl
 have aQb:bF K mg "added" tX ["one","other"]:=bG X G a6.ns a6.lk a6.cd a6.kp fun _ _ _ _ _ _ us hl=>match us,hl with | [_,_],_=>rfl
 have aPm:bF K mg "taken" uN ["some","many"]:=bG X G a7.ns a7.lk a7.cd a7.kp fun _ _ _ _ _ _ us hl=>match us,hl with | [_,_],_=>rfl
 have aHr:bF K mg "product" oO ["one","other"]:=bG X G a8.ns a8.lk a8.cd a8.kp fun _ _ _ _ _ _ us hl=>match us,hl with | [_,_],_=>rfl
 have aJ7:bF K mg "box_of" qD ["many","rows"]:=bG X G a9.ns a9.lk a9.cd a9.kp fun _ _ _ _ _ _ us hl=>match us,hl with | [_,_],_=>rfl
 have xP:bF K mg "check_reach" jB ["row","some"]:=bG X G a10.ns a10.lk a10.cd a10.kp fun _ _ _ _ _ _ us hl=>match us,hl with | [_,_],_=>rfl
 have vI:bF K mg "hooked" rL ["row","some"]:=bG X G a11.ns a11.lk a11.cd a11.kp fun _ _ _ _ _ _ us hl=>match us,hl with | [_,_],_=>rfl
 have aIv:bF K mg "lacking" oY ["many","places"]:=bG X G a12.ns a12.lk a12.cd a12.kp fun _ _ _ _ _ _ us hl=>match us,hl with | [_,_],_=>rfl
 have xT:bF K mg "turned_over" iW ["many","some"]:=bG X G a13.ns a13.lk a13.cd a13.kp fun _ _ _ _ _ _ us hl=>match us,hl with | [_,_],_=>rfl
 have wO:bF K mg "weighed_sums" gR ["one","other"]:=bG X G a14.ns a14.lk a14.cd a14.kp fun _ _ _ _ _ _ us hl=>match us,hl with | [_,_],_=>rfl
 have aIh:bF K mg "weighed" oS ["one","other"]:=bG X G a15.ns a15.lk a15.cd a15.kp fun _ _ _ _ _ _ us hl=>match us,hl with | [_,_],_=>rfl
 have aCx:bF K mg "_law_cell" lA ["_law_script","_law_k"]:=bG X G a16.ns a16.lk a16.cd a16.kp fun _ _ _ _ _ _ us hl=>match us,hl with | [_,_],_=>rfl
 have aBe:bF K mg "_law_thing" jQ ["_law_cell_here","_law_k","_law_many"]:=bG X G a17.ns a17.lk a17.cd a17.kp fun _ _ _ _ _ _ us hl=>match us,hl with | [_,_,_],_=>rfl
 have tJ:bF K mg "_law_gathered" gF ["_law_terms"]:=bG X G a18.ns a18.lk a18.cd a18.kp fun _ _ _ _ _ _ us hl=>match us,hl with | [_],_=>rfl
 have xQ:bF K mg "_law_chosen" jA ["_law_cell_here","_law_far","_law_many","_law_size"]:=bG X G a19.ns a19.lk a19.cd a19.kp fun _ _ _ _ _ _ us hl=>match us,hl with | [_,_,_,_],_=>rfl
 have qV:bF K mg "_law_digit_term" fC ["_law_cell_here","_law_many","_law_size"]:=bG X G a20.ns a20.lk a20.cd a20.kp fun _ _ _ _ _ _ us hl=>match us,hl with | [_,_,_],_=>rfl
 have sC:bF K mg "_law_drawn_sum" fT ["_law_cells","_law_many","_law_size","_law_far"]:=bG X G a21.ns a21.lk a21.cd a21.kp fun _ _ _ _ _ _ us hl=>match us,hl with | [_,_,_,_],_=>rfl
 have wR:bF K mg "_law_numbers" gT ["_law_script","_law_start","_law_many","_law_size"]:=bG X G a22.ns a22.lk a22.cd a22.kp fun _ _ _ _ _ _ us hl=>match us,hl with | [_,_,_,_],_=>rfl
 have pS:bF K mg "_law_whole_space" eS ["_law_many","_law_number"]:=bG X G a23.ns a23.lk a23.cd a23.kp fun _ _ _ _ _ _ us hl=>match us,hl with | [_,_],_=>rfl
 have yC:bF K mg "_law_orders" iQ ["_law_size"]:=bG X G a24.ns a24.lk a24.cd a24.kp fun _ _ _ _ _ _ us hl=>match us,hl with | [_],_=>rfl
 have aAq:bF K mg "_law_minor" jW ["_law_rows","_law_places"]:=bG X G a25.ns a25.lk a25.cd a25.kp fun _ _ _ _ _ _ us hl=>match us,hl with | [_,_],_=>rfl
 have aB1:bF K mg "_law_hook" kZ ["_law_row","_law_some","_law_size"]:=bG X G a26.ns a26.lk a26.cd a26.kp fun _ _ _ _ _ _ us hl=>match us,hl with | [_,_,_],_=>rfl
 have rN:bF K mg "_law_hooks_good" fB ["_law_rows","_law_one","_law_other","_law_sizes"]:=bG X G a27.ns a27.lk a27.cd a27.kp fun _ _ _ _ _ _ us hl=>match us,hl with | [_,_,_,_],_=>rfl
 have rP:bF K mg "_law_turns_good" eZ ["_law_many","_law_one","_law_other","_law_size"]:=bG X G a28.ns a28.lk a28.cd a28.kp fun _ _ _ _ _ _ us hl=>match us,hl with | [_,_,_,_],_=>rfl
 have sK:bF K mg "_law_rows_good" fS ["_law_many","_law_left","_law_right"]:=bG X G a29.ns a29.lk a29.cd a29.kp fun _ _ _ _ _ _ us hl=>match us,hl with | [_,_,_],_=>rfl
 have e:=hfa.symm.trans (Hc X G a30.ns);cases e;refine⟨Dt "law" "law" (lB xF) (iU xF) (aT xF) .none kV30 dc30 pm30 an30 cd30 ct30,fun s v=>.of_eq rfl,fun base _ _=>?_⟩
 have yG:L2.aG l.prog w K mg base (CXM l.prog w) 1 "check_alike" ["one","other"] (spM K (clK K) eX):=lI (k:=0) B  yE;have aPa:L2.aG l.prog w K mg base (CXM l.prog w) 2 "pairs" ["one","other"] (spM K (clK K) pA):=aBg (k:=1) B (yG.mono (by decide)) aA8
 have pN:L2.aG l.prog w K mg base (CXM l.prog w) 1 "check_count" ["many"] (spM K (clK K) cY):=gB (k:=0) B  xR;have zU:L2.aG l.prog w K mg base (CXM l.prog w) 2 "check_rows" ["many","rows"] (spM K (clK K) gV):=mV (k:=1) B (pN.mono (by decide)) aA2
 have zR:L2.aG l.prog w K mg base (CXM l.prog w) 1 "turn_of" ["places"] (spM K (clK K) fP):=mG (k:=0) B  aHh;have mD:L2.aG l.prog w K mg base (CXM l.prog w) 2 "summed" ["terms"] (spM K (clK K) dC):=eG (k:=1) B (zR.mono (by decide)) rK
 have aOz:L2.aG l.prog w K mg base (CXM l.prog w) 3 "added" ["one","other"] (spM K (clK K) mU):=zZ (k:=2) B (mD.mono (by decide)) aQb
 have aAv:L2.aG l.prog w K mg base (CXM l.prog w) 3 "taken" ["some","many"] (spM K (clK K) dU):=kU (k:=2) B (mD.mono (by decide)) aPm
 have oV:L2.aG l.prog w K mg base (CXM l.prog w) 3 "product" ["one","other"] (spM K (clK K) bJ):=eL (k:=2) B (mD.mono (by decide)) aHr
 have aDd:L2.aG l.prog w K mg base (CXM l.prog w) 4 "box_of" ["many","rows"] (spM K (clK K) eJ):=mJ (k:=3) B (zU.mono (by decide)) (oV.mono (by decide)) (mD.mono (by decide)) aJ7
 have xZ:L2.aG l.prog w K mg base (CXM l.prog w) 1 "check_reach" ["row","some"] (spM K (clK K) fZ):=lD (k:=0) B  xP;have xD:L2.aG l.prog w K mg base (CXM l.prog w) 3 "hooked" ["row","some"] (spM K (clK K) bQ):=fM (k:=2) B (xZ.mono (by decide)) (mD.mono (by decide)) vI
 have aIp:L2.aG l.prog w K mg base (CXM l.prog w) 1 "lacking" ["many","places"] (spM K (clK K) lV):=sJ (k:=0) B  aIv;have pJ:L2.aG l.prog w K mg base (CXM l.prog w) 3 "turned_over" ["many","some"] (spM K (clK K) aX):=dM (k:=2) B (pN.mono (by decide)) (aIp.mono (by decide)) (zR.mono (by decide)) (mD.mono (by decide)) xT
 have nU:L2.aG l.prog w K mg base (CXM l.prog w) 1 "weighed_sums" ["one","other"] (spM K (clK K) cP):=fI (k:=0) B  wO;have aIc:L2.aG l.prog w K mg base (CXM l.prog w) 3 "weighed" ["one","other"] (spM K (clK K) gQ):=rZ (k:=2) B (aPa.mono (by decide)) aIh
 have aCk:L2.aG l.prog w K mg base (CXM l.prog w) 1 "_law_cell" ["_law_script","_law_k"] (spM K (clK K) bY):=gO (k:=0) B  aCx;have aAc:L2.aG l.prog w K mg base (CXM l.prog w) 1 "_law_thing" ["_law_cell_here","_law_k","_law_many"] (spM K (clK K) gW):=nG (k:=0) B  aBe;have tL:L2.aG l.prog w K mg base (CXM l.prog w) 1 "_law_gathered" ["_law_terms"] (spM K (clK K) eU):=jM (k:=0) B  tJ;have xU:L2.aG l.prog w K mg base (CXM l.prog w) 2 "_law_chosen" ["_law_cell_here","_law_far","_law_many","_law_size"] (spM K (clK K) gC):=lM (k:=1) B (aAc.mono (by decide)) xQ
 have rD:L2.aG l.prog w K mg base (CXM l.prog w) 1 "_law_digit_term" ["_law_cell_here","_law_many","_law_size"] (spM K (clK K) dZ):=gU (k:=0) B  qV;have rX:L2.aG l.prog w K mg base (CXM l.prog w) 3 "_law_drawn_sum" ["_law_cells","_law_many","_law_size","_law_far"] (spM K (clK K) bV):=eK (k:=2) B (rD.mono (by decide)) (xU.mono (by decide)) (tL.mono (by decide)) sC
 have vD:L2.aG l.prog w K mg base (CXM l.prog w) 1 "_law_numbers" ["_law_script","_law_start","_law_many","_law_size"] (spM K (clK K) aY):=eI (k:=0) B  wR;have pX:L2.aG l.prog w K mg base (CXM l.prog w) 1 "_law_whole_space" ["_law_many","_law_number"] (spM K (clK K) cI):=gH (k:=0) B  pS;have xJ:L2.aG l.prog w K mg base (CXM l.prog w) 1 "_law_orders" ["_law_size"] (spM K (clK K) fY):=lK (k:=0) B  yC;have aAy:L2.aG l.prog w K mg base (CXM l.prog w) 2 "_law_minor" ["_law_rows","_law_places"] (spM K (clK K) fQ):=nA (k:=1) B (xJ.mono (by decide)) aAq
 have aB5:L2.aG l.prog w K mg base (CXM l.prog w) 4 "_law_hook" ["_law_row","_law_some","_law_size"] (spM K (clK K) cK):=jC (k:=3) B (xD.mono (by decide)) aB1
 have rU:L2.aG l.prog w K mg base (CXM l.prog w) 5 "_law_hooks_good" ["_law_rows","_law_one","_law_other","_law_sizes"] (spM K (clK K) cO):=gY (k:=4) B (oV.mono (by decide)) (aB5.mono (by decide)) (aOz.mono (by decide)) (aAv.mono (by decide)) (xD.mono (by decide)) rN
 have qW:L2.aG l.prog w K mg base (CXM l.prog w) 4 "_law_turns_good" ["_law_many","_law_one","_law_other","_law_size"] (spM K (clK K) cQ):=iA (k:=3) B (pJ.mono (by decide)) (aAv.mono (by decide)) (nU.mono (by decide)) (oV.mono (by decide)) (pX.mono (by decide)) rP
 have sI:L2.aG l.prog w K mg base (CXM l.prog w) 5 "_law_rows_good" ["_law_many","_law_left","_law_right"] (spM K (clK K) dO):=iJ (k:=4) B (aIc.mono (by decide)) (nU.mono (by decide)) (aDd.mono (by decide)) (aAy.mono (by decide)) sK
 exact aUq (k:=5) B (aCk.mono (by decide)) (rX.mono (by decide)) (vD.mono (by decide)) (qW.mono (by decide)) (rU.mono (by decide)) (oV.mono (by decide)) (pJ.mono (by decide)) (aDd.mono (by decide)) (xD.mono (by decide)) (aAv.mono (by decide)) (sI.mono (by decide)) (aI8 (st:=xF) a30.lk a30.cd a30.kp)
theorem walk {l:PySem.W.OpenLaw}{q:Program}{loose:List Str}{XP:(Str->Option Value)->Heap->Prop}{YP:World->Heap->Prop}{d:DefRec}{K:Params->PySem.W.Frag}(hn:l.most=some 63)(hdf:d.params.defaults=[])(hw:∀ ns:List Int,ns.length<=63->zE [.lst (ns.map .int)]=.ok (sc (.bl true)))
 (hY:∀ (w:World) (h:Heap),YP w h->(K w.params).In h) (hL:∀ P:Params,noL (K P)=true)
 (F:∀ (w:World) (mg:Str->Option Value) (fa:Addr) (h:Heap),(K w.params).In h->h.Ns mainGlobals mg->mg d.name=some (.ref fa) ->
  ∃ fd:FuncData,(∀ (s:Shared) (u:Value),BindsTo s fd ⟨[u],[]⟩ [("_law_script",u)])/\∀ base:Heap,(K w.params).In base->base.Ns mainGlobals mg->FnOk l.prog w (K w.params) mg base (CXM l.prog w) 6 fa fd ["_law_script"] (spM (K w.params) (clK (K w.params)) zE)) :
 PySem.W.WalkO q loose XP YP l.row.toRowW d [] (fun f vs=>PySem.call f vs) :=
 L2.aPw (n:=63) (k:=6) (x:="_law_script") (CX:=fun w=>CXM l.prog w) (sp:=fun w=>spM (K w.params) (clK (K w.params)) zE) hn (by decide) hdf ⟨rfl,by decide,by decide⟩ hY F (fun w _ _ ns hl _ hS=>aSn (hL w.params) (hw ns hl) hS) fun _ _ _ _ _ ⟨_,_,_,_,_,z⟩=>z
end N63
namespace Mir
open PySem L2
def wt (xs ys:List Int):Int:=((xs.zip ys).map fun p=>p.1*p.2).sum
theorem small {M:Nat}(hM:M<2^1000){x:Int}(h:x.natAbs<=M):x.natAbs<2^1000:=Cy h hM
theorem eV {α:Type}{xs:List α}{k:Nat}{d:α}(h:k<xs.length):xs.getD k d∈xs:=by
 rw[Al,Aj h];exact List.getElem_mem h
theorem sO {r:List Int}{w:Nat}(h:w<r.length):(li r)[w]?=some (.int (r.getD w 0)):=by
 simp[li,h,Al]
theorem aWq {C:Int->Int->Bool}{G:Int->Int->Int}{xs ys:List Int}{it:FI}{ρ:Mir.Env}{st fr:Bool}(hi:it ρ=.ok ⟨st,fr,(xs.zip ys).map fun p=>.tup [.int p.1,.int p.2]⟩)(hc:∀ x∈xs,∀ y∈ys,C x y=true)(hz:xs.length<=sizeLine) :
 bR it 2 [] (.tp [.nm 0,.nm 1]) (bE (i2E C G (vE 0) (vE 1))) ρ=.ok ⟨.tmp,true,.lst (li ((xs.zip ys).map fun p=>G p.1 p.2))⟩:=by
 have e:=jT (k:=2) (fs:=[]) (tg:=.tp [.nm 0,.nm 1]) (b:=bE (i2E C G (vE 0) (vE 1))) (out:=fun p=>.int (G p.1 p.2)) hi (fun p hp=>?_) ?_
 · rw[e];simp[li,Bb,Function.comp_def]
 · obtain⟨a,b⟩:=Ft hp
   exact⟨[some ⟨.shr,fr,.int p.1⟩,some ⟨.shr,fr,.int p.2⟩],.shr,rfl,qX (aV (C:=C) (i:=p.1) (j:=p.2) rfl rfl (hc _ a _ b)),by decide⟩
 · rw[List.length_zip];omega
abbrev aN0 (s:FS):FS:=ifS (bT (neE (bX (vE 0)) (bX (vE 1)))) s eC
theorem aP3 {s:FS}{xs ys:List D}(h:xs.length=ys.length):cG 2 2 (aN0 s) [.lst xs,.lst ys]=.ok (sc .non):=by
 refine aA6 (ρ:=[some ⟨.shr,false,.lst xs⟩,some ⟨.shr,false,.lst ys⟩]) rfl ?_
 refine(aCy (aBf (lE (ds:=xs) rfl) (lE (ds:=ys) rfl))).trans ?_
 simp only[h,decide_true,Bool.not_true,Bo,if_false];rfl
abbrev aA8 (φ:Φ):FS:=aP (jK (aC φ [vE 0,vE 1])) (bM (aS4 (vE 0) (vE 1)))
theorem aNy {φ:Φ}{xs ys:List D}(h:φ [.lst xs,.lst ys]=.ok (sc .non)):cG 2 2 (aA8 φ) [.lst xs,.lst ys]=.ok ⟨.tmp,false,.lst (yI xs ys)⟩ :=
 cJ (r:=⟨.tmp,false,.lst (yI xs ys)⟩) rfl ((aM (qE (dJ (aB rfl (aB rfl aK)) h))).trans rfl)
abbrev sZ (φ:Φ)(C:Int->Int->Bool)(G:Int->Int->Int):FE:=bR (cW (aC φ [vE 0,vE 1])) 2 [] (.tp [.nm 0,.nm 1]) (bE (i2E C G (vE 0) (vE 1)))
theorem aU3 {φ:Φ}{C:Int->Int->Bool}{G:Int->Int->Int}{xs ys:List Int}(h:φ [.lst (li xs),.lst (li ys)]=.ok ⟨.tmp,false,.lst (yI (li xs) (li ys))⟩)(hc:∀ x∈xs,∀ y∈ys,C x y=true)(hz:xs.length<=sizeLine) :
 sZ φ C G [some ⟨.shr,false,.lst (li xs)⟩,some ⟨.shr,false,.lst (li ys)⟩]=.ok ⟨.tmp,true,.lst (li ((xs.zip ys).map fun p=>G p.1 p.2))⟩:=by
 have e:=aMy (φ:=φ) (fs:=[vE 0,vE 1]) (ρ:=[some ⟨.shr,false,.lst (li xs)⟩,some ⟨.shr,false,.lst (li ys)⟩]) (aB rfl (aB rfl aK)) h rfl;exact aWq ((oI e).trans (by rw[aJ4])) hc hz
theorem aHy {φ:Φ}{xs ys:List Int}(h:φ [.lst (li xs),.lst (li ys)]=.ok ⟨.tmp,false,.lst (yI (li xs) (li ys))⟩)(hc:∀ x∈xs,∀ y∈ys,CM x y=true)(hz:xs.length<=sizeLine) :
 cG 2 2 (bM (aBo (sZ φ CM fun i j=>i*j))) [.lst (li xs),.lst (li ys)]=.ok (sc (.int (wt xs ys))) :=
 (cJ (r:=sc (.int (wt xs ys))) rfl (fA (aLc (aU3 h hc hz)))).trans rfl
theorem gA {i j:Int}(h:0<j):CP i j=true:=decide_eq_true h
theorem aLm {i j:Int}(h:0<j)(h2:j.natAbs<2^250):CD i j=true:=by
 have:j.natAbs.log2<9000:=by
  by_cases z:j.natAbs=0
  · rw[z];decide
  · exact Eg ((Nat.log2_lt z).mpr h2) (by decide)
 unfold CD;rw[decide_eq_true h,decide_eq_true this];rfl
theorem aWh {n:Nat}(h:n<10000):n<2^60:=Eg h (by decide)
theorem aEq {i:Nat}{s:FS}{ρ:Mir.Env}{e:Res}(h:ρ[i]?=some (some e)):tQ i s ρ=s (ρ.set i (some ⟨.shr,e.fr,e.d⟩)):=by simp only[tQ,frz,h]
end Mir
namespace Sm
open Srt
abbrev Tm:=List Int×Int
def look (A:List Tm)(k:List Int):Int:=match A with
 | []=>0
 | p :: r=>if p.1=k then p.2 else look r k
def put (A:List Tm)(k:List Int)(v:Int):List Tm:=if k∈A.map (·.1) then A.map fun p=>if p.1=k then (p.1,v) else p else A++[(k,v)]
theorem rG (A:List Tm)(k:List Int)(v:Int):(put A k v).map (·.1)=if k∈A.map (·.1) then A.map (·.1) else A.map (·.1)++[k]:=by
 unfold put;split
 · rw[Bb]
   apply Bq
   intro p _;show (if p.1=k then (p.1,v) else p).1=p.1
   split<;>rfl
 · simp
theorem yJ {A:List Tm}{k:List Int}{v:Int}(h:(A.map (·.1)).Nodup):((put A k v).map (·.1)).Nodup:=by
 rw[rG];split
 · exact h
 · rename_i n
   rw[Dc];refine⟨h,by simp,fun a ha b hb=>?_⟩
   have:b=k:=by simpa using hb
   subst this;exact fun z=>n (z▸ha)
theorem aF1 (A:List Tm)(k:List Int)(v:Int):(put A k v).length<=A.length+1:=by
 have:=congrArg Fp (rG A k v)
 simp only[Ac]at this;rw[this];split<;>simp
theorem aOe {A:List Tm}{k:List Int}{v:Int}{p:Tm}(h:p∈put A k v):p∈A\/p=(k,v):=by
 unfold put at h;split at h
 · obtain⟨q,hq,e⟩:=(Ak.mp h)
   by_cases z:q.1=k
   · rw[if_pos z]at e;right;rw[←e,z]
   · rw[if_neg z]at e;left;rw[←e];exact hq
 · rcases Bf.mp h with z | z
   · exact .inl z
   · right;simpa using z
theorem wA {A:List Tm}(h:(A.map (·.1)).Nodup):∀ {p:Tm},p∈A->look A p.1=p.2:=by
 induction A with
 | nil=>intro p hp;cases hp
 | cons q r ih =>
  intro p hp;obtain⟨h1,h2⟩:=Cu.mp (by simpa using h:(q.1 :: r.map (·.1)).Nodup)
  rcases An.mp hp with e | e
  · subst e;simp[look]
  · have:q.1≠p.1:=fun z=>h1 (z▸Ew e)
    simp only[look,if_neg this];exact ih h2 e
theorem jX {A:List Tm}{k:List Int}(h:k∉A.map (·.1)):look A k=0:=by
 induction A with
 | nil=>rfl
 | cons q r ih =>
  have h':k≠q.1/\k∉r.map (·.1):=by simpa using h
  simp only[look,if_neg (Ne.symm h'.1)];exact ih h'.2
def aQ6 (A:List Tm):List Tm:=((srt lx (A.map (·.1))).filter fun k=>look A k != 0).map fun k=>(k,look A k)
def rC (A:List Tm):List Tm:=srt px (A.filter fun p=>p.2 != 0)
theorem aSf {A:List Tm}(h:(A.map (·.1)).Nodup):aQ6 A=rC A:=by
 unfold aQ6 rC;refine gJ lJ ?_ ?_
 · have e:A.filter (fun p=>p.2 != 0)=((A.map (·.1)).filter fun k=>look A k != 0).map fun k=>(k,look A k):=by
    rw[List.filter_map,Bb]
    have e1:A.filter (fun p=>p.2 != 0)=A.filter ((fun k=>look A k != 0)∘fun x=>x.1):=by
     apply List.filter_congr
     intro p hp;show (p.2 != 0)=(look A p.1 != 0)
     rw[wA h hp]
    rw[e1]
    have e2:∀ p∈A.filter ((fun k=>look A k != 0)∘fun x=>x.1),((fun k=>(k,look A k))∘fun x:Tm=>x.1) p=p:=fun p hp=>by
     show (p.1,look A p.1)=p
     rw[wA h (Ds.mp hp).1]
    exact((Bq e2).trans (List.map_id' _)).symm
   rw[e];exact(((dQ (A.map (·.1))).filter _).map _)
 · rw[Co]
   have nd:(srt lx (A.map (·.1))).Nodup:=(dQ _).nodup_iff.mpr h
   have both:((srt lx (A.map (·.1))).filter fun k=>look A k != 0).Pairwise fun a b=>lx b a=false/\a≠b:=by
    refine List.Pairwise.filter _ ?_
    exact He (gM aDy (A.map fun x=>x.1)) (show List.Pairwise (fun a b=>a≠b) _ from nd)
   refine both.imp fun {a b} h=>?_
   show (if b=a then _ else lx b a)=false
   rw[if_neg (Ne.symm h.2)];exact h.1
def sgn (m:Nat):Int:=1-2*((m:Int)%2)
def jV (p:List Int):Nat->Nat
 | 0=>0
 | j+1=>jV p j+((p.take j).filter fun b=>decide (p.getD j 0<b)).length
def inv (p:List Int):Nat:=jV p p.length
def val (t:Tm):Int:=if t.1.Nodup then sgn (inv t.1)*t.2 else 0
def key (t:Tm):List Int:=srt ix t.1
def step (A:List Tm)(t:Tm):List Tm:=put A (key t) (look A (key t)+val t)
def acc (A:List Tm)(ts:List Tm):List Tm:=ts.foldl step A
def aN (ts:List Tm):List Tm:=rC (acc [] ts)
theorem vW (m:Nat):sgn m=1\/sgn m=-1:=by unfold sgn;omega
theorem aIz (m:Nat):sgn (m+1)=0-sgn m:=by unfold sgn;omega
theorem iO:∀ (ts A:List Tm),(A.map (·.1)).Nodup->((acc A ts).map (·.1)).Nodup
 | [],A,h=>h
 | t :: ts,A,h=>iO ts (step A t) (yJ h)
theorem mS:∀ (ts A:List Tm),(acc A ts).length<=A.length+ts.length
 | [],A=>Af _
 | t :: ts,A=>by
  have h1:=mS ts (step A t);have h2:(step A t).length<=A.length+1:=aF1 _ _ _;show (acc (step A t) ts).length<=_
  rw[As];omega
theorem mO:∀ (ts A:List Tm) {k:List Int},k∈(acc A ts).map (·.1)->k∈A.map (·.1)\/∃ t∈ts,k=key t
 | [],A,k,h=>.inl h
 | t :: ts,A,k,h=>by
  rcases mO ts (step A t) h with z | ⟨u,hu,e⟩
  · unfold step at z
    rw[rG]at z;split at z
    · exact .inl z
    · rcases Bf.mp z with z | z
      · exact .inl z
      · exact .inr ⟨t,Ab,by simpa using z⟩
  · exact .inr ⟨u,Ad _ hu,e⟩
theorem aR1 (t:Tm):(val t).natAbs<=t.2.natAbs:=by
 unfold val;split
 · rcases vW (inv t.1) with z | z<;>rw[z]<;>omega
 · omega
theorem aE3 {A:List Tm}{M:Nat}(h:∀ p∈A,p.2.natAbs<=M)(k:List Int):(look A k).natAbs<=M:=by
 induction A with
 | nil=>exact Cc _
 | cons q r ih =>
  simp only[look];split
  · exact h q Ab
  · exact ih fun p hp=>h p (Ad _ hp)
theorem aPg {A:List Tm}{t:Tm}{M N:Nat}(h:∀ p∈A,p.2.natAbs<=M)(ht:t.2.natAbs<=N):∀ p∈step A t,p.2.natAbs<=M+N:=by
 intro p hp;rcases aOe hp with z | z
 · exact Ah (h p z) (Da _ _)
 · rw[z]
   have h1:=aE3 h (key t);have h2:=aR1 t;show (look A (key t)+val t).natAbs<=_
   omega
theorem aAn {N:Nat}:∀ (ts A:List Tm) {M:Nat},(∀ p∈A,p.2.natAbs<=M)->(∀ t∈ts,t.2.natAbs<=N)->∀ p∈acc A ts,p.2.natAbs<=M+ts.length*N
 | [],A,M,h,_,p,hp=>by simpa using h p hp
 | t :: ts,A,M,h,ht,p,hp=>by
  have:=aAn ts (step A t) (aPg h (ht t Ab)) (fun u hu=>ht u (Ad _ hu)) p hp
  rw[As,Nat.add_mul];omega
end Sm
namespace Sm
open PySem L2 Mir Srt
theorem aPs {f:FE}{ρ:Mir.Env}{k:Kd}{fr:Bool}{p:List Int}(h:f ρ=.ok ⟨k,fr,.tup (li p)⟩)(hz:p.length<1000):tF f ρ=.ok (sc (.int (sH p))):=by
 simp only[tF,h,R.ok_bind,iV,if_pos hz]
theorem aFt {f:FE}{ρ:Mir.Env}{k:Kd}{fr:Bool}{ds:List D}(h:f ρ=.ok ⟨k,fr,.tup ds⟩):bX f ρ=.ok (sc (.int ds.length)):=by simp only[bX,h,R.ok_bind,asS]
theorem aAx:∀ (p s:List Int),s.Nodup->(p.foldl Cw s).length<=s.length+p.length/\((p.foldl Cw s).length=s.length+p.length↔(s++p).Nodup)
 | [],s,h=>by simp[h]
 | x :: p,s,h=>by
  rw[List.foldl_cons];by_cases z:s.any (·==x)=true
  · have e:Cw s x=s:=by unfold Cw;rw[if_pos z]
    rw[e];have ih:=aAx p s h
    have mem:x∈s:=by
     obtain⟨y,hy,e⟩:=Fn.mp z;rw[←eq_of_beq e];exact hy
    refine⟨by rw[As];omega,⟨fun q=>?_,fun q=>?_⟩⟩
    · rw[As]at q;omega
    · exact absurd rfl ((Dc.mp q).2.2 x mem x Ab)
  · have e:Cw s x=s++[x]:=by unfold Cw;rw[if_neg z]
    have nm:x∉s:=fun m=>z (Fn.mpr ⟨x,m,beq_self_eq_true x⟩);rw[e]
    have hs:(s++[x]).Nodup:=by
     rw[Dc];exact⟨h,by simp,fun a ha b hb=>by rw[Aq.mp hb];exact fun q=>nm (q▸ha)⟩
    have ih:=aAx p (s++[x]) hs;rw[Ai,Bl]at ih;rw[As,show s++x :: p=s++[x]++p by simp]
    exact⟨by omega,⟨fun q=>ih.2.mp (by omega),fun q=>by have:=ih.2.mpr q;omega⟩⟩
theorem aF3 (p:List Int):sH p<p.length↔¬ p.Nodup:=by
 have h:=aAx p [] Cl;simp only[Bp,Cv,Dh]at h;unfold sH;constructor
 · intro q n
   have:=h.2.mpr n
   omega
 · intro n
   rcases Gp (p.foldl Cw []).length p.length with z | z
   · exact z
   · exact absurd (h.2.mp (Nat.le_antisymm h.1 z)) n
theorem jZ {tg:Tg}{b:FS}{fr:Bool}{inj:Nat->D}{E:Nat->Mir.Env->Prop}:∀ (m i:Nat) (ρ:Mir.Env),E i ρ->(∀ j,i<=j->j<i+m->∀ ρ,E j ρ->∃ ρ1 ρ2,tg.bind fr (inj j) ρ=.ok ρ1/\b ρ1=.nx ρ2/\E (j+1) ρ2) ->
 ∃ ρ',fN tg b fr ((Eo i m).map inj) ρ=.nx ρ'/\E (i+m) ρ'
 | 0,i,ρ,h,_=>⟨ρ,rfl,h⟩
 | m+1,i,ρ,h,hs=>by
  obtain⟨ρ1,ρ2,h1,h2,h3⟩:=hs i (Af _) (by omega) ρ h
  obtain⟨ρ',h4,h5⟩:=jZ m (i+1) ρ2 h3 fun j a b=>hs j (by omega) (by omega)
  refine⟨ρ',?_,by rw[show i+(m+1)=i+1+m by omega];exact h5⟩
  rw[Go];simp only[Ap,fN,h1,R.at,h2];exact h4
theorem sB {α:Type}{tg:Tg}{b:FB}{fr:Bool}{ρ:Mir.Env}{inj out:α->D}{c:α->Bool}:∀ (xs:List α),(∀ x∈xs,∃ ρ1 k,tg.bind fr (inj x) ρ=.ok ρ1/\b ρ1=.ok (if c x then some ⟨k,true,out x⟩ else none)/\k≠.own)->lQ tg b fr ρ (xs.map inj)=.ok (true,(xs.filter c).map out)
 | [],_=>rfl
 | x :: r,h=>by
  obtain⟨ρ1,k,h1,h2,h3⟩:=h x Ab;have ih:=sB r fun y hy=>h y (Ad _ hy);cases z:c x with
  | true =>
   rw[z]at h2;simp only[Ap,lQ,h1,R.ok_bind,h2,if_true,Res.give,if_neg h3,ih,List.filter_cons,z];rfl
  | false =>
   rw[z]at h2;simp only[Ap,lQ,h1,R.ok_bind,h2,Bo,if_false,ih,List.filter_cons,z]
theorem wN {α:Type}{it:FI}{tg:Tg}{b:FB}{fr st:Bool}{ρ:Mir.Env}{k:Nat}{fs:List Nat}{inj out:α->D}{c:α->Bool}{xs:List α}(hi:it ρ=.ok ⟨st,fr,xs.map inj⟩)
 (h:∀ x∈xs,∃ ρ1 k',tg.bind fr (inj x) (eF k fs ρ)=.ok ρ1/\b ρ1=.ok (if c x then some ⟨k',true,out x⟩ else none)/\k'≠.own) (hz:xs.length<=sizeLine):bR it k fs tg b ρ=.ok ⟨.tmp,true,.lst ((xs.filter c).map out)⟩:=by
 have:=sB xs h
 simp only[bR,hi,R.ok_bind,this,Ac,if_pos hz]
theorem aA5 {t:FT}{f:FE}{ρ:Mir.Env}{c:Bool}{r:Res}(h:t ρ=.ok c)(hf:c=true->f ρ=.ok r):Mir.bIf t f ρ=.ok (if c then some r else none):=by
 cases c with
 | true=>simp only[Mir.bIf,h,R.ok_bind,if_true,hf rfl]
 | false=>simp only[Mir.bIf,h,R.ok_bind,Bo,if_false]
theorem aSw {i:Nat}{G:Int->Int->Int}{f:FE}{ρ:Mir.Env}{k k':Kd}{fr fr':Bool}{m n:Int}(h1:vE i ρ=.ok ⟨k,fr,.int m⟩)(h2:f ρ=.ok ⟨k',fr',.int n⟩):yF i G f ρ=.nx (ρ.set i (some ⟨.shr,true,.int (G m n)⟩)):=by
 simp only[yF,h1,R.at,asI,h2]
theorem zX (p:List Int):mZ (li p)=(Eo 0 p.length).map fun j=>.tup [.int (j:Int),.int (p.getD j 0)]:=by
 rw[aE4,←Cz];refine Fm (by simp) fun i h1 h2=>?_
 have hi:i<p.length:=by simpa using h2
 simp[hi]
theorem aCh (p:List Int)(j:Nat)(h:j<p.length):lG (li p) none (some (j:Int))=li (p.take j):=by
 unfold lG;rw[HT.vL,HT.kY];simp[Gu (Eh h)]
abbrev aK9:FS :=
 (aP (ifS (bT (ltE (tF (vE 0)) (bX (vE 0))))
  (bM (cE (.int 0)))
  eC)
 (aP (aO 1 (cE (.int 0)))
 (aP (cB (uO (vE 0)) (.tp [.nm 2,.nm 3])
  (yF 1 (fun m n=>m+n) (bX (bR (pU (iE (vE 0) (noO) (soO (vE 2)))) 1 [3] (.nm 0) (Mir.bIf (bT (gtE (vE 0) (vE 1))) (vE 0))))))
 (bM (eM (cE (.int 1)) (bN (cE (.int 2)) (cA (vE 1) (cE (.int 2)))))))))
def trn (p:List Int):Int:=if p.Nodup then sgn (inv p) else 0
theorem aIw (p:List Int)(hz:p.length<1000)(fr fr1 fr2:Bool)(j:Nat)(hj:j<p.length)(m:Int) :
 (yF 1 (fun m n=>m+n) (bX (bR (pU (iE (vE 0) (noO) (soO (vE 2)))) 1 [3] (.nm 0) (Mir.bIf (bT (gtE (vE 0) (vE 1))) (vE 0))))) [some ⟨.shr,fr,.tup (li p)⟩,some ⟨.shr,true,.int m⟩,some ⟨.shr,fr1,.int j⟩,some ⟨.shr,fr2,.int (p.getD j 0)⟩]
  = .nx [some ⟨.shr,fr,.tup (li p)⟩,some ⟨.shr,true,.int (m+((p.take j).filter fun b=>decide (p.getD j 0<b)).length)⟩,some ⟨.shr,fr1,.int j⟩,some ⟨.shr,fr2,.int (p.getD j 0)⟩]:=by
 have e1:iE (vE 0) (noO) (soO (vE 2)) [some ⟨.shr,fr,.tup (li p)⟩,some ⟨.shr,true,.int m⟩,some ⟨.shr,fr1,.int j⟩,some ⟨.shr,fr2,.int (p.getD j 0)⟩]=.ok ⟨.shr,fr||(D.tup (li p)).imm,.tup (li (p.take j))⟩:=by
  have nw:¬ (HT.sIx (li p).length 0 none=0/\HT.sIx (li p).length (li p).length (some (j:Int))=(li p).length):=by
   rw[HT.kY];simp;omega
  have e:(iE (vE 0) (noO) (soO (vE 2)) [some ⟨.shr,fr,.tup (li p)⟩,some ⟨.shr,true,.int m⟩,some ⟨.shr,fr1,.int j⟩,some ⟨.shr,fr2,.int (p.getD j 0)⟩])=if HT.sIx (li p).length 0 none=0/\HT.sIx (li p).length (li p).length (some (j:Int))=(li p).length then .stk else .ok ⟨.shr,fr||(D.tup (li p)).imm,.tup (lG (li p) none (some (j:Int)))⟩:=rfl
  rw[e,if_neg nw,aCh p j hj]
 have e2:bR (pU (iE (vE 0) (noO) (soO (vE 2)))) 1 [3] (.nm 0) (Mir.bIf (bT (gtE (vE 0) (vE 1))) (vE 0)) [some ⟨.shr,fr,.tup (li p)⟩,some ⟨.shr,true,.int m⟩,some ⟨.shr,fr1,.int j⟩,some ⟨.shr,fr2,.int (p.getD j 0)⟩]=.ok ⟨.tmp,true,.lst (((p.take j).filter fun b=>decide (p.getD j 0<b)).map D.int)⟩:=by
  refine wN (fr:=fr||(D.tup (li p)).imm) (st:=true) (inj:=D.int) (xs:=p.take j) (by simp only[pU,e1,R.ok_bind]) (fun b hb=>?_) ?_
  · refine⟨[some ⟨.shr,fr||(D.tup (li p)).imm,.int b⟩,some ⟨.shr,fr2,.int (p.getD j 0)⟩],.shr,rfl,?_,by decide⟩
    exact aA5 (r:=⟨.shr,true,.int b⟩) (iD (iY (k:=.shr) (k':=.shr) (fr:=true) (fr':=true) (i:=b) (j:=p.getD j 0) (by simp[vE,D.imm]) (by simp[vE,D.imm]))) fun _=>by simp[vE,D.imm]
  · rw[sizeLine_eq,Ca];omega
 refine(aSw (k:=.shr) (fr:=true) (m:=m) rfl (lE e2)).trans ?_
 simp
end Sm
namespace Sm
open PySem L2 Mir Srt
theorem aR0 (p:List Int)(hz:p.length<1000):cG 1 4 aK9 [.tup (li p)]=.ok (sc (.int (trn p))):=by
 have t0:bT (ltE (tF (vE 0)) (bX (vE 0))) [some ⟨.shr,false,.tup (li p)⟩,none,none,none]=.ok (decide ((sH p:Int)<(p.length:Int))):=by
  refine iD (iY (k':=.shr) (fr':=true) (aPs (k:=.shr) (fr:=false||(D.tup (li p)).imm) rfl hz) ((aFt (k:=.shr) (fr:=false||(D.tup (li p)).imm) (ds:=li p) rfl).trans ?_))
  rw[Ac];rfl
 by_cases n:p.Nodup
 · have c:¬ sH p<p.length:=fun q=>(aF3 p).mp q n
   have e0:ifS (bT (ltE (tF (vE 0)) (bX (vE 0)))) (bM (cE (.int 0))) eC [some ⟨.shr,false,.tup (li p)⟩,none,none,none]=.nx [some ⟨.shr,false,.tup (li p)⟩,none,none,none]:=by
    rw[nP t0,decide_eq_false (by omega)];rfl
   have e1:aO 1 (cE (.int 0)) [some ⟨.shr,false,.tup (li p)⟩,none,none,none]=.nx [some ⟨.shr,false,.tup (li p)⟩,some ⟨.shr,true,.int 0⟩,none,none]:=rfl
   obtain⟨ρ',l1,x,y,l2⟩:=jZ (tg:=.tp [.nm 2,.nm 3]) (b:=yF 1 (fun m n=>m+n) (bX (bR (pU (iE (vE 0) (noO) (soO (vE 2)))) 1 [3] (.nm 0) (Mir.bIf (bT (gtE (vE 0) (vE 1))) (vE 0))))) (fr:=false||(D.tup (li p)).imm) (inj:=fun j=>.tup [.int (j:Int),.int (p.getD j 0)])
    (E:=fun j ρ=>∃ x y,ρ=[some ⟨.shr,false,.tup (li p)⟩,some ⟨.shr,true,.int (jV p j:Nat)⟩,x,y]) p.length 0 [some ⟨.shr,false,.tup (li p)⟩,some ⟨.shr,true,.int 0⟩,none,none] ⟨none,none,rfl⟩ fun j _ hj ρ ⟨x,y,e⟩=>by
     subst e;have hj':j<p.length:=by omega
     refine⟨[some ⟨.shr,false,.tup (li p)⟩,some ⟨.shr,true,.int (jV p j:Nat)⟩,some ⟨.shr,false||(D.tup (li p)).imm,.int (j:Int)⟩,some ⟨.shr,false||(D.tup (li p)).imm,.int (p.getD j 0)⟩],_,rfl,aIw p hz false _ _ j hj' _,some ⟨.shr,false||(D.tup (li p)).imm,.int (j:Int)⟩,some ⟨.shr,false||(D.tup (li p)).imm,.int (p.getD j 0)⟩,?_⟩
     rw[show jV p (j+1)=jV p j+((p.take j).filter fun b=>decide (p.getD j 0<b)).length from rfl,Fv]
   rw[Cv]at l2
   have e2:cB (uO (vE 0)) (.tp [.nm 2,.nm 3]) (yF 1 (fun m n=>m+n) (bX (bR (pU (iE (vE 0) (noO) (soO (vE 2)))) 1 [3] (.nm 0) (Mir.bIf (bT (gtE (vE 0) (vE 1))) (vE 0))))) [some ⟨.shr,false,.tup (li p)⟩,some ⟨.shr,true,.int 0⟩,none,none]=.nx [some ⟨.shr,false,.tup (li p)⟩,some ⟨.shr,true,.int (inv p:Nat)⟩,x,y]:=by
    refine(eB (fr:=false||(D.tup (li p)).imm) (ds:=mZ (li p)) rfl).trans ?_
    rw[zX,l1,l2];rfl
   have e3:bM (eM (cE (.int 1)) (bN (cE (.int 2)) (cA (vE 1) (cE (.int 2))))) [some ⟨.shr,false,.tup (li p)⟩,some ⟨.shr,true,.int (inv p:Nat)⟩,x,y]=.rt ⟨.shr,true,.int (1-2*(((inv p:Nat):Int)%2))⟩:=by
    refine fA (aV (k:=.shr) (fr:=true) (i:=1) rfl (aV (k:=.shr) (fr:=true) (i:=2) rfl (aV (k:=.shr) (fr:=true) (i:=(inv p:Nat)) rfl rfl (gA (by decide))) (eP (gG (by decide)) (small (M:=2) (gG (by decide)) (by omega)))) rfl)
   have e:aK9 [some ⟨.shr,false,.tup (li p)⟩,none,none,none]=.rt ⟨.shr,true,.int (1-2*(((inv p:Nat):Int)%2))⟩:=(aM e0).trans ((aM e1).trans ((aM e2).trans e3));refine(cJ rfl e).trans ?_
   unfold trn;rw[if_pos n];rfl
 · have c:sH p<p.length:=(aF3 p).mpr n
   have e0:ifS (bT (ltE (tF (vE 0)) (bX (vE 0)))) (bM (cE (.int 0))) eC [some ⟨.shr,false,.tup (li p)⟩,none,none,none]=.rt ⟨.shr,true,.int 0⟩:=by
    rw[nP t0,decide_eq_true (by omega)];rfl
   refine(cJ rfl (uR e0)).trans ?_
   unfold trn;rw[if_neg n];rfl
def dK (A:List Tm):D:=.dct (A.map (·.1)) (A.map fun p=>.int p.2)
theorem vA:∀ (A:List Tm) (k:List Int),kS (A.map (·.1)) (A.map fun p=>.int p.2) k=if k∈A.map (·.1) then some (.int (look A k)) else none
 | [],k=>by simp[kS]
 | p :: r,k=>by
  simp only[Ap,kS];by_cases z:p.1=k
  · simp[z,look]
  · rw[if_neg z,vA r k]
    simp only[look,if_neg z];by_cases m:k∈r.map (·.1)
    · rw[if_pos m,if_pos (Ad _ m)]
    · rw[if_neg m,if_neg fun w=>(An.mp w).elim (Ne.symm z) m]
theorem aGg (A:List Tm)(k:List Int)(v:Int):tK (A.map (·.1)) (A.map fun p=>.int p.2) k (.int v)=((put A k v).map (·.1),(put A k v).map fun p=>.int p.2):=by
 unfold tK;rw[rG];unfold put;by_cases z:k∈A.map (·.1)
 · simp only[if_pos z]
   have e:∀ B:List Tm,((B.map (·.1)).zip (B.map fun p=>D.int p.2)).map (fun p=>if p.1=k then D.int v else p.2)=(B.map fun p=>if p.1=k then (p.1,v) else p).map fun p=>D.int p.2:=by
    intro B;induction B with
    | nil=>rfl
    | cons q r ih =>
     simp only[Ap,Fd];rw[ih];by_cases w:q.1=k<;>simp[w]
   rw[e A]
 · simp only[if_neg z]
   simp
theorem vV {f:FE}{ρ:Mir.Env}{k:Kd}{fr:Bool}{ds:List D}(h:f ρ=.ok ⟨k,fr,.lst ds⟩):nK f ρ=.ok ⟨.shr,fr,.tup ds⟩:=by simp only[nK,h,R.ok_bind,asS]
theorem aE2 {f:FE}{ρ:Mir.Env}{k:Kd}{fr:Bool}{p:List Int}(h:f ρ=.ok ⟨k,fr,.tup (li p)⟩)(hz:p.length<64):pP f ρ=.ok ⟨.tmp,true,.lst (li (srt ix p))⟩:=by
 simp only[pP,h,R.ok_bind,asS,iV,if_pos hz]
theorem aEo {a k x:FE}{ρ:Mir.Env}{A:List Tm}{q:List Int}{kd kd' kd'':Kd}{fr fr' fr'':Bool}(h1:a ρ=.ok ⟨kd,fr,dK A⟩)(h2:k ρ=.ok ⟨kd',fr',.tup (li q)⟩)(h3:x ρ=.ok ⟨kd'',fr'',.int 0⟩):∃ f,pD a k x ρ=.ok ⟨.shr,f,.int (look A q)⟩:=by
 simp only[pD,h1,R.ok_bind,dK,h2,h3,asK,iV,vA];by_cases z:q∈A.map (·.1)
 · rw[if_pos z];exact⟨_,rfl⟩
 · rw[if_neg z,jX z]
   exact⟨true,rfl⟩
theorem aF7 {i:Nat}{k f:FE}{ρ:Mir.Env}{A:List Tm}{q:List Int}{v:Int}{kd kd':Kd}{fr fr':Bool}(ho:ρ[i]?=some (some ⟨.own,true,dK A⟩))(h1:f ρ=.ok ⟨kd,true,.int v⟩)(hk:kd≠.own)(h2:k ρ=.ok ⟨kd',fr',.tup (li q)⟩)(hz:A.length<sizeLine) :
 rR i k f ρ=.nx (ρ.set i (some ⟨.own,true,dK (put A q v)⟩)):=by
 have e0:ownD i ρ=.ok (true,A.map (·.1),A.map fun p=>.int p.2):=by unfold ownD;rw[ho];rfl
 have e1:asK (.tup (li q))=.ok q:=iV q;have hz':(A.map (·.1)).length<sizeLine:=by rw[Ac];exact hz
 simp only[rR,e0,R.at,h1,Res.give,if_neg hk,h2,e1,if_pos hz',aGg];rfl
end Sm
namespace Sm
open PySem L2 Mir Srt
theorem iK (t:Tm):val t=trn t.1*t.2:=by
 unfold val trn;split
 · rfl
 · rw[Cq]
theorem aRm (p:List Int):(trn p).natAbs<=1:=by
 unfold trn;split
 · rcases vW (inv p) with z | z<;>rw[z]<;>decide
 · decide
theorem gX {f g:FE}{ρ:Mir.Env}{k k':Kd}{fr fr':Bool}{d d':D}(h1:f ρ=.ok ⟨k,fr,d⟩)(h2:g ρ=.ok ⟨k',fr',d'⟩)(n1:k≠.own)(n2:k'≠.own):dH [f,g] ρ=.ok ⟨.shr,fr&&(fr'&&true),.tup [d,d']⟩:=by
 have hz:([d,d']:List D).length<=sizeLine:=by show 2<=sizeLine;decide
 simp only[dH,evs,h1,h2,R.ok_bind,gives,Res.give,if_neg n1,if_neg n2,if_pos hz]
theorem rH (t:Tm):(key t).length=t.1.length:=aBd _
theorem aPp {ts:List Tm}{L:Nat}(h:∀ t∈ts,t.1.length=L):2<=((acc [] ts).map (·.1)).length->∀ k∈(acc [] ts).map (·.1),k≠[]:=by
 intro two k hk e;have nd:=iO ts [] Cl
 have al:∀ q∈(acc [] ts).map (·.1),q.length=L:=fun q hq=>by
  rcases mO ts [] hq with z | ⟨t,ht,rfl⟩
  · cases z
  · rw[rH];exact h t ht
 have L0:L=0:=by rw[←al k hk,e];rfl
 generalize (acc [] ts).map (·.1)=ks at *
 match ks,two with
 | a :: b :: r,_ =>
  have ea:a=[]:=Be.mp (by rw[al a Ab,L0])
  have eb:b=[]:=Be.mp (by rw[al b (Ad _ Ab),L0])
  have:=(Cu.mp nd).1
  exact this (by rw[ea,eb];exact Ab)
theorem aNq {a k:FE}{ρ:Mir.Env}{A:List Tm}{q:List Int}{kd kd':Kd}{fr':Bool}(h1:a ρ=.ok ⟨kd,true,dK A⟩)(h2:k ρ=.ok ⟨kd',fr',.tup (li q)⟩)(hq:q∈A.map (·.1)):pO a k ρ=.ok ⟨.shr,true,.int (look A q)⟩:=by
 simp only[pO,h1,R.ok_bind,dK,h2,asK,iV,vA,if_pos hq,Bool.true_or]
structure Fit (ts:List Tm):Prop where
 pl:∀ t∈ts,t.1.length<64
 nb:∀ t∈ts,t.2.natAbs<2^1000
 ks:(acc [] ts).length<64
 un:∃ L,∀ t∈ts,t.1.length=L
 ln:ts.length<=1000
abbrev aMj (φ:Φ):FS:=(aP (aO 4 (nK (pP (vE 2))))
 (rR 1 (vE 4) (cH (pD (vE 1) (vE 4) (cE (.int 0))) (bN (aC φ [vE 2]) (vE 3)))))
abbrev rK (φ:Φ):FS :=
 (aP (aO 1 (wZ))
 (aP (tQ 0 (cB (cW (vE 0)) (.tp [.nm 2,.nm 3])
  (aP (aO 4 (nK (pP (vE 2))))
  (rR 1 (vE 4) (cH (pD (vE 1) (vE 4) (cE (.int 0))) (bN (aC φ [vE 2]) (vE 3)))))))
 (bM (bR (cW (aDb (vE 1))) 1 [1] (.nm 0) (Mir.bIf (bT (neE (pO (vE 1) (vE 0)) (cE (.int 0)))) (dH [vE 0,pO (vE 1) (vE 0)]))))))
theorem aL0 {φ:Φ}(hφ:∀ p:List Int,p.length<64->φ [.tup (li p)]=.ok (sc (.int (trn p))))(a0 x4:Option Res)(A:List Tm)(t:Tm)(h1:t.1.length<64)(h2:t.2.natAbs<2^1000)(hA:A.length<sizeLine)(f2 f3:Bool) :
 aMj φ [a0,some ⟨.own,true,dK A⟩,some ⟨.shr,f2,.tup (li t.1)⟩,some ⟨.shr,f3,.int t.2⟩,x4]=.nx [a0,some ⟨.own,true,dK (step A t)⟩,some ⟨.shr,f2,.tup (li t.1)⟩,some ⟨.shr,f3,.int t.2⟩,some ⟨.shr,true,.tup (li (key t))⟩]:=by
 have e1:aO 4 (nK (pP (vE 2))) [a0,some ⟨.own,true,dK A⟩,some ⟨.shr,f2,.tup (li t.1)⟩,some ⟨.shr,f3,.int t.2⟩,x4]=.nx [a0,some ⟨.own,true,dK A⟩,some ⟨.shr,f2,.tup (li t.1)⟩,some ⟨.shr,f3,.int t.2⟩,some ⟨.shr,true,.tup (li (key t))⟩] :=
  set_shr (vV (aE2 (k:=.shr) (fr:=f2||(D.tup (li t.1)).imm) rfl h1))
 refine(aM e1).trans ?_
 obtain⟨f5,e2⟩:=aEo (a:=vE 1) (k:=vE 4) (x:=cE (.int 0)) (ρ:=[a0,some ⟨.own,true,dK A⟩,some ⟨.shr,f2,.tup (li t.1)⟩,some ⟨.shr,f3,.int t.2⟩,some ⟨.shr,true,.tup (li (key t))⟩]) (A:=A) (q:=key t) (kd:=.own) (kd':=.shr) (kd'':=.shr) (fr:=true) (fr':=true) (fr'':=true) rfl rfl rfl
 have e3:aC φ [vE 2] [a0,some ⟨.own,true,dK A⟩,some ⟨.shr,f2,.tup (li t.1)⟩,some ⟨.shr,f3,.int t.2⟩,some ⟨.shr,true,.tup (li (key t))⟩]=.ok ⟨.shr,true,.int (trn t.1)⟩ :=
  dJ (rs:=[⟨.shr,f2||(D.tup (li t.1)).imm,.tup (li t.1)⟩]) (aB rfl aK) (hφ t.1 h1)
 have e4:cH (pD (vE 1) (vE 4) (cE (.int 0))) (bN (aC φ [vE 2]) (vE 3)) [a0,some ⟨.own,true,dK A⟩,some ⟨.shr,f2,.tup (li t.1)⟩,some ⟨.shr,f3,.int t.2⟩,some ⟨.shr,true,.tup (li (key t))⟩]=.ok ⟨.shr,true,.int (look A (key t)+val t)⟩:=by
  rw[iK];exact aV e2 (aV e3 (k':=.shr) (fr':=f3||(D.int t.2).imm) rfl (eP (small (M:=1) (gG (by decide)) (aRm _)) h2)) rfl
 exact aF7 (fr:=true) (i:=1) (k:=vE 4) (A:=A) (q:=key t) (kd':=.shr) (fr':=true) rfl e4 (by decide) rfl hA
theorem sG {tg:Tg}{b:FS}{fr:Bool}{E:List Tm->Mir.Env->Prop}:∀ (ts A:List Tm) (ρ:Mir.Env),A.length+ts.length<=1000->E A ρ->(∀ t∈ts,∀ A ρ,A.length<1000->E A ρ->∃ ρ1 ρ2,tg.bind fr (mkP t) ρ=.ok ρ1/\b ρ1=.nx ρ2/\E (step A t) ρ2) ->
 ∃ ρ',fN tg b fr (ts.map mkP) ρ=.nx ρ'/\E (acc A ts) ρ'
 | [],A,ρ,_,h,_=>⟨ρ,rfl,h⟩
 | t :: r,A,ρ,hz,h,hs=>by
  rw[As]at hz;obtain⟨ρ1,ρ2,h1,h2,h3⟩:=hs t Ab A ρ (by omega) h
  have hl:(step A t).length<=A.length+1:=aF1 _ _ _;obtain⟨ρ',h4,h5⟩:=sG r (step A t) ρ2 (by omega) h3 fun y hy=>hs y (Ad _ hy)
  refine⟨ρ',?_,h5⟩
  simp only[Ap,fN,h1,R.at,h2];exact h4
theorem aLf {φ:Φ}(hφ:∀ p:List Int,p.length<64->φ [.tup (li p)]=.ok (sc (.int (trn p)))){ts:List Tm}(F:Fit ts):cG 1 5 (rK φ) [.lst (ts.map mkP)]=.ok ⟨.tmp,true,.lst ((aN ts).map mkP)⟩:=by
 have e1:aO 1 wZ [some ⟨.shr,false,.lst (ts.map mkP)⟩,none,none,none,none]=.nx [some ⟨.shr,false,.lst (ts.map mkP)⟩,some ⟨.own,true,dK []⟩,none,none,none]:=rfl
 obtain⟨ρ',l1,x2,x3,x4,l3⟩:=sG (tg:=.tp [.nm 2,.nm 3]) (b:=aMj φ) (fr:=false)
  (E:=fun A ρ=>∃ x2 x3 x4,ρ=[some ⟨.shr,false,.lst (ts.map mkP)⟩,some ⟨.own,true,dK A⟩,x2,x3,x4]) ts [] [some ⟨.shr,false,.lst (ts.map mkP)⟩,some ⟨.own,true,dK []⟩,none,none,none] (by simpa using F.ln) ⟨none,none,none,rfl⟩ fun t ht A ρ hA ⟨x2,x3,x4,e⟩=>by
   subst e;exact⟨[some ⟨.shr,false,.lst (ts.map mkP)⟩,some ⟨.own,true,dK A⟩,some ⟨.shr,false,.tup (li t.1)⟩,some ⟨.shr,false,.int t.2⟩,x4],_,rfl,aL0 hφ _ x4 A t (F.pl t ht) (F.nb t ht) (by rw[sizeLine_eq];omega) false false,_,_,_,rfl⟩
 have e2:tQ 0 (cB (cW (vE 0)) (.tp [.nm 2,.nm 3]) (aMj φ)) [some ⟨.shr,false,.lst (ts.map mkP)⟩,some ⟨.own,true,dK []⟩,none,none,none]=.nx [some ⟨.shr,false,.lst (ts.map mkP)⟩,some ⟨.own,true,dK (acc [] ts)⟩,x2,x3,x4]:=by
  refine(aEq (e:=⟨.shr,false,.lst (ts.map mkP)⟩) rfl).trans ?_
  refine(eB (fr:=false) (ds:=ts.map mkP) rfl).trans ?_
  rw[←l3];exact l1
 have nd:=iO ts [] Cl;obtain⟨L,hL⟩:=F.un;have hks:=F.ks;have ne:=aPp hL;unfold aN;rw[←aSf nd];generalize acc [] ts=A at *
 have e3:aDb (vE 1) [some ⟨.shr,false,.lst (ts.map mkP)⟩,some ⟨.own,true,dK A⟩,x2,x3,x4]=.ok ⟨.tmp,true,.lst ((srt lx (A.map (·.1))).map mkT)⟩:=by
  have c:(A.map (·.1)).length<64/\(2<=(A.map (·.1)).length->∀ k∈A.map (·.1),k≠[]):=⟨by rw[Ac];exact hks,ne⟩
  show (if _ then _ else _)=_
  exact if_pos c
 have e4:bR (cW (aDb (vE 1))) 1 [1] (.nm 0) (Mir.bIf (bT (neE (pO (vE 1) (vE 0)) (cE (.int 0)))) (dH [vE 0,pO (vE 1) (vE 0)])) [some ⟨.shr,false,.lst (ts.map mkP)⟩,some ⟨.own,true,dK A⟩,x2,x3,x4]=.ok ⟨.tmp,true,.lst (((srt lx (A.map (·.1))).filter fun k=>look A k != 0).map fun k=>mkP (k,look A k))⟩:=by
  refine wN (inj:=mkT) (xs:=srt lx (A.map (·.1))) (oI e3) (fun k hk=>?_) ?_
  · have hk':k∈A.map (·.1):=(dQ _).mem_iff.mp hk
    have g:pO (vE 1) (vE 0) [some ⟨.shr,true,.tup (li k)⟩,some ⟨.own,true,dK A⟩]=.ok ⟨.shr,true,.int (look A k)⟩:=aNq (kd:=.own) (kd':=.shr) (fr':=true) rfl rfl hk';refine⟨[some ⟨.shr,true,.tup (li k)⟩,some ⟨.own,true,dK A⟩],.shr,rfl,?_,by decide⟩
    refine aA5 (r:=⟨.shr,true,mkP (k,look A k)⟩) (c:=look A k != 0) (iD (aBf (k':=.shr) (fr':=true) (j:=0) g rfl)) fun _=>?_
    exact gX (k:=.shr) (fr:=true) (d:=.tup (li k)) rfl g (by decide) (by decide)
  · rw[aBd,Ac,sizeLine_eq];omega
 have e:rK φ [some ⟨.shr,false,.lst (ts.map mkP)⟩,none,none,none,none]=.rt ⟨.tmp,true,.lst (((srt lx (A.map (·.1))).filter fun k=>look A k != 0).map fun k=>mkP (k,look A k))⟩:=(aM e1).trans ((aM e2).trans (iS e4));refine(cJ rfl e).trans ?_
 unfold aQ6;rw[Bb];rfl
end Sm
namespace Sm
open PySem L2 Mir Srt
theorem aDh {f g:FE}{ρ:Mir.Env}{k k':Kd}{fr fr':Bool}{p:List Int}{i:Nat}(h1:f ρ=.ok ⟨k,fr,.tup (li p)⟩)(h2:g ρ=.ok ⟨k',fr',.int i⟩)(h:i<p.length):bD f g ρ=.ok ⟨.shr,true,.int (p.getD i 0)⟩:=by
 have e:atI (li p) (i:Int)=some (.int (p.getD i 0)):=Mir.tW (sO h);simp only[bD,h1,h2,R.ok_bind,asS,asI,e,D.imm,Gd]
abbrev aBi:FS:=(aP (ifS (bT (gtE (bD (vE 2) (vE 6)) (bD (vE 2) (vE 5))))
 (aO 4 (eM (cE (.int 0)) (vE 4)))
 eC)
 (ifS (bT (eqE (bD (vE 2) (vE 6)) (bD (vE 2) (vE 5))))
  (aO 3 (cE (.int 0)))
  eC))
abbrev aF4:FS:=(aP (aO 4 (cE (.int 1)))
 (aP (cB (cV (bX (vE 2))) (.nm 5)
  (cB (cV (vE 5)) (.nm 6)
   (aP (ifS (bT (gtE (bD (vE 2) (vE 6)) (bD (vE 2) (vE 5))))
    (aO 4 (eM (cE (.int 0)) (vE 4)))
    eC)
   (ifS (bT (eqE (bD (vE 2) (vE 6)) (bD (vE 2) (vE 5))))
    (aO 3 (cE (.int 0)))
    eC))))
 (aP (aO 7 (nK (pP (vE 2))))
 (rR 1 (vE 7) (cH (pD (vE 1) (vE 7) (cE (.int 0))) (bN (vE 4) (vE 3)))))))
abbrev aKj:FS :=
 (aP (aO 1 (wZ))
 (aP (cB (cW (vE 0)) (.tp [.nm 2,.nm 3]) aF4)
 (bM (aB8 (aEg (vE 1) 2 (.tp [.nm 0,.nm 1]) (Mir.bIf (bT (neE (vE 1) (cE (.int 0)))) (dH [vE 0,vE 1])))))))
def nm (b:Prop)[Decidable b](n:Int):Int:=if b then n else 0
theorem aHv (p:List Int)(c:Int->Bool)(k:Nat)(h:k<p.length):((p.take (k+1)).filter c).length=((p.take k).filter c).length+if c (p.getD k 0) then 1 else 0:=by
 have e:p.take (k+1)=p.take k++[p.getD k 0]:=by
  rw[Ea];simp[h]
 rw[e,List.filter_append,Ai];generalize p.getD k 0=x
 cases z:c x<;>simp[z]
theorem aKw (p:List Int)(k:Nat)(h:k<p.length)(x:Int):x∈p.take (k+1)↔x∈p.take k\/x=p.getD k 0:=by
 have e:p.take (k+1)=p.take k++[p.getD k 0]:=by
  rw[Ea];simp[h]
 rw[e];simp
theorem vG (p:List Int)(k:Nat)(h:k<p.length):(p.take (k+1)).Nodup↔(p.take k).Nodup/\p.getD k 0∉p.take k:=by
 have e:p.take (k+1)=p.take k++[p.getD k 0]:=by
  rw[Ea];simp[h]
 rw[e,Dc];constructor
 · intro ⟨a,_,c⟩
   exact⟨a,fun m=>c _ m _ (Aq.mpr rfl) rfl⟩
 · intro ⟨a,c⟩
   exact⟨a,by simp,fun x hx y hy=>by rw[Aq.mp hy];exact fun z=>c (z▸hx)⟩
variable (a0 a1 x7:Option Res)(f2:Bool)(p:List Int)(n:Int)
abbrev gE (a0 a1 x7:Option Res)(f2:Bool)(p:List Int)(f3:Bool)(m s:Int)(x5 x6:Option Res):Mir.Env:=[a0,a1,some ⟨.shr,f2,.tup (li p)⟩,some ⟨.shr,f3,.int m⟩,some ⟨.shr,true,.int s⟩,x5,x6,x7]
theorem aO6 (j k:Nat)(hj:j<p.length)(hk:k<p.length)(f3 f5 f6:Bool)(m s:Int):∃ f3',
 aBi (gE a0 a1 x7 f2 p f3 m s (some ⟨.shr,f5,.int j⟩) (some ⟨.shr,f6,.int k⟩))=.nx (gE a0 a1 x7 f2 p f3' (if p.getD k 0=p.getD j 0 then 0 else m) (if p.getD j 0<p.getD k 0 then 0-s else s) (some ⟨.shr,f5,.int j⟩) (some ⟨.shr,f6,.int k⟩)):=by
 have i6:∀ s,bD (vE 2) (vE 6) (gE a0 a1 x7 f2 p f3 m s (some ⟨.shr,f5,.int j⟩) (some ⟨.shr,f6,.int k⟩))=.ok ⟨.shr,true,.int (p.getD k 0)⟩:=fun s=>aDh (k:=.shr) (fr:=f2||(D.tup (li p)).imm) (k':=.shr) (fr':=f6||(D.int (k:Int)).imm) rfl rfl hk;have i5:∀ s,bD (vE 2) (vE 5) (gE a0 a1 x7 f2 p f3 m s (some ⟨.shr,f5,.int j⟩) (some ⟨.shr,f6,.int k⟩))=.ok ⟨.shr,true,.int (p.getD j 0)⟩:=fun s=>aDh (k:=.shr) (fr:=f2||(D.tup (li p)).imm) (k':=.shr) (fr':=f5||(D.int (j:Int)).imm) rfl rfl hj
 have e1:ifS (bT (gtE (bD (vE 2) (vE 6)) (bD (vE 2) (vE 5)))) (aO 4 (eM (cE (.int 0)) (vE 4))) eC (gE a0 a1 x7 f2 p f3 m s (some ⟨.shr,f5,.int j⟩) (some ⟨.shr,f6,.int k⟩))=.nx (gE a0 a1 x7 f2 p f3 m (if p.getD j 0<p.getD k 0 then 0-s else s) (some ⟨.shr,f5,.int j⟩) (some ⟨.shr,f6,.int k⟩)):=by
  refine(nP (b:=decide (p.getD j 0<p.getD k 0)) (iD (iY (G:=fun i j=>decide (j<i)) (i6 s) (i5 s)))).trans ?_
  by_cases z:p.getD j 0<p.getD k 0
  · rw[decide_eq_true z,if_pos z]
    exact set_shr (aV (k:=.shr) (fr:=true) (i:=0) (k':=.shr) (fr':=true) (j:=s) rfl rfl rfl)
  · rw[decide_eq_false z,if_neg z];rfl
 generalize (if p.getD j 0<p.getD k 0 then 0-s else s)=s' at *
 have e2:∃ f3',ifS (bT (eqE (bD (vE 2) (vE 6)) (bD (vE 2) (vE 5)))) (aO 3 (cE (.int 0))) eC (gE a0 a1 x7 f2 p f3 m s' (some ⟨.shr,f5,.int j⟩) (some ⟨.shr,f6,.int k⟩))=.nx (gE a0 a1 x7 f2 p f3' (if p.getD k 0=p.getD j 0 then 0 else m) s' (some ⟨.shr,f5,.int j⟩) (some ⟨.shr,f6,.int k⟩)):=by
  rw[nP (iD (wD (i6 s') (i5 s')))];by_cases z:p.getD k 0=p.getD j 0
  · rw[decide_eq_true z,if_pos z];exact⟨true,rfl⟩
  · rw[decide_eq_false z,if_neg z];exact⟨f3,rfl⟩
 obtain⟨f3',e2⟩:=e2;exact⟨f3',(aM e1).trans e2⟩
theorem aOv (j:Nat)(hj:j<p.length)(hz:p.length<1000)(f3 f5:Bool)(x6:Option Res):∃ f3' x6',
 cB (cV (vE 5)) (.nm 6) aBi (gE a0 a1 x7 f2 p f3 (nm ((p.take j).Nodup) n) (sgn (jV p j)) (some ⟨.shr,f5,.int j⟩) x6)=.nx (gE a0 a1 x7 f2 p f3' (nm ((p.take (j+1)).Nodup) n) (sgn (jV p (j+1))) (some ⟨.shr,f5,.int j⟩) x6'):=by
 obtain⟨ρ',l1,f3',x6',l2⟩:=jZ (tg:=.nm 6) (b:=aBi) (fr:=true) (inj:=fun k=>.int (k:Int))
  (E:=fun k ρ=>∃ f3' x6',ρ=gE a0 a1 x7 f2 p f3' (nm ((p.take j).Nodup/\p.getD j 0∉p.take k) n) (sgn (jV p j+((p.take k).filter fun b=>decide (p.getD j 0<b)).length)) (some ⟨.shr,f5,.int j⟩) x6') j 0 (gE a0 a1 x7 f2 p f3 (nm ((p.take j).Nodup) n) (sgn (jV p j)) (some ⟨.shr,f5,.int j⟩) x6) ⟨f3,x6,by simp[nm]⟩ fun k _ hk ρ ⟨f3',x6',e⟩=>by
   subst e;obtain⟨f4,eb⟩:=aO6 a0 a1 x7 f2 p j k hj (by omega) f3' f5 true (nm ((p.take j).Nodup/\p.getD j 0∉p.take k) n) (sgn (jV p j+((p.take k).filter fun b=>decide (p.getD j 0<b)).length))
   refine⟨_,_,rfl,eb,f4,some ⟨.shr,true,.int (k:Int)⟩,?_⟩
   have hkp:k<p.length:=by omega
   have e1:(if p.getD k 0=p.getD j 0 then 0 else nm ((p.take j).Nodup/\p.getD j 0∉p.take k) n)=nm ((p.take j).Nodup/\p.getD j 0∉p.take (k+1)) n:=by
    unfold nm;have m:=aKw p k hkp (p.getD j 0);by_cases z:p.getD k 0=p.getD j 0
    · rw[if_pos z,if_neg fun w=>w.2 (m.mpr (.inr z.symm))]
    · rw[if_neg z]
      by_cases w:(p.take j).Nodup/\p.getD j 0∉p.take k
      · rw[if_pos w,if_pos ⟨w.1,fun q=>(m.mp q).elim w.2 fun q=>z q.symm⟩]
      · rw[if_neg w,if_neg fun q=>w ⟨q.1,fun q'=>q.2 (m.mpr (.inl q'))⟩]
   have e2:(if p.getD j 0<p.getD k 0 then 0-sgn (jV p j+((p.take k).filter fun b=>decide (p.getD j 0<b)).length) else sgn (jV p j+((p.take k).filter fun b=>decide (p.getD j 0<b)).length))=sgn (jV p j+((p.take (k+1)).filter fun b=>decide (p.getD j 0<b)).length):=by
    rw[aHv p _ k hkp];by_cases z:p.getD j 0<p.getD k 0
    · rw[if_pos z,decide_eq_true z,if_pos rfl,←Nat.add_assoc,aIz]
    · rw[if_neg z,decide_eq_false z,if_neg (by decide),Nat.add_zero]
   rw[e1,e2]
 rw[Cv]at l2;refine⟨f3',x6',?_⟩
 refine(eB (fr:=true) (ds:=(Ao j).map fun (i:Nat)=>.int (i:Int)) (jS (k:=.shr) (fr:=f5||(D.int (j:Int)).imm) rfl (by omega))).trans ?_
 rw[Cz,l1,l2]
 have e3:nm ((p.take j).Nodup/\p.getD j 0∉p.take j) n=nm ((p.take (j+1)).Nodup) n:=by
  unfold nm;by_cases z:(p.take (j+1)).Nodup
  · rw[if_pos z,if_pos ((vG p j hj).mp z)]
  · rw[if_neg z,if_neg fun w=>z ((vG p j hj).mpr w)]
 rw[e3];rfl
end Sm
namespace Sm
open PySem L2 Mir Srt
theorem aK5 (a0 a1 x7:Option Res)(f2:Bool)(p:List Int)(n:Int)(hz:p.length<1000)(f3:Bool)(x5 x6:Option Res):∃ f3' x5' x6',
 cB (cV (bX (vE 2))) (.nm 5) (cB (cV (vE 5)) (.nm 6) aBi) (gE a0 a1 x7 f2 p f3 n 1 x5 x6)=.nx (gE a0 a1 x7 f2 p f3' (nm (p.Nodup) n) (sgn (inv p)) x5' x6'):=by
 obtain⟨ρ',l1,f3',x5',x6',l2⟩:=jZ (tg:=.nm 5) (b:=cB (cV (vE 5)) (.nm 6) aBi) (fr:=true) (inj:=fun k=>.int (k:Int))
  (E:=fun j ρ=>∃ f3' x5' x6',ρ=gE a0 a1 x7 f2 p f3' (nm ((p.take j).Nodup) n) (sgn (jV p j)) x5' x6') p.length 0 (gE a0 a1 x7 f2 p f3 n 1 x5 x6) ⟨f3,x5,x6,by simp[nm,jV,sgn]⟩ fun j _ hj ρ ⟨f3',x5',x6',e⟩=>by
   subst e;obtain⟨f4,y6,eb⟩:=aOv a0 a1 x7 f2 p n j (by omega) hz f3' true x6'
   exact⟨_,_,rfl,eb,f4,some ⟨.shr,true,.int (j:Int)⟩,y6,rfl⟩
 rw[Cv]at l2;refine⟨f3',x5',x6',?_⟩
 have e0:bX (vE 2) (gE a0 a1 x7 f2 p f3 n 1 x5 x6)=.ok ⟨.shr,true,.int (p.length:Nat)⟩:=by
  refine(aFt (k:=.shr) (fr:=f2||(D.tup (li p)).imm) (ds:=li p) rfl).trans ?_
  rw[Ac];rfl
 refine(eB (fr:=true) (ds:=(Ao p.length).map fun (i:Nat)=>.int (i:Int)) (jS e0 (by omega))).trans ?_
 rw[Cz,l1,l2,Gn];rfl
theorem aQ1 (t:Tm):val t=sgn (inv t.1)*nm (t.1.Nodup) t.2:=by
 unfold val nm;split
 · rfl
 · rw[Eu]
theorem aVt (b:Prop)[Decidable b](n:Int):(nm b n).natAbs<=n.natAbs:=by
 unfold nm;split
 · exact Af _
 · exact Cc _
theorem aIe (a0 x4 x5 x6 x7:Option Res)(A:List Tm)(t:Tm)(h1:t.1.length<64)(h2:t.2.natAbs<2^1000)(hA:A.length<sizeLine)(f2 f3:Bool):∃ y3 y4 y5 y6 y7,
 aF4 [a0,some ⟨.own,true,dK A⟩,some ⟨.shr,f2,.tup (li t.1)⟩,some ⟨.shr,f3,.int t.2⟩,x4,x5,x6,x7]=.nx [a0,some ⟨.own,true,dK (step A t)⟩,some ⟨.shr,f2,.tup (li t.1)⟩,y3,y4,y5,y6,y7]:=by
 have e1:aO 4 (cE (.int 1)) [a0,some ⟨.own,true,dK A⟩,some ⟨.shr,f2,.tup (li t.1)⟩,some ⟨.shr,f3,.int t.2⟩,x4,x5,x6,x7]=.nx (gE a0 (some ⟨.own,true,dK A⟩) x7 f2 t.1 f3 t.2 1 x5 x6):=rfl;obtain⟨f3',y5,y6,e2⟩:=aK5 a0 (some ⟨.own,true,dK A⟩) x7 f2 t.1 t.2 (by omega) f3 x5 x6
 have e3:aO 7 (nK (pP (vE 2))) (gE a0 (some ⟨.own,true,dK A⟩) x7 f2 t.1 f3' (nm (t.1.Nodup) t.2) (sgn (inv t.1)) y5 y6)=.nx (gE a0 (some ⟨.own,true,dK A⟩) (some ⟨.shr,true,.tup (li (key t))⟩) f2 t.1 f3' (nm (t.1.Nodup) t.2) (sgn (inv t.1)) y5 y6) :=
  set_shr (vV (aE2 (k:=.shr) (fr:=f2||(D.tup (li t.1)).imm) rfl h1))
 obtain⟨f8,e4⟩:=aEo (a:=vE 1) (k:=vE 7) (x:=cE (.int 0)) (ρ:=gE a0 (some ⟨.own,true,dK A⟩) (some ⟨.shr,true,.tup (li (key t))⟩) f2 t.1 f3' (nm (t.1.Nodup) t.2) (sgn (inv t.1)) y5 y6) (A:=A) (q:=key t) (kd:=.own) (kd':=.shr) (kd'':=.shr) (fr:=true) (fr':=true) (fr'':=true) rfl rfl rfl;have b1:(sgn (inv t.1)).natAbs<=1:=by rcases vW (inv t.1) with z | z<;>rw[z]<;>decide
 have e5:cH (pD (vE 1) (vE 7) (cE (.int 0))) (bN (vE 4) (vE 3)) (gE a0 (some ⟨.own,true,dK A⟩) (some ⟨.shr,true,.tup (li (key t))⟩) f2 t.1 f3' (nm (t.1.Nodup) t.2) (sgn (inv t.1)) y5 y6)=.ok ⟨.shr,true,.int (look A (key t)+val t)⟩:=by
  rw[aQ1];exact aV e4 (aV (k:=.shr) (fr:=true) (k':=.shr) (fr':=f3'||(D.int (nm (t.1.Nodup) t.2)).imm) rfl rfl (eP (small (M:=1) (gG (by decide)) b1) (Cy (aVt _ _) h2))) rfl
 have e6:=aF7 (fr:=true) (i:=1) (k:=vE 7) (ρ:=gE a0 (some ⟨.own,true,dK A⟩) (some ⟨.shr,true,.tup (li (key t))⟩) f2 t.1 f3' (nm (t.1.Nodup) t.2) (sgn (inv t.1)) y5 y6) (A:=A) (q:=key t) (kd':=.shr) (fr':=true) rfl e5 (by decide) rfl hA
 exact⟨_,_,_,_,_,(aM e1).trans ((aM e2).trans ((aM e3).trans e6))⟩
theorem xH:∀ A:List Tm,gI (A.map mkP)=.ok A
 | []=>rfl
 | t :: A=>by
  have e:asP (mkP t)=.ok t:=by
   show (dG (li t.1) >>= fun k=>.ok (k,t.2))=.ok t
   rw[iV];rfl
  simp only[Ap,gI,e,xH A,R.ok_bind]
theorem aI2 (A:List Tm):itD (A.map (·.1)) (A.map (·.2))=A.map mkP:=by
 unfold itD;congr 1
 induction A with
 | nil=>rfl
 | cons t A ih=>simp only[Ap,Fd,ih]
theorem aJb (p:List Int):(D.tup (li p)).imm=true:=sQ p
theorem aEb {ts:List Tm}(F:Fit ts):cG 1 8 aKj [.lst (ts.map mkP)]=.ok ⟨.tmp,true,.lst ((aN ts).map mkP)⟩:=by
 have e1:aO 1 wZ [some ⟨.shr,false,.lst (ts.map mkP)⟩,none,none,none,none,none,none,none]=.nx [some ⟨.shr,false,.lst (ts.map mkP)⟩,some ⟨.own,true,dK []⟩,none,none,none,none,none,none]:=rfl
 obtain⟨ρ',l1,x2,x3,x4,x5,x6,x7,l3⟩:=sG (tg:=.tp [.nm 2,.nm 3]) (b:=aF4) (fr:=false)
  (E:=fun A ρ=>∃ x2 x3 x4 x5 x6 x7,ρ=[some ⟨.shr,false,.lst (ts.map mkP)⟩,some ⟨.own,true,dK A⟩,x2,x3,x4,x5,x6,x7]) ts [] [some ⟨.shr,false,.lst (ts.map mkP)⟩,some ⟨.own,true,dK []⟩,none,none,none,none,none,none] (by simpa using F.ln) ⟨none,none,none,none,none,none,rfl⟩ fun t ht A ρ hA ⟨x2,x3,x4,x5,x6,x7,e⟩=>by
   subst e;obtain⟨y3,y4,y5,y6,y7,eb⟩:=aIe (some ⟨.shr,false,.lst (ts.map mkP)⟩) x4 x5 x6 x7 A t (F.pl t ht) (F.nb t ht) (by rw[sizeLine_eq];omega) false false
   exact⟨[some ⟨.shr,false,.lst (ts.map mkP)⟩,some ⟨.own,true,dK A⟩,some ⟨.shr,false,.tup (li t.1)⟩,some ⟨.shr,false,.int t.2⟩,x4,x5,x6,x7],_,rfl,eb,_,_,_,_,_,_,rfl⟩
 have e2:cB (cW (vE 0)) (.tp [.nm 2,.nm 3]) aF4 [some ⟨.shr,false,.lst (ts.map mkP)⟩,some ⟨.own,true,dK []⟩,none,none,none,none,none,none]=.nx [some ⟨.shr,false,.lst (ts.map mkP)⟩,some ⟨.own,true,dK (acc [] ts)⟩,x2,x3,x4,x5,x6,x7]:=by
  refine(eB (fr:=false) (ds:=ts.map mkP) rfl).trans ?_
  rw[←l3];exact l1
 have hks:=F.ks;unfold aN;generalize acc [] ts=A at *
 have e3:aEg (vE 1) 2 (.tp [.nm 0,.nm 1]) (Mir.bIf (bT (neE (vE 1) (cE (.int 0)))) (dH [vE 0,vE 1])) [some ⟨.shr,false,.lst (ts.map mkP)⟩,some ⟨.own,true,dK A⟩,x2,x3,x4,x5,x6,x7]=.ok ⟨.tmp,true,.lst ((A.filter fun p=>p.2 != 0).map mkP)⟩:=by
  have c1:lQ (.tp [.nm 0,.nm 1]) (Mir.bIf (bT (neE (vE 1) (cE (.int 0)))) (dH [vE 0,vE 1])) false (Dw 2 none) (A.map mkP)=.ok (true,(A.filter fun p=>p.2 != 0).map mkP):=by
   refine sB A fun t _=>⟨[some ⟨.shr,false,.tup (li t.1)⟩,some ⟨.shr,false,.int t.2⟩],.shr,rfl,?_,by decide⟩
   refine aA5 (r:=⟨.shr,true,mkP t⟩) (c:=t.2 != 0) (iD (aBf (k:=.shr) (fr:=true) (i:=t.2) (k':=.shr) (fr':=true) (j:=0) rfl rfl)) fun _=>?_
   have v0:vE 0 [some ⟨.shr,false,.tup (li t.1)⟩,some ⟨.shr,false,.int t.2⟩]=.ok ⟨.shr,true,.tup (li t.1)⟩:=by
    show R.ok (⟨.shr,false||(D.tup (li t.1)).imm,.tup (li t.1)⟩:Res)=_
    rw[aJb];rfl
   exact gX (k':=.shr) (fr':=true) (d':=.int t.2) v0 rfl (by decide) (by decide)
  have i1:dG (A.map fun p=>D.int p.2)=.ok (A.map (·.2)):=by
   have:=iV (A.map (·.2))
   rwa [show li (A.map (·.2))=A.map fun p=>D.int p.2 by simp[li]]at this
  have hz:(A.map (·.1)).length<=sizeLine/\(true,(A.filter fun p=>p.2 != 0).map mkP).1=true:=⟨by rw[Ac,sizeLine_eq];omega,rfl⟩
  have v1:vE 1 [some ⟨.shr,false,.lst (ts.map mkP)⟩,some ⟨.own,true,dK A⟩,x2,x3,x4,x5,x6,x7]=.ok ⟨.own,true,.dct (A.map (·.1)) (A.map fun p=>.int p.2)⟩:=rfl;simp only[aEg,v1,R.ok_bind,i1,aI2,c1];exact if_pos ⟨hz.1,trivial⟩
 have hl:(A.filter fun p=>p.2 != 0).length<64:=Cy (List.length_filter_le _ _) hks
 have e4:aB8 (aEg (vE 1) 2 (.tp [.nm 0,.nm 1]) (Mir.bIf (bT (neE (vE 1) (cE (.int 0)))) (dH [vE 0,vE 1]))) [some ⟨.shr,false,.lst (ts.map mkP)⟩,some ⟨.own,true,dK A⟩,x2,x3,x4,x5,x6,x7]=.ok ⟨.tmp,true,.lst ((rC A).map mkP)⟩:=by
  simp only[aB8,e3,R.ok_bind,asL,xH];exact if_pos hl
 have e:aKj [some ⟨.shr,false,.lst (ts.map mkP)⟩,none,none,none,none,none,none,none]=.rt ⟨.tmp,true,.lst ((rC A).map mkP)⟩:=(aM e1).trans ((aM e2).trans (iS e4));exact(cJ rfl e).trans rfl
end Sm
namespace Sm
open PySem L2 Mir Srt
theorem vH:∀ {l m:List Nat},l.Nodup->(∀ x∈l,x∈m)->l.length<=m.length
 | [],m,_,_=>Cc _
 | a :: l,m,h,s=>by
  obtain⟨h1,h2⟩:=Cu.mp h;have ha:=s a Ab;have:=vH (l:=l) (m:=m.erase a) h2 fun x hx=>(List.mem_erase_of_ne (fun z:x=a=>h1 (by rw[←z];exact hx))).mpr (s x (Ad _ hx))
  rw[List.length_erase_of_mem ha]at this;have:=List.length_pos_of_mem ha
  rw[As];omega
def code (k:List Int):Nat:=k.count 0+3*k.count 1+9*k.count 2+27*k.count 3+81*k.count 4
def aRx (n:Nat):Nat:=n%3+n/3%3+n/9%3+n/27%3+n/81%3
theorem aH7:∀ T,T<=10->((Ao 243).filter fun n=>aRx n==T).length<=51:=by decide +kernel
theorem aG4:∀ a,a<3->∀ b,b<3->∀ c,c<3->∀ d,d<3->∀ e,e<3->aRx (a+3*b+9*c+27*d+81*e)=a+b+c+d+e:=by decide +kernel
theorem mI:∀ (k:List Int),(∀ x∈k,0<=x/\x<5)->k.length=k.count 0+k.count 1+k.count 2+k.count 3+k.count 4
 | [],_=>rfl
 | x :: k,h=>by
  have ih:=mI k fun y hy=>h y (Ad _ hy);obtain⟨a,b⟩:=h x Ab;have hx:x=0\/x=1\/x=2\/x=3\/x=4:=by omega
  rcases hx with e | e | e | e | e<;>subst e<;>simp[List.count_cons,ih]<;>omega
theorem aC4 {ks:List (List Int)}{T:Nat}(nd:ks.Nodup)(hs:∀ k∈ks,k=srt ix k)(rg:∀ k∈ks,∀ x∈k,0<=x/\x<5)(c2:∀ k∈ks,∀ x,k.count x<=2)(ln:∀ k∈ks,k.length=T):ks.length<=51:=by
 by_cases hT:T<=10
 · have inj:(ks.map code).Nodup:=by
    show List.Pairwise (fun a b=>a≠b) (ks.map code)
    rw[Co];refine Fb (fun {a b} ha hb n e=>n ?_) nd
    have a0:=c2 a ha 0;have a1:=c2 a ha 1;have a2:=c2 a ha 2;have a3:=c2 a ha 3;have a4:=c2 a ha 4;have b0:=c2 b hb 0;have b1:=c2 b hb 1;have b2:=c2 b hb 2;have b3:=c2 b hb 3;have b4:=c2 b hb 4;unfold code at e;have q0:a.count 0=b.count 0:=by omega
    have q1:a.count 1=b.count 1:=by omega
    have q2:a.count 2=b.count 2:=by omega
    have q3:a.count 3=b.count 3:=by omega
    have q4:a.count 4=b.count 4:=by omega
    have pm:a.Perm b:=by
     rw[Fz];intro x;by_cases hx:0<=x/\x<5
     · have hx:x=0\/x=1\/x=2\/x=3\/x=4:=by omega
       rcases hx with e | e | e | e | e<;>subst e<;>assumption
     · rw[Cp fun m=>hx (rg a ha x m),Cp fun m=>hx (rg b hb x m)]
    rw[hs a ha,hs b hb];exact gJ eQ ((dQ a).trans pm) (gM eQ a)
   have sub:∀ n∈ks.map code,n∈(Ao 243).filter fun n=>aRx n==T:=by
    intro n hn;obtain⟨k,hk,rfl⟩:=Ak.mp hn;have a0:=c2 k hk 0;have a1:=c2 k hk 1;have a2:=c2 k hk 2;have a3:=c2 k hk 3;have a4:=c2 k hk 4;have s:=mI k (rg k hk);rw[ln k hk]at s;rw[Ds,Bi,beq_iff_eq];unfold code;rw[aG4 _ (by omega) _ (by omega) _ (by omega) _ (by omega) _ (by omega)]
    omega
   have:=vH inj sub
   rw[Ac]at this;exact Ah this (aH7 T hT)
 · cases ks with
   | nil=>exact Cc _
   | cons k r =>
    have a0:=c2 k Ab 0;have a1:=c2 k Ab 1;have a2:=c2 k Ab 2;have a3:=c2 k Ab 3;have a4:=c2 k Ab 4;have s:=mI k (rg k Ab);rw[ln k Ab]at s;omega
end Sm
namespace Sm
open PySem L2 Mir Srt
structure Sum (L:Nat)(ts:List Tm):Prop where
 ln:ts.length<=20
 hL:L<=20
 sz:∀ t∈ts,t.1.length=L
 rg:∀ t∈ts,∀ x∈t.1,0<=x/\x<5
 nd:∀ t∈ts,t.1.Nodup
 nb:∀ t∈ts,t.2.natAbs<=2^240
theorem jJ {A:List Tm}{p:Tm}(h:p∈rC A):p∈A/\p.2≠0:=by
 have:=(dQ (r:=px) (A.filter fun p=>p.2 != 0)).mem_iff.mp h
 obtain⟨a,b⟩:=Ds.mp this;exact⟨a,by simpa using b⟩
theorem aM2 (A:List Tm):(rC A).length<=A.length:=by
 unfold rC;rw[aBd];exact List.length_filter_le _ _
theorem eE (t:Tm):(key t).Perm t.1:=dQ _
theorem aSc {ts:List Tm}{L:Nat}(hL:L<=20)(ln:ts.length<=20)(sz:∀ t∈ts,t.1.length=L)(rg:∀ t∈ts,∀ x∈t.1,0<=x/\x<5)(nd:∀ t∈ts,t.1.Nodup)(nb:∀ t∈ts,t.2.natAbs<=2^31):Sum L (aN ts):=by
 have jL:∀ p∈aN ts,∃ t∈ts,p.1=key t:=fun p hp=>by
  rcases mO ts [] (Ew (jJ hp).1) with z | z
  · cases z
  · exact z
 refine⟨?_,hL,fun p hp=>?_,fun p hp x hx=>?_,fun p hp=>?_,fun p hp=>?_⟩
 · have h1:=aM2 (acc [] ts)
   have h2:=mS ts [];simp only[Bp]at h2;show (rC (acc [] ts)).length<=20
   omega
 · obtain⟨t,ht,e⟩:=jL p hp
   rw[e,rH];exact sz t ht
 · obtain⟨t,ht,e⟩:=jL p hp
   rw[e]at hx;exact rg t ht x ((eE t).mem_iff.mp hx)
 · obtain⟨t,ht,e⟩:=jL p hp
   rw[e];exact(eE t).nodup_iff.mpr (nd t ht)
 · have:=aAn ts [] (M:=0) (fun _ h=>nomatch h) nb p (jJ hp).1
   have h2:ts.length*2^31<=20*2^31:=Fq _ ln;omega
theorem iI {n:Nat}(h:n<=2^900):n<2^1000:=Cy h (Nat.pow_lt_pow_right (by decide) (by decide))
theorem Sum.fit2 {L:Nat}{a b:List Tm}(ha:Sum L a)(hb:Sum L b):Fit (a++b):=by
 have hl:=ha.hL;have l1:=ha.ln;have l2:=hb.ln;have both:∀ {Q:Tm->Prop},(∀ t∈a,Q t)->(∀ t∈b,Q t)->∀ t∈a++b,Q t:=fun h1 h2 t ht=>(Bf.mp ht).elim (h1 t) (h2 t);have h3:=mS (a++b) [];rw[Ai,Bp]at h3;refine⟨both (fun t ht=>by rw[ha.sz t ht];omega) (fun t ht=>by rw[hb.sz t ht];omega),both (fun t ht=>iI (Ah (ha.nb t ht) (Ar (by decide) (by decide)))) (fun t ht=>iI (Ah (hb.nb t ht) (Ar (by decide) (by decide)))),by omega,⟨L,both ha.sz hb.sz⟩,by rw[Ai];omega⟩
def jP (a:List Tm)(k:Int):List Tm:=a.map fun t=>(t.1,t.2*k)
theorem Sum.fitT {L:Nat}{a:List Tm}(ha:Sum L a){k:Int}(hk:k.natAbs<=2^80):Fit (jP a k):=by
 have hl:=ha.hL;have l1:=ha.ln;have ll:(jP a k).length=a.length:=Ac _
 have mem:∀ t∈jP a k,∃ u∈a,t=(u.1,u.2*k):=fun t ht=>by
  obtain⟨u,hu,e⟩:=Ak.mp ht;exact⟨u,hu,e.symm⟩
 have h3:=mS (jP a k) [];rw[Bp,ll]at h3;refine⟨fun t ht=>?_,fun t ht=>?_,by omega,⟨L,fun t ht=>?_⟩,by omega⟩
 · obtain⟨u,hu,rfl⟩:=mem t ht
   show u.1.length<64
   rw[ha.sz u hu];omega
 · obtain⟨u,hu,rfl⟩:=mem t ht
   refine iI ?_
   show (u.2*k).natAbs<=_
   rw[Ct];exact Ah (Bg (ha.nb u hu) hk) (by rw[←Fe];exact Ar (by decide) (by decide))
 · obtain⟨u,hu,rfl⟩:=mem t ht
   exact ha.sz u hu
def bI (a b:List Tm):List Tm:=a.flatMap fun s=>b.map fun t=>(s.1++t.1,s.2*t.2)
theorem Sum.fitP {L K:Nat}{a b:List Tm}(ha:Sum L a)(hb:Sum K b):Fit (bI a b):=by
 have hl:=ha.hL;have hk:=hb.hL;have l1:=ha.ln;have l2:=hb.ln
 have mem:∀ t∈bI a b,∃ u∈a,∃ v∈b,t=(u.1++v.1,u.2*v.2):=fun t ht=>by
  obtain⟨u,hu,h⟩:=Bz.mp ht;obtain⟨v,hv,e⟩:=Ak.mp h;exact⟨u,hu,v,hv,e.symm⟩
 have szs:∀ t∈bI a b,t.1.length=L+K:=fun t ht=>by
  obtain⟨u,hu,v,hv,rfl⟩:=mem t ht;rw[Ai,ha.sz u hu,hb.sz v hv]
 have lnn:(bI a b).length<=400:=by
  have:∀ c:List Tm,(c.flatMap fun s=>b.map fun t=>(s.1++t.1,s.2*t.2)).length=c.length*b.length:=by
   intro c;induction c with
   | nil=>simp
   | cons x c ih=>rw[Fi,Ai,ih,Ac,As,Et,Nat.add_comm]
  show (a.flatMap fun s=>b.map fun t=>(s.1++t.1,s.2*t.2)).length<=400
  rw[this a];exact Ah (Bg l1 l2) (by decide)
 refine⟨fun t ht=>by rw[szs t ht];omega,fun t ht=>?_,?_,⟨L+K,szs⟩,by omega⟩
 · obtain⟨u,hu,v,hv,rfl⟩:=mem t ht
   refine iI ?_
   show (u.2*v.2).natAbs<=_
   rw[Ct];exact Ah (Bg (ha.nb u hu) (hb.nb v hv)) (by rw[←Fe];exact Ar (by decide) (by decide))
 · have of:∀ k∈(acc [] (bI a b)).map (·.1),∃ u∈a,∃ v∈b,k.Perm (u.1++v.1)/\k=srt ix k/\k.length=L+K:=fun k hk=>by
    rcases mO (bI a b) [] hk with z | ⟨t,ht,e⟩
    · cases z
    · obtain⟨u,hu,v,hv,et⟩:=mem t ht
      refine⟨u,hu,v,hv,?_,?_,?_⟩
      · rw[e];have:=eE t;rw[et]at this ⊢;exact this
      · rw[e];exact gJ eQ (Ck _) (gM eQ _)
      · rw[e,rH];exact szs t ht
   have:=aC4 (ks:=(acc [] (bI a b)).map (·.1)) (T:=L+K) (iO _ [] Cl) (fun k hk=>let ⟨_,_,_,_,_,h,_⟩:=of k hk;h) (fun k hk x hx=>by
    obtain⟨u,hu,v,hv,p,_⟩:=of k hk;rcases Bf.mp (p.mem_iff.mp hx) with z | z
    · exact ha.rg u hu x z
    · exact hb.rg v hv x z) (fun k hk x=>by
    obtain⟨u,hu,v,hv,p,_⟩:=of k hk;rw[p.count_eq,List.count_append];have c1:=Dj.mp (ha.nd u hu) x;have c2:=Dj.mp (hb.nd v hv) x
    omega) fun k hk=>let ⟨_,_,_,_,_,_,h⟩:=of k hk;h
   rw[Ac]at this;omega
end Sm
namespace Sm
open PySem L2 Mir Srt
theorem nE {p:List Int}(h:p.Pairwise fun a b=>ix b a=false):inv p=0:=by
 have go:∀ j,j<=p.length->jV p j=0:=by
  intro j;induction j with
  | zero=>intro _;rfl
  | succ j ih =>
   intro hj;have hlt:j<p.length:=by omega
   show jV p j+_=0
   rw[ih (by omega),Cv,Be,List.filter_eq_nil_iff]
   intro b hb;obtain⟨i,hi,e⟩:=List.mem_iff_getElem.mp hb;have hi':i<j:=by rw[Ca]at hi;omega
   have q:=(List.pairwise_iff_getElem.mp h) i j (by omega) hlt hi'
   have e2:b=p[i]:=by rw[←e];simp
   have e3:p.getD j 0=p[j]:=by simp[hlt]
   rw[e2,e3];unfold ix at q;simpa using q
 exact go p.length (Af _)
structure Told (S:List Tm):Prop where
 up:∀ t∈S,t.1.Pairwise fun a b=>ix b a=false
 nd:∀ t∈S,t.1.Nodup
 ks:(S.map (·.1)).Nodup
 nz:∀ t∈S,t.2≠0
 so:S.Pairwise fun a b=>px b a=false
theorem Told.val {S:List Tm}(h:Told S){t:Tm}(ht:t∈S):val t=t.2:=by
 unfold Sm.val;rw[if_pos (h.nd t ht),nE (h.up t ht)];show (1-2*((0:Int)%2))*t.2=t.2
 omega
theorem Told.key {S:List Tm}(h:Told S){t:Tm}(ht:t∈S):key t=t.1:=(gJ eQ (Ck _) (h.up t ht)).symm
theorem aDj {S:List Tm}(h:Told S):∀ (T B:List Tm),(∀ t∈T,t∈S)->(((B++T).map (·.1)).Nodup)->acc B T=B++T
 | [],B,_,_=>by simp[acc]
 | t :: T,B,hs,nd=>by
  have ht:=hs t Ab
  have nm:t.1∉B.map (·.1):=by
   rw[Bk,Dc]at nd;intro m;exact nd.2.2 t.1 m t.1 (by simp) rfl
  have e:step B t=B++[t]:=by
   unfold step;rw[h.key ht,jX nm,h.val ht,Gr];unfold put;rw[if_neg nm]
  show acc (step B t) T=_
  rw[e,aDj h T (B++[t]) (fun u hu=>hs u (Ad _ hu)) (by simpa using nd)]
  simp
theorem Told.same {S:List Tm}(h:Told S):aN S=S:=by
 unfold aN;rw[aDj h S [] (fun _ z=>z) (by simpa using h.ks),Dh]
 unfold rC;have e:S.filter (fun p=>p.2 != 0)=S:=Ga.mpr fun t ht=>by simpa using h.nz t ht
 rw[e];exact(gJ lJ (Ck _) h.so).symm
theorem aKg {ts:List Tm}(nd:∀ t∈ts,t.1.Nodup):Told (aN ts):=by
 have jL:∀ p∈aN ts,∃ t∈ts,p.1=key t:=fun p hp=>by
  rcases mO ts [] (Ew (jJ hp).1) with z | z
  · cases z
  · exact z
 refine⟨fun p hp=>?_,fun p hp=>?_,?_,fun p hp=>(jJ hp).2,gM lJ _⟩
 · obtain⟨t,ht,e⟩:=jL p hp
   rw[e];exact gM eQ _
 · obtain⟨t,ht,e⟩:=jL p hp
   rw[e];exact(eE t).nodup_iff.mpr (nd t ht)
 · have n1:=iO ts [] Cl
   unfold aN rC;have pm:=(dQ (r:=px) ((acc [] ts).filter fun p=>p.2 != 0)).map (·.1);rw[pm.nodup_iff];exact List.Nodup.sublist ((Ex).map _) n1
theorem aKz:Told []:=by
 refine⟨?_,?_,Cl,?_,Dg⟩<;>intro t h<;>cases h
theorem aCj (S:List Tm):bI [([],1)] S=S:=by
 unfold bI;rw[Fi,List.flatMap_nil,Bt];have:∀ t∈S,(([]:List Int)++t.1,(1:Int)*t.2)=t:=fun t _=>by rw[Dh,Ef]
 exact(Bq this).trans (List.map_id' _)
theorem aMk:Sum 0 [([],1)]:=by
 refine⟨by decide,by decide,?_,?_,?_,?_⟩<;>intro t ht<;>rw[Aq.mp ht]
 · rfl
 · intro x hx;cases hx
 · exact Cl
 · decide
theorem aGn {L:Nat}(h:L<=20):Sum L []:=by
 refine⟨by decide,h,?_,?_,?_,?_⟩<;>intro t ht<;>cases ht
end Sm
namespace Sm
open Srt
theorem aA3 (a b:Nat):sgn (a+b)=sgn a*sgn b:=by
 unfold sgn;have ha:a%2=0\/a%2=1:=by omega
 have hb:b%2=0\/b%2=1:=by omega
 rcases ha with ha | ha<;>rcases hb with hb | hb
 · rw[show ((a:Int)%2)=0 by omega,show ((b:Int)%2)=0 by omega,show (((a+b:Nat):Int)%2)=0 by omega];decide
 · rw[show ((a:Int)%2)=0 by omega,show ((b:Int)%2)=1 by omega,show (((a+b:Nat):Int)%2)=1 by omega];decide
 · rw[show ((a:Int)%2)=1 by omega,show ((b:Int)%2)=0 by omega,show (((a+b:Nat):Int)%2)=1 by omega];decide
 · rw[show ((a:Int)%2)=1 by omega,show ((b:Int)%2)=1 by omega,show (((a+b:Nat):Int)%2)=0 by omega];decide
theorem aC0:sgn 0=1:=rfl
def ovr (b:Int)(p:List Int):Nat:=(p.filter fun a=>decide (b<a)).length
def cS (p:List Int):List Int->Nat
 | []=>0
 | b :: q=>ovr b p+cS p q
theorem aGt (b:Int)(p q:List Int):ovr b (p++q)=ovr b p+ovr b q:=by
 unfold ovr;rw[List.filter_append,Ai]
theorem aJt {b:Int}{p q:List Int}(h:p.Perm q):ovr b p=ovr b q:=(h.filter _).length_eq
theorem aB0 (p q r:List Int):cS p (q++r)=cS p q+cS p r:=by
 induction q with
 | nil=>simp[cS]
 | cons b q ih=>simp only[Ed,cS,ih];omega
theorem aCv (p q r:List Int):cS (p++q) r=cS p r+cS q r:=by
 induction r with
 | nil=>rfl
 | cons b r ih=>simp only[cS,ih,aGt];omega
theorem qO {p p':List Int}(h:p.Perm p'):∀ q,cS p q=cS p' q
 | []=>rfl
 | b :: q=>by simp only[cS,aJt h,qO h q]
theorem aA7 {q q':List Int}(h:q.Perm q')(p:List Int):cS p q=cS p q':=by
 induction h with
 | nil=>rfl
 | cons x _ ih=>simp only[cS,ih]
 | swap x y l=>simp only[cS];omega
 | trans _ _ i1 i2=>exact i1.trans i2
theorem aCi (p q:List Int):∀ j,j<=p.length->jV (p++q) j=jV p j
 | 0,_=>rfl
 | j+1,h=>by
  show jV (p++q) j+_=jV p j+_
  rw[aCi p q j (by omega),Fs (by omega)]
  have e:(p++q).getD j 0=p.getD j 0:=by
   rw[Al,Al,By (by omega)]
  rw[e]
theorem aCm (p:List Int)(x:Int):inv (p++[x])=inv p+ovr x p:=by
 unfold inv;rw[Ai,Bl];show jV (p++[x]) p.length+_=_
 rw[aCi p [x] p.length (Af _),Fs (Af _),Gn]
 have e:(p++[x]).getD p.length 0=x:=by
  rw[Al,Cn (Af _)];simp
 rw[e];rfl
theorem uM (p q:List Int):inv (p++q)=inv p+inv q+cS p q:=by
 have go:∀ n,∀ q:List Int,q.length=n->inv (p++q)=inv p+inv q+cS p q:=by
  intro n;induction n with
  | zero=>intro q h;rw[Be.mp h,Bt];rfl
  | succ n ih =>
   intro q h;have hq:q≠[]:=fun z=>by rw[z]at h;simp at h
   rw[←Cb hq];generalize q.getLast hq=x
   have hl:q.dropLast.length=n:=by rw[Dl];omega
   generalize q.dropLast=q' at hl
   rw[←Bv,aCm,aCm,ih q' hl,aGt,aB0];show _=_+(_+_)+(_+(ovr x p+cS p []))
   show _=_+(_+_)+(_+(ovr x p+0))
   omega
 exact go q.length q rfl
def xs (p q:List Int):Int:=if ∀ x∈p,x∉q then sgn (cS p q) else 0
theorem aP4 {p p' q q':List Int}(h1:p.Perm p')(h2:q.Perm q'):xs p q=xs p' q':=by
 unfold xs;rw[qO h1 q,aA7 h2 p']
 have e:(∀ x∈p,x∉q)↔∀ x∈p',x∉q':=by
  constructor
  · intro h x hx hq;exact h x (h1.mem_iff.mpr hx) (h2.mem_iff.mpr hq)
  · intro h x hx hq;exact h x (h1.mem_iff.mp hx) (h2.mem_iff.mp hq)
 by_cases z:∀ x∈p,x∉q
 · rw[if_pos z,if_pos (e.mp z)]
 · rw[if_neg z,if_neg fun w=>z (e.mpr w)]
theorem aEy {p q:List Int}:(p++q).Nodup↔p.Nodup/\q.Nodup/\∀ x∈p,x∉q:=by
 rw[Dc];constructor
 · exact fun⟨a,b,c⟩=>⟨a,b,fun x hx hq=>c x hx x hq rfl⟩
 · exact fun⟨a,b,c⟩=>⟨a,b,fun x hx y hy e=>c x hx (e▸hy)⟩
theorem aE5 (p q:List Int):trn (p++q)=trn p*trn q*xs p q:=by
 unfold trn xs;by_cases h:(p++q).Nodup
 · obtain⟨h1,h2,h3⟩:=aEy.mp h
   rw[if_pos h,if_pos h1,if_pos h2,if_pos h3,uM,aA3,aA3]
 · rw[if_neg h]
   by_cases h1:p.Nodup
   · by_cases h2:q.Nodup
     · by_cases h3:∀ x∈p,x∉q
       · exact absurd (aEy.mpr ⟨h1,h2,h3⟩) h
       · rw[if_neg h3,Eu]
     · rw[if_neg h2,Eu,Cq]
   · rw[if_neg h1,Cq,Cq]
theorem aKf (s t:Tm):val (s.1++t.1,s.2*t.2)=val s*val t*xs (key s) (key t):=by
 rw[iK,iK,iK,aP4 (eE s) (eE t)];show trn (s.1++t.1)*(s.2*t.2)=_
 rw[aE5];simp only[Bj,Dd,Cr]
theorem sY {p q:List Int}(h:p.Perm q):srt ix p=srt ix q:=gJ eQ ((dQ p).trans h) (gM eQ p)
theorem aI0 (s t:Tm)(n:Int):key (s.1++t.1,n)=srt ix (key s++key t):=sY ((eE s).symm.append (eE t).symm)
def lin (ts:List Tm)(g:List Int->Int):Int:=match ts with
 | []=>0
 | t :: ts=>val t*g (key t)+lin ts g
def gL (A:List Tm)(g:List Int->Int):Int:=match A with
 | []=>0
 | p :: A=>p.2*g p.1+gL A g
theorem aAm (a b:List Tm)(g:List Int->Int):lin (a++b) g=lin a g+lin b g:=by
 induction a with
 | nil=>simp[lin]
 | cons t a ih=>simp only[Ed,lin,ih];omega
theorem aKm (a b:List Tm)(g:List Int->Int):gL (a++b) g=gL a g+gL b g:=by
 induction a with
 | nil=>simp[gL]
 | cons t a ih=>simp only[Ed,gL,ih];omega
theorem aHo {a b:List Tm}(h:a.Perm b)(g:List Int->Int):gL a g=gL b g:=by
 induction h with
 | nil=>rfl
 | cons x _ ih=>simp only[gL,ih]
 | swap x y l=>simp only[gL];omega
 | trans _ _ i1 i2=>exact i1.trans i2
theorem aG9 (A:List Tm)(g:List Int->Int):gL (A.filter fun p=>p.2 != 0) g=gL A g:=by
 induction A with
 | nil=>rfl
 | cons p A ih =>
  by_cases z:p.2=0
  · rw[Dq (by simp[z]),ih];simp[gL,z]
  · rw[Do (by simp[z])];simp only[gL,ih]
theorem aI3 {g:List Int->Int}:∀ (A:List Tm) (k:List Int) (v:Int),(A.map (·.1)).Nodup->gL (put A k (look A k+v)) g=gL A g+v*g k:=by
 intro A k v nd;unfold put;by_cases m:k∈A.map (·.1)
 · rw[if_pos m]
   generalize hw:look A k+v=w
   have hv:v=w-look A k:=by omega
   subst hv;clear hw
   induction A with
   | nil=>cases m
   | cons p A ih =>
    obtain⟨n1,n2⟩:=Cu.mp (show (p.1 :: A.map (·.1)).Nodup from nd)
    by_cases z:p.1=k
    · have nk:k∉A.map (·.1):=fun q=>n1 (z▸q)
      have e:A.map (fun p=>if p.1=k then (p.1,w) else p)=A:=by
       have:∀ p∈A,(if p.1=k then (p.1,w) else p)=p:=fun q hq=>if_neg fun (h:q.1=k)=>nk (by rw[←h];exact Ew hq)
       exact(Bq this).trans (List.map_id' _)
      rw[Ap,if_pos z,e];simp only[gL,look,if_pos z,Int.sub_mul];rw[z];omega
    · have mk:k∈A.map (·.1):=(An.mp m).elim (fun h=>absurd h.symm z) id
      simp only[Ap,if_neg z,gL,look,ih n2 mk];omega
 · rw[if_neg m,aKm,jX m]
   simp[gL]
theorem aB3 {g:List Int->Int}:∀ (ts A:List Tm),(A.map (·.1)).Nodup->gL (acc A ts) g=gL A g+lin ts g
 | [],A,_=>by simp[acc,lin]
 | t :: ts,A,h=>by
  show gL (acc (step A t) ts) g=_
  rw[aB3 ts (step A t) (yJ h)];unfold step;rw[aI3 A (key t) (val t) h];simp only[lin];omega
theorem sN (ts:List Tm)(g:List Int->Int):gL (aN ts) g=lin ts g:=by
 unfold aN rC;rw[aHo (dQ _) g,aG9,aB3 ts [] Cl];simp[gL]
def ind (k:List Int):List Int->Int:=fun l=>if l=k then 1 else 0
def mQ (ts:List Tm)(k:List Int):Int:=lin ts (ind k)
theorem wP {A:List Tm}(h:(A.map (·.1)).Nodup)(k:List Int):look A k=gL A (ind k):=by
 induction A with
 | nil=>rfl
 | cons p A ih =>
  obtain⟨n1,n2⟩:=Cu.mp (show (p.1 :: A.map (·.1)).Nodup from h)
  by_cases z:p.1=k
  · have:gL A (ind k)=0:=by rw[←ih n2,jX fun q=>n1 (z▸q)]
    simp[look,gL,ind,z,this]
  · simp[look,gL,ind,z,ih n2]
theorem jY (ts:List Tm):((aN ts).map (·.1)).Nodup:=by
 have n1:=iO ts [] Cl;unfold aN rC;have pm:=(dQ (r:=px) ((acc [] ts).filter fun p=>p.2 != 0)).map (·.1);rw[pm.nodup_iff];exact List.Nodup.sublist ((Ex).map _) n1
theorem aNz {A:List Tm}{k:List Int}(h:k∈A.map (·.1)):(k,look A k)∈A:=by
 induction A with
 | nil=>cases h
 | cons p A ih =>
  by_cases z:p.1=k
  · simp only[look,if_pos z];exact An.mpr (.inl (by rw[←z]))
  · simp only[look,if_neg z]
    exact Ad _ (ih ((An.mp h).elim (fun q=>absurd q.symm z) id))
theorem mB (ts:List Tm)(p:Tm):p∈aN ts↔p.2=mQ ts p.1/\p.2≠0:=by
 have lk:look (aN ts) p.1=mQ ts p.1:=by rw[wP (jY ts),sN];rfl
 constructor
 · intro h
   exact⟨by rw[←lk,wA (jY ts) h],(jJ h).2⟩
 · intro ⟨h1,h2⟩
   have m:p.1∈(aN ts).map (·.1):=by
    by_cases q:p.1∈(aN ts).map (·.1)
    · exact q
    · exact absurd (h1.trans (lk.symm.trans (jX q))) h2
   have:=aNz m
   rw[lk,←h1]at this;exact this
theorem pY {α:Type}[BEq α][LawfulBEq α]{l m:List α}(h1:l.Nodup)(h2:m.Nodup)(h:∀ x,x∈l↔x∈m):l.Perm m:=by
 rw[Fz];intro x;by_cases z:x∈l
 · have a:=Dj.mp h1 x
   have b:=Dj.mp h2 x;have c:=List.count_pos_iff.mpr z;have d:=List.count_pos_iff.mpr ((h x).mp z);omega
 · rw[Cp z,Cp fun q=>z ((h x).mpr q)]
theorem pH {A:List Tm}(h:(A.map (·.1)).Nodup):A.Nodup:=by
 have:=Co.mp (show List.Pairwise (fun a b=>a≠b) (A.map (·.1)) from h)
 exact Dz (fun {a b} (h:a.1≠b.1) (e:a=b)=>h (by rw[e])) this
theorem aI9 {a b:List Tm}(h:∀ k,mQ a k=mQ b k):aN a=aN b:=by
 have pm:(aN a).Perm (aN b):=pY (pH (jY a)) (pH (jY b)) fun p=>by rw[mB,mB,h]
 have:=gJ lJ pm (show (aN a).Pairwise fun x y=>px y x=false from gM lJ _)
 rw[this];exact(gJ lJ (Ck _) (show (aN b).Pairwise fun x y=>px y x=false from gM lJ _)).symm
theorem iB {a b:List Tm}(h:∀ g,lin a g=lin b g):aN a=aN b:=aI9 fun k=>h (ind k)
theorem aMv {t:Tm}(h:¬ t.1.Nodup):val t=0:=by unfold val;rw[if_neg h]
theorem rF {ts:List Tm}{k:List Int}(h:mQ ts k≠0):∃ t∈ts,key t=k/\t.1.Nodup:=by
 induction ts with
 | nil=>exact absurd rfl h
 | cons t ts ih =>
  by_cases z:key t=k/\t.1.Nodup
  · exact⟨t,Ab,z⟩
  · have e:val t*ind k (key t)=0:=by
     by_cases q:key t=k
     · rw[aMv fun n=>z ⟨q,n⟩,Cq]
     · unfold ind;rw[if_neg q,Eu]
    have:mQ ts k≠0:=fun q=>h (by show val t*ind k (key t)+lin ts (ind k)=0;rw[e];unfold mQ at q;rw[q];rfl)
    obtain⟨u,hu,q⟩:=ih this;exact⟨u,Ad _ hu,q⟩
theorem lX (ts:List Tm):Told (aN ts):=by
 have of:∀ p∈aN ts,∃ t∈ts,key t=p.1/\t.1.Nodup:=fun p hp=>by
  obtain⟨h1,h2⟩:=(mB ts p).mp hp;exact rF (h1▸h2)
 refine⟨fun p hp=>?_,fun p hp=>?_,jY ts,fun p hp=>(jJ hp).2,gM lJ _⟩
 · obtain⟨t,_,e,_⟩:=of p hp
   rw[←e];exact gM eQ _
 · obtain⟨t,_,e,n⟩:=of p hp
   rw[←e];exact(eE t).nodup_iff.mpr n
theorem Told.lin {S:List Tm}(h:Told S)(g:List Int->Int):lin S g=gL S g:=by
 have go:∀ T:List Tm,(∀ t∈T,t∈S)->Sm.lin T g=gL T g:=by
  intro T;induction T with
  | nil=>intro _;rfl
  | cons t T ih =>
   intro hs;simp only[Sm.lin,gL,h.val (hs t Ab),h.key (hs t Ab),ih fun u hu=>hs u (Ad _ hu)]
 exact go S fun _ z=>z
theorem cZ (ts:List Tm)(g:List Int->Int):lin (aN ts) g=lin ts g:=by rw[(lX ts).lin g,sN]
theorem tZ (a:List Tm)(c:Int)(g:List Int->Int):lin (jP a c) g=lin a g*c:=by
 induction a with
 | nil=>simp[jP,lin]
 | cons t a ih =>
  have e:val (t.1,t.2*c)=val t*c:=by rw[iK,iK,Bj]
  show val (t.1,t.2*c)*g (key t)+lin (jP a c) g=(val t*g (key t)+lin a g)*c
  rw[ih,e,Gz,Bj,Bj,Cr c]
theorem aOp (s:Tm)(b:List Tm)(g:List Int->Int):lin (b.map fun t=>(s.1++t.1,s.2*t.2)) g=val s*lin b (fun l=>xs (key s) l*g (srt ix (key s++l))):=by
 induction b with
 | nil=>simp[lin]
 | cons t b ih =>
  simp only[Ap,lin,ih];rw[aKf,aI0,Int.mul_add];simp only[Bj]
theorem hZ (a b:List Tm)(g:List Int->Int):lin (bI a b) g=lin a fun k=>lin b fun l=>xs k l*g (srt ix (k++l)):=by
 induction a with
 | nil=>rfl
 | cons s a ih =>
  show lin ((b.map fun t=>(s.1++t.1,s.2*t.2))++bI a b) g=_
  rw[aAm,aOp,ih];rfl
theorem aLr (a b:List Tm):aN (bI (aN a) b)=aN (bI a b):=iB fun g=>by rw[hZ,hZ,cZ]
theorem aRn (a b:List Tm):aN (bI a (aN b))=aN (bI a b):=iB fun g=>by
 rw[hZ,hZ];congr 1
 funext k
 rw[cZ]
end Sm
namespace Sm
open Srt
theorem fO {a:List Tm}{f h:List Int->Int}(e:∀ t∈a,f (key t)=h (key t)):lin a f=lin a h:=by
 induction a with
 | nil=>rfl
 | cons t a ih=>simp only[lin,e t Ab,ih fun u hu=>e u (Ad _ hu)]
theorem aA9 (a:List Tm)(f h:List Int->Int):lin a (fun k=>f k+h k)=lin a f+lin a h:=by
 induction a with
 | nil=>rfl
 | cons t a ih=>simp only[lin,ih,Int.mul_add];omega
theorem jO (a:List Tm)(f:List Int->Int)(c:Int):lin a (fun k=>f k*c)=lin a f*c:=by
 induction a with
 | nil=>simp[lin]
 | cons t a ih=>simp only[lin,ih,Gz,Bj]
theorem aL9 (a:List Tm):lin a (fun _=>0)=0:=by
 induction a with
 | nil=>rfl
 | cons t a ih=>simp only[lin,ih,Eu];rfl
def und (b:Int)(p:List Int):Nat:=(p.filter fun a=>decide (a<b)).length
theorem aAk (b:Int)(q p:List Int):cS (b :: q) p=und b p+cS q p:=by
 induction p with
 | nil=>rfl
 | cons x p ih =>
  simp only[cS,ih,und];unfold ovr;by_cases z:x<b
  · rw[Do (by simpa using z),Do (by simpa using z),As,As];omega
  · rw[Dq (by simpa using z),Dq (by simpa using z)];omega
def Deg (L:Nat)(a:List Tm):Prop:=∀ t∈a,t.1.length=L
def qG (i:Nat):List Int->List Tm
 | []=>[]
 | v :: r=>([(i:Int)],v) :: qG (i+1) r
def dX (r:List Int):List Tm:=qG 0 r
theorem tG:∀ (r:List Int) (i:Nat),Deg 1 (qG i r)
 | [],_,t,h=>by cases h
 | v :: r,i,t,h=>by
  rcases An.mp h with e | e
  · rw[e];rfl
  · exact tG r (i+1) t e
theorem uC (r:List Int):Deg 1 (dX r):=tG r 0
def raw (rows:List (List Int)):List Tm:=rows.foldl (fun a r=>bI a (dX r)) [([],1)]
theorem wX (rows:List (List Int))(r:List Int):raw (rows++[r])=bI (raw rows) (dX r):=by
 unfold raw;rw[Gh];rfl
theorem aNc (r:List Int):raw [r]=dX r:=aCj _
def box (rows:List (List Int)):List Tm:=aN (raw rows)
theorem aGp:box []=[([],1)]:=by
 have t:Told [([],1)]:=by
  refine⟨?_,?_,by simp,?_,by simp⟩<;>intro t ht<;>rw[Aq.mp ht]
  · exact Dg
  · exact Cl
  · decide
 exact t.same
theorem aKp (rows:List (List Int))(r:List Int):aN (bI (box rows) (aN (dX r)))=box (rows++[r]):=by
 unfold box;rw[aRn,aLr,wX]
end Sm
namespace Sm
open Srt
def cD (m:Nat):List Int:=(Ao m).map fun (i:Nat)=>(i:Int)
def iC (m:Nat):Nat->List (List Int)
 | 0=>[[]]
 | r+1=>(iC m r).flatMap fun w=>(cD m).map fun i=>w++[i]
def prd:List (List Int)->List Int->Int
 | r :: rs,x :: w=>r.getD x.toNat 0*prd rs w
 | _,_=>1
theorem uY:∀ (rows:List (List Int)) (w:List Int) (r:List Int) (x:Int),rows.length=w.length->prd (rows++[r]) (w++[x])=prd rows w*r.getD x.toNat 0
 | [],[],r,x,_=>by simp[prd]
 | a :: rows,y :: w,r,x,h=>by
  simp only[Ed,prd,uY rows w r x (by simpa using h),Bj]
theorem wI {m:Nat}:∀ {r:Nat} {w:List Int},w∈iC m r->w.length=r
 | 0,w,h=>by rw[Aq.mp h];rfl
 | r+1,w,h=>by
  obtain⟨v,hv,h⟩:=Bz.mp h;obtain⟨i,_,e⟩:=Ak.mp h;rw[←e,Ai,wI hv];rfl
theorem xC:∀ (r:List Int) (i:Nat),qG i r=(Ao r.length).map fun (j:Nat)=>([((i+j:Nat):Int)],r.getD j 0)
 | [],i=>rfl
 | v :: r,i=>by
  rw[As,List.range_succ_eq_map,Ap,Bb];show ([(i:Int)],v) :: qG (i+1) r=_
  rw[xC r (i+1)];congr 1
  apply Bq
  intro j _;simp only[Function.comp];rw[show i+1+j=i+(j+1) by omega]
  simp
theorem kH (r:List Int):dX r=(cD r.length).map fun x=>([x],r.getD x.toNat 0):=by
 unfold dX cD;rw[xC,Bb];apply Bq
 intro j _;simp
theorem aEx {m:Nat}:∀ n,∀ rows:List (List Int),rows.length=n->(∀ r∈rows,r.length=m)->raw rows=(iC m n).map fun w=>(w,prd rows w):=by
 intro n;induction n with
 | zero=>intro rows h _;rw[Be.mp h];rfl
 | succ n ih =>
  intro rows h hm;have hy:rows≠[]:=fun z=>by rw[z]at h;simp at h
  have hc:=Cb hy;have hl:rows.dropLast.length=n:=by rw[Dl];omega
  have h1:∀ r∈rows.dropLast,r.length=m:=fun r hr=>hm r (Ec _ hr);have h2:(rows.getLast hy).length=m:=hm _ (Fl hy);rw[←hc];generalize rows.dropLast=rs at *
  generalize rows.getLast hy=r at *
  rw[wX,ih rs hl h1,kH,h2];unfold bI;rw[List.flatMap_map];show _=Ge _ ((iC m n).flatMap _)
  rw[List.map_flatMap,List.flatMap_def,List.flatMap_def];congr 1
  apply Bq
  intro w hw;rw[Bb,Bb];apply Bq
  intro x _;simp only[Function.comp];rw[uY rs w r x (by rw[hl,wI hw])]
def bK {α:Type}(l:List α)(f:α->Int):Int:=match l with
 | []=>0
 | x :: l=>f x+bK l f
theorem fL {α β:Type}(g:α->β)(l:List α)(f:β->Int):bK (l.map g) f=bK l fun x=>f (g x):=by
 induction l with
 | nil=>rfl
 | cons x l ih=>simp only[Ap,bK,ih]
theorem aZ {α:Type}{l:List α}{f g:α->Int}(h:∀ x∈l,f x=g x):bK l f=bK l g:=by
 induction l with
 | nil=>rfl
 | cons x l ih=>simp only[bK,h x Ab,ih fun y hy=>h y (Ad _ hy)]
theorem aHq {α:Type}(c:α->Bool)(l:List α)(f:α->Int):bK (l.filter c) f=bK l fun x=>if c x then f x else 0:=by
 induction l with
 | nil=>rfl
 | cons x l ih =>
  cases z:c x with
  | true=>rw[Do z];simp only[bK,ih,z,if_true]
  | false=>rw[Dq (by simp[z])];simp[bK,ih,z]
theorem kD (ts:List Tm)(g:List Int->Int):lin ts g=bK ts fun t=>val t*g (key t):=by
 induction ts with
 | nil=>rfl
 | cons t ts ih=>simp only[lin,bK,ih]
theorem jI {m:Nat}:∀ {r:Nat} {w:List Int},w∈iC m r↔w.length=r/\∀ x∈w,0<=x/\x<m
 | 0,w=>by
  constructor
  · intro h;rw[Aq.mp h];exact⟨rfl,fun x hx=>by cases hx⟩
  · intro h;rw[Be.mp h.1];exact Aq.mpr rfl
 | r+1,w=>by
  have mr:∀ x:Int,x∈cD m↔0<=x/\x<m:=fun x=>by
   constructor
   · intro h;obtain⟨i,hi,rfl⟩:=Ak.mp h;have:=Bi.mp hi;omega
   · intro h;exact Ak.mpr ⟨x.toNat,Bi.mpr (by omega),by omega⟩
  constructor
  · intro h
    obtain⟨v,hv,h⟩:=Bz.mp h;obtain⟨i,hi,e⟩:=Ak.mp h;obtain⟨h1,h2⟩:=jI.mp hv;rw[←e];refine⟨by rw[Ai,h1];rfl,fun x hx=>?_⟩
    rcases Bf.mp hx with q | q
    · exact h2 x q
    · rw[Aq.mp q];exact(mr i).mp hi
  · intro ⟨h1,h2⟩
    have hw:w≠[]:=fun z=>by rw[z]at h1;simp at h1
    have hc:=Cb hw;refine Bz.mpr ⟨w.dropLast,jI.mpr ⟨by rw[Dl];omega,fun x hx=>h2 x (Ec _ hx)⟩,Ak.mpr ⟨w.getLast hw,(mr _).mpr (h2 _ (Fl hw)),hc⟩⟩
theorem nF (m:Nat):(cD m).Nodup:=by
 show List.Pairwise (fun a b=>a≠b) (Ge _ _)
 rw[Co];exact Dz (fun {a b} h e=>h (by omega)) (show List.Pairwise (fun a b=>a≠b) (Ao m) from List.nodup_range)
theorem uZ (m:Nat):∀ r,(iC m r).Nodup
 | 0=>by simp[iC]
 | r+1=>by
  show List.Pairwise (fun a b=>a≠b) _
  unfold iC;rw[List.pairwise_flatMap];refine⟨fun w _=>?_,?_⟩
  · rw[Co]
    exact Dz (fun {a b} h e=>h (by simpa using e)) (show List.Pairwise (fun a b=>a≠b) (cD m) from nF m)
  · refine Dz (fun {v w} h x hx y hy e=>?_) (show List.Pairwise (fun a b=>a≠b) (iC m r) from uZ m r)
    obtain⟨i,_,rfl⟩:=Ak.mp hx;obtain⟨j,_,rfl⟩:=Ak.mp hy;exact h (List.append_inj_left' e rfl)
theorem yO {p:List Int}(up:p.Pairwise fun a b=>ix b a=false)(nd:p.Nodup):p.Pairwise (·<·):=by
 have both:=He up (show List.Pairwise (fun a b=>a≠b) p from nd)
 exact both.imp fun {a b} h=>by
  have h1:ix b a=false:=h.1;unfold ix at h1;have:=of_decide_eq_false h1
  have:=h.2
  omega
def cT:Nat->List Tm
 | 0=>[([],1)]
 | n+1=>(cT n).flatMap fun o=>(Ao (o.1.length+1)).map fun (k:Nat)=>(o.1.take k++[(n:Int)]++o.1.drop k,o.2*sgn (o.1.length-k))
theorem aPb (a b:List Int)(x:Int)(ha:∀ y∈a,y<x)(hb:∀ y∈b,y<x):inv (a++[x]++b)=inv (a++b)+b.length:=by
 rw[uM,uM,uM];have h1:inv [x]=0:=by unfold inv;simp[jV]
 have h2:cS a [x]=0:=by
  show ovr x a+0=0
  unfold ovr;rw[List.filter_eq_nil_iff.mpr fun y hy=>by have:=ha y hy;simp;omega];rfl
 have h3:cS (a++[x]) b=cS a b+b.length:=by
  rw[aCv];congr 1
  rw[aAk]
  have:cS [] b=0:=by
   clear ha hb h1 h2
   induction b with
   | nil=>rfl
   | cons y b ih=>simp only[cS,ih];rfl
  rw[this];unfold und;rw[Ga.mpr fun y hy=>by have:=hb y hy;simp;omega]
  rfl
 omega
theorem qS:∀ {n:Nat} {o:Tm},o∈cT n->o.1.Perm (cD n)/\o.2=sgn (inv o.1)
 | 0,o,h=>by rw[Aq.mp h];exact⟨Ck _,rfl⟩
 | n+1,o,h=>by
  obtain⟨q,hq,h⟩:=Bz.mp h;obtain⟨k,hk,e⟩:=Ak.mp h;have hk:=Bi.mp hk;obtain⟨h1,h2⟩:=qS hq
  have mem:∀ y∈q.1,y<(n:Int):=fun y hy=>by
   obtain⟨i,hi,rfl⟩:=Ak.mp (h1.mem_iff.mp hy);have:=Bi.mp hi;omega
  rw[←e];constructor
  · show (q.1.take k++[(n:Int)]++q.1.drop k).Perm (cD (n+1))
    have p1:(q.1.take k++[(n:Int)]++q.1.drop k).Perm (q.1++[(n:Int)]):=by
     rw[Bv];refine(List.Perm.append_left _ List.perm_append_comm).trans ?_
     rw[←Bv,Fk]
    have e2:cD (n+1)=cD n++[(n:Int)]:=by unfold cD;rw[Gv,Bk];rfl
    rw[e2];exact p1.trans (h1.append_right _)
  · show q.2*sgn (q.1.length-k)=sgn (inv (q.1.take k++[(n:Int)]++q.1.drop k))
    rw[aPb _ _ _ (fun y hy=>mem y (List.mem_of_mem_take hy)) (fun y hy=>mem y (List.mem_of_mem_drop hy)),Fk,aA3,h2,Di]
def jF (p:List Int)(o:List Int):List Int:=o.map fun j=>p.getD j.toNat 0
theorem yQ:∀ {l m:List Int},l.Nodup->(∀ x∈l,x∈m)->l.length<=m.length
 | [],m,_,_=>Cc _
 | a :: l,m,h,s=>by
  obtain⟨h1,h2⟩:=Cu.mp h;have ha:=s a Ab;have:=yQ (l:=l) (m:=m.erase a) h2 fun x hx=>(List.mem_erase_of_ne (fun z:x=a=>h1 (by rw[←z];exact hx))).mpr (s x (Ad _ hx))
  rw[List.length_erase_of_mem ha]at this;have:=List.length_pos_of_mem ha
  rw[As];omega
def nC (rows:List (List Int))(p:List Int):Int:=bK (cT p.length) fun o=>o.2*prd rows (jF p o.1)
theorem fK {m:Nat}{x:Int}:x∈cD m↔0<=x/\x<m:=by
 constructor
 · intro h;obtain⟨i,hi,rfl⟩:=Ak.mp h;have:=Bi.mp hi;omega
 · intro h;exact Ak.mpr ⟨x.toNat,Bi.mpr (by omega),by omega⟩
end Sm
namespace Sm
open Srt
def cut {α:Type}(k:Nat)(l:List α):List α:=l.take k++l.drop (k+1)
def en (t:List (List Int))(i j:Nat):Int:=(t.getD i []).getD j 0
def prF (f:Nat->Nat->Int)(i:Nat):List Int->Int
 | []=>1
 | x :: w=>f i x.toNat*prF f (i+1) w
def aI5 (n:Nat)(f:Nat->Nat->Int):Int:=bK (cT n) fun o=>o.2*prF f 0 o.1
theorem aMi {α:Type}{k:Nat}{l:List α}(h:k<l.length):(cut k l).length=l.length-1:=by
 unfold cut;simp;omega
theorem aGj:∀ (t:List (List Int)) (w:List Int),t.length=w.length->∀ (f:Nat->Nat->Int) (i:Nat),(∀ a b,en t a b=f (i+a) b)->prd t w=prF f i w
 | [],[],_,f,i,_=>rfl
 | r :: t,x :: w,h,f,i,e=>by
  have e0:=e 0 x.toNat;simp only[prd,prF];rw[aGj t w (by simpa using h) f (i+1) (fun a b=>by have:=e (a+1) b;rw[show i+1+a=i+(a+1) by omega];exact this)]
  rw[show r.getD x.toNat 0=f i x.toNat from e0]
theorem aO7 {n:Nat}{o:List Int}(h:∀ x∈o,0<=x/\x<(n:Int)):jF (cD n) o=o:=by
 unfold jF;conv=>rhs;rw[←List.map_id o]
 refine Bq fun x hx=>?_
 have:=h x hx
 rw[Al,show cD n=(Ao n).map (fun (i:Nat)=>(i:Int)) from rfl,Aw,List.getElem?_range (by omega)]
 simp;omega
theorem lZ (n:Nat):(cD n).length=n:=by simp[cD]
theorem aGb {n:Nat}{o:Tm}(h:o∈cT n):∀ x∈o.1,0<=x/\x<(n:Int):=fun x hx=>fK.mp ((qS h).1.mem_iff.mp hx)
theorem oM {n:Nat}{o:Tm}(h:o∈cT n):o.1.length=n:=by rw[(qS h).1.length_eq,lZ]
theorem aEt {n:Nat}{t:List (List Int)}(h:t.length=n):nC t (cD n)=aI5 n (en t):=by
 unfold nC aI5;rw[lZ];refine aZ fun o ho=>?_
 rw[aO7 (aGb ho),aGj t o.1 (by rw[h,oM ho]) (en t) 0 fun a b=>by rw[Cv]]
theorem yS {n:Nat}{f g:Nat->Nat->Int}(h:∀ i j,i<n->j<n->f i j=g i j):∀ (w:List Int) (i:Nat),i+w.length<=n->(∀ x∈w,0<=x/\x<(n:Int))->prF f i w=prF g i w
 | [],_,_,_=>rfl
 | x :: w,i,hl,hx=>by
  have hl':i+(w.length+1)<=n:=hl;have h0:=hx x Ab;simp only[prF];rw[h i x.toNat (by omega) (by omega),yS h w (i+1) (by omega) fun y hy=>hx y (Ad _ hy)]
theorem aEf {n:Nat}{f g:Nat->Nat->Int}(h:∀ i j,i<n->j<n->f i j=g i j):aI5 n f=aI5 n g :=
 aZ fun o ho=>by rw[yS h o.1 0 (by rw[oM ho];omega) (aGb ho)]
def prs (i:Nat):List Int->List (Nat×Nat)
 | []=>[]
 | x :: w=>(i,x.toNat) :: prs (i+1) w
def pL (f:Nat->Nat->Int):List (Nat×Nat)->Int
 | []=>1
 | p :: ps=>f p.1 p.2*pL f ps
theorem aOs {f:Nat->Nat->Int}{a b:List (Nat×Nat)}(h:a.Perm b):pL f a=pL f b:=by
 induction h with
 | nil=>rfl
 | cons x _ ih=>simp only[pL,ih]
 | swap x y l=>simp only[pL];rw[Dd]
 | trans _ _ i1 i2=>exact i1.trans i2
theorem aMl (f:Nat->Nat->Int):∀ (w:List Int) (i:Nat),prF f i w=pL f (prs i w)
 | [],_=>rfl
 | x :: w,i=>by simp only[prF,prs,pL,aMl f w (i+1)]
theorem aDl:∀ n,n<6->(cD n).Pairwise (·<·):=by decide +kernel
theorem aT1 {p:List Int}(h:p.Pairwise (·<·)):p.Pairwise fun a b=>ix b a=false:=h.imp fun {a b} h=>decide_eq_false (by omega)
theorem aOb (x v:Int):val ([x],v)=v:=by
 rw[iK];have:trn [x]=1:=by unfold trn;rw[if_pos (by simp)];rfl
 rw[this,Ef]
theorem kF {α:Type}(l:List α)(f:α->Int)(c:Int):bK l f*c=bK l fun x=>f x*c:=by
 induction l with
 | nil=>simp[bK]
 | cons x l ih=>simp only[bK,Gz,ih]
end Sm
namespace Sm
open PySem L2 Mir Srt
abbrev aD (ts:List Tm):D:=.lst (ts.map mkP)
def pM (φ:Φ):Prop:=∀ ts:List Tm,Fit ts->φ [aD ts]=.ok ⟨.tmp,true,aD (aN ts)⟩
theorem aRg {f g:FE}{ρ:Mir.Env}{k k':Kd}{fr fr':Bool}{a b:List Tm}(h1:f ρ=.ok ⟨k,fr,aD a⟩)(h2:g ρ=.ok ⟨k',fr',aD b⟩)(hz:a.length+b.length<=1000):pG f g ρ=.ok ⟨.tmp,fr&&fr',aD (a++b)⟩:=by
 have c:(a.map mkP).length+(b.map mkP).length<=sizeLine:=by rw[Ac,Ac,sizeLine_eq];omega
 simp only[pG,h1,h2,R.ok_bind,asL,if_pos c,aD,Bk]
theorem aPz {φ:Φ}(hφ:pM φ){L:Nat}{a b:List Tm}(ha:Sum L a)(hb:Sum L b):cG 2 2 (bM (aC φ [pG (vE 0) (vE 1)])) [aD a,aD b]=.ok ⟨.tmp,true,aD (aN (a++b))⟩:=by
 have e0:pG (vE 0) (vE 1) [some ⟨.shr,false,aD a⟩,some ⟨.shr,false,aD b⟩]=.ok ⟨.tmp,false&&false,aD (a++b)⟩:=aRg (k:=.shr) (fr:=false) (k':=.shr) (fr':=false) rfl rfl (by have:=ha.ln;have:=hb.ln;omega)
 have e1:aC φ [pG (vE 0) (vE 1)] [some ⟨.shr,false,aD a⟩,some ⟨.shr,false,aD b⟩]=.ok ⟨.tmp,true,aD (aN (a++b))⟩:=aU (rs:=[⟨.tmp,false&&false,aD (a++b)⟩]) (aB e0 aK) (hφ _ (ha.fit2 hb));exact(cJ rfl (iS e1)).trans rfl
abbrev aGs (i:Nat):FE:=bR (cW (vE 0)) 2 [i] (.tp [.nm 0,.nm 1]) (bE (dH [vE 0,bN (vE 1) (vE 2)]))
theorem wG {p:List Int}{f:Bool}{r:Mir.Env}:vE 0 (some ⟨.shr,f,.tup (li p)⟩ :: r)=.ok ⟨.shr,true,.tup (li p)⟩:=by
 show R.ok (⟨.shr,f||(D.tup (li p)).imm,.tup (li p)⟩:Res)=_
 rw[aJb,Gd]
theorem aR3 {i:Nat}{ρ:Mir.Env}{k:Int}{kd:Kd}{f f':Bool}{L:Nat}{a:List Tm}(ha:Sum L a)(hk:k.natAbs<=2^80)(h0:vE 0 ρ=.ok ⟨kd,f,aD a⟩)(hi:ρ[i]?=some (some ⟨.shr,f',.int k⟩)):aGs i ρ=.ok ⟨.tmp,true,aD (jP a k)⟩:=by
 have e:jP a k=a.map fun t=>(t.1,t.2*k):=rfl;have e2:aD (jP a k)=.lst (a.map fun t=>mkP (t.1,t.2*k)):=by rw[e];show D.lst (Ge mkP (Ge _ a))=_;rw[Bb];rfl
 rw[e2];refine jT (inj:=mkP) (xs:=a) (oI h0) (fun t ht=>?_) (by have:=ha.ln;rw[sizeLine_eq];omega)
 have env:eF 2 [i] ρ=[none,none,some ⟨.shr,f',.int k⟩]:=by simp[eF,hi]
 refine⟨[some ⟨.shr,f,.tup (li t.1)⟩,some ⟨.shr,f,.int t.2⟩,some ⟨.shr,f',.int k⟩],.shr,by rw[env];rfl,qX ?_,by decide⟩
 refine(gX (k':=.shr) (fr':=true) (d':=.int (t.2*k)) wG (aV (k:=.shr) (fr:=f||(D.int t.2).imm) (k':=.shr) (fr':=f'||(D.int k).imm) rfl rfl (eP (iI (Ah (ha.nb t ht) (Ar (by decide) (by decide)))) (iI (Ah hk (Ar (by decide) (by decide)))))) (by decide) (by decide)).trans rfl
theorem aNp {φ:Φ}(hφ:pM φ){L:Nat}{a:List Tm}(ha:Sum L a){k:Int}(hk:k.natAbs<=2^80):cG 2 2 (bM (aC φ [aGs 1])) [aD a,.int k]=.ok ⟨.tmp,true,aD (aN (jP a k))⟩:=by
 have e0:aGs 1 [some ⟨.shr,false,aD a⟩,some ⟨.shr,false,.int k⟩]=.ok ⟨.tmp,true,aD (jP a k)⟩:=aR3 (kd:=.shr) (f:=false) (f':=false) ha hk rfl rfl;have e1:aC φ [aGs 1] [some ⟨.shr,false,aD a⟩,some ⟨.shr,false,.int k⟩]=.ok ⟨.tmp,true,aD (aN (jP a k))⟩:=aU (rs:=[⟨.tmp,true,aD (jP a k)⟩]) (aB e0 aK) (hφ _ (ha.fitT hk));exact(cJ rfl (iS e1)).trans rfl
theorem qZ {f g:FE}{ρ:Mir.Env}{k k':Kd}{fr fr':Bool}{p q:List Int}(h1:f ρ=.ok ⟨k,fr,.tup (li p)⟩)(h2:g ρ=.ok ⟨k',fr',.tup (li q)⟩)(hz:p.length+q.length<=1000):kL f g ρ=.ok ⟨.shr,fr&&fr',.tup (li (p++q))⟩:=by
 have c:(li p).length+(li q).length<=sizeLine:=by rw[Ac,Ac,sizeLine_eq];omega
 simp only[kL,h1,h2,R.ok_bind,asT,if_pos c,li,Bk]
end Sm
namespace Sm
open PySem L2 Mir Srt
abbrev sZ (i j:Nat):FE:=bR (cW (vE 1)) 2 [i,j] (.tp [.nm 0,.nm 1]) (bE (dH [kL (vE 2) (vE 0),bN (vE 3) (vE 1)]))
def xL (s:Tm)(b:List Tm):List Tm:=b.map fun t=>(s.1++t.1,s.2*t.2)
theorem tD {n:Nat}(h:n<=2^240):n<2^1000:=iI (Ah h (Ar (by decide) (by decide)))
theorem aJc {L K:Nat}{b:List Tm}(hb:Sum K b)(hL:L<=20)(s:Tm)(h1:s.1.length=L)(h2:s.2.natAbs<=2^240)(a0:Option Res)(x2:Option Res)(f3 f4 fb:Bool) :
 sZ 3 4 [a0,some ⟨.shr,fb,aD b⟩,x2,some ⟨.shr,f3,.tup (li s.1)⟩,some ⟨.shr,f4,.int s.2⟩]=.ok ⟨.tmp,true,aD (xL s b)⟩:=by
 have e2:aD (xL s b)=.lst (b.map fun t=>mkP (s.1++t.1,s.2*t.2)):=by show D.lst (Ge mkP (Ge _ b))=_;rw[Bb];rfl
 rw[e2];refine jT (inj:=mkP) (xs:=b) (oI (k:=.shr) (fr:=fb||(aD b).imm) rfl) (fun t ht=>?_) (by have:=hb.ln;rw[sizeLine_eq];omega)
 refine⟨[some ⟨.shr,fb||(aD b).imm,.tup (li t.1)⟩,some ⟨.shr,fb||(aD b).imm,.int t.2⟩,some ⟨.shr,f3,.tup (li s.1)⟩,some ⟨.shr,f4,.int s.2⟩],.shr,rfl,qX ?_,by decide⟩
 have v2:vE 2 [some ⟨.shr,fb||(aD b).imm,.tup (li t.1)⟩,some ⟨.shr,fb||(aD b).imm,.int t.2⟩,some ⟨.shr,f3,.tup (li s.1)⟩,some ⟨.shr,f4,.int s.2⟩]=.ok ⟨.shr,true,.tup (li s.1)⟩:=wG (p:=s.1) (f:=f3) (r:=[]);have hk:=hb.hL;refine(gX (k:=.shr) (fr:=true) (d:=.tup (li (s.1++t.1))) (k':=.shr) (fr':=true) (d':=.int (s.2*t.2)) (qZ v2 wG (by rw[h1,hb.sz t ht];omega)) (aV (k:=.shr) (fr:=f4||(D.int s.2).imm) (k':=.shr) (fr':=(fb||(aD b).imm)||(D.int t.2).imm) rfl rfl (eP (tD h2) (tD (hb.nb t ht)))) (by decide) (by decide)).trans rfl
abbrev aS3 (φ:Φ):FS :=
 (aP (aO 2 (cN []))
 (aP (cB (cW (vE 0)) (.tp [.nm 3,.nm 4]) (aDk 2 (sZ 3 4)))
 (bM (aC φ [vE 2]))))
theorem aB4 (a b:List Tm):(bI a b).length=a.length*b.length:=by
 induction a with
 | nil=>simp[bI]
 | cons x c ih =>
  show (xL x b++bI c b).length=_
  rw[Ai,ih,xL,Ac,As,Et,Nat.add_comm]
theorem zQ {L K:Nat}{b:List Tm}(hb:Sum K b)(hL:L<=20)(A:D):∀ (a:List Tm),(∀ t∈a,t.1.length=L/\t.2.natAbs<=2^240)->∀ (acc:List Tm) (x3 x4:Option Res),acc.length+a.length*b.length<=1000 ->
 ∃ x3' x4',fN (.tp [.nm 3,.nm 4]) (aDk 2 (sZ 3 4)) false (a.map mkP) [some ⟨.shr,false,A⟩,some ⟨.shr,false,aD b⟩,some ⟨.own,true,aD acc⟩,x3,x4]=.nx [some ⟨.shr,false,A⟩,some ⟨.shr,false,aD b⟩,some ⟨.own,true,aD (acc++bI a b)⟩,x3',x4']
 | [],_,acc,x3,x4,_=>⟨x3,x4,by rw[show bI [] b=[] from rfl,Bt];rfl⟩
 | s :: a,h,acc,x3,x4,hz=>by
  rw[As,Et]at hz;obtain⟨h1,h2⟩:=h s Ab;have er:=aJc hb hL s h1 h2 (some ⟨.shr,false,A⟩) (some ⟨.own,true,aD acc⟩) false false false;have rl:(xL s b).length=b.length:=Ac _
  have ex:aDk 2 (sZ 3 4) [some ⟨.shr,false,A⟩,some ⟨.shr,false,aD b⟩,some ⟨.own,true,aD acc⟩,some ⟨.shr,false,.tup (li s.1)⟩,some ⟨.shr,false,.int s.2⟩]=.nx [some ⟨.shr,false,A⟩,some ⟨.shr,false,aD b⟩,some ⟨.own,true,aD (acc++xL s b)⟩,some ⟨.shr,false,.tup (li s.1)⟩,some ⟨.shr,false,.int s.2⟩]:=by
   have o:lW 2 [some ⟨.shr,false,A⟩,some ⟨.shr,false,aD b⟩,some ⟨.own,true,aD acc⟩,some ⟨.shr,false,.tup (li s.1)⟩,some ⟨.shr,false,.int s.2⟩]=.ok (true,acc.map mkP):=rfl;have c:(acc.map mkP).length+((xL s b).map mkP).length<=sizeLine:=by rw[Ac,Ac,rl,sizeLine_eq];omega
   simp only[aDk,o,R.at,er,if_pos c];show RS.nx [_,_,some (⟨.own,true,.lst (acc.map mkP++(xL s b).map mkP)⟩:Res),_,_]=_
   rw[←Bk]
  obtain⟨x3',x4',ih⟩:=zQ hb hL A a (fun t ht=>h t (Ad _ ht)) (acc++xL s b) (some ⟨.shr,false,.tup (li s.1)⟩) (some ⟨.shr,false,.int s.2⟩) (by rw[Ai,rl];omega)
  refine⟨x3',x4',?_⟩
  have bd:Tg.bind false (.tp [.nm 3,.nm 4]) (mkP s) [some ⟨.shr,false,A⟩,some ⟨.shr,false,aD b⟩,some ⟨.own,true,aD acc⟩,x3,x4]=.ok [some ⟨.shr,false,A⟩,some ⟨.shr,false,aD b⟩,some ⟨.own,true,aD acc⟩,some ⟨.shr,false,.tup (li s.1)⟩,some ⟨.shr,false,.int s.2⟩]:=rfl;simp only[Ap,fN,bd,R.at,ex];refine ih.trans ?_
  rw[show bI (s :: a) b=xL s b++bI a b from rfl,Bv]
theorem aSk {φ:Φ}(hφ:pM φ){L K:Nat}{a b:List Tm}(ha:Sum L a)(hb:Sum K b):cG 2 5 (aS3 φ) [aD a,aD b]=.ok ⟨.tmp,true,aD (aN (bI a b))⟩:=by
 have l1:=ha.ln;have l2:=hb.ln;have lm:a.length*b.length<=400:=Ah (Bg l1 l2) (by decide)
 have e1:aO 2 (cN []) [some ⟨.shr,false,aD a⟩,some ⟨.shr,false,aD b⟩,none,none,none]=.nx [some ⟨.shr,false,aD a⟩,some ⟨.shr,false,aD b⟩,some ⟨.own,true,aD []⟩,none,none]:=rfl;obtain⟨x3,x4,l⟩:=zQ hb ha.hL (aD a) a (fun t ht=>⟨ha.sz t ht,ha.nb t ht⟩) [] none none (by rw[Bp];omega)
 rw[Dh]at l;have e2:cB (cW (vE 0)) (.tp [.nm 3,.nm 4]) (aDk 2 (sZ 3 4)) [some ⟨.shr,false,aD a⟩,some ⟨.shr,false,aD b⟩,some ⟨.own,true,aD []⟩,none,none]=.nx [some ⟨.shr,false,aD a⟩,some ⟨.shr,false,aD b⟩,some ⟨.own,true,aD (bI a b)⟩,x3,x4]:=(eB (fr:=false) (ds:=a.map mkP) rfl).trans l;have e3:aC φ [vE 2] [some ⟨.shr,false,aD a⟩,some ⟨.shr,false,aD b⟩,some ⟨.own,true,aD (bI a b)⟩,x3,x4]=.ok ⟨.tmp,true,aD (aN (bI a b))⟩:=aU (rs:=[⟨.own,true,aD (bI a b)⟩]) (aB rfl aK) (hφ _ (ha.fitP hb));exact(cJ rfl ((aM e1).trans ((aM e2).trans (iS e3)))).trans rfl
end Sm
namespace Sm
open PySem L2 Mir Srt
theorem aO4 {x:Int}(h0:0<=x)(h1:x<2147483648):x.natAbs<2^1000:=small (M:=2147483648) (gG (by decide)) (by omega)
theorem sm9 {x:Int}(h:x.natAbs<=1000000000):x.natAbs<2^1000:=small (M:=1000000000) (gG (by decide)) h
abbrev aNn:FS :=
 (aP (aO 3 (cA (cH (cH (bN (cA (vE 0) (cE (.int 2147483647))) (cE (.int 48271))) (bN (bN (cE (.int 69621)) (vE 1)) (vE 1))) (bN (cE (.int 7)) (vE 1))) (cE (.int 2147483629))))
 (aP (aO 3 (cA (bN (vE 3) (vE 3)) (cE (.int 2147483587))))
 (bM (cA (cA (bN (vE 3) (cH (vE 3) (cE (.int 48271)))) (cE (.int 2147483563))) (vE 2)))))
theorem aPu (c k m:Int)(hk:k.natAbs<=1000)(hm:0<m):∃ v,0<=v/\v<m/\cG 3 4 aNn [.int c,.int k,.int m]=.ok (sc (.int v)):=by
 have a0:=Cj c (show (2147483647:Int)≠0 by decide)
 have a1:=Bu c (show (0:Int)<2147483647 by decide)
 let x:=((c%2147483647)*48271+69621*k*k+7*k)%2147483629
 have x0:0<=x:=Cj _ (by decide)
 have x1:x<2147483629:=Bu _ (by decide)
 let y:=(x*x)%2147483587
 have y0:0<=y:=Cj _ (by decide)
 have y1:y<2147483587:=Bu _ (by decide)
 let z:=(y*(y+48271))%2147483563
 refine⟨z%m,Cj _ (by omega),Bu _ hm,?_⟩
 have e1:aO 3 (cA (cH (cH (bN (cA (vE 0) (cE (.int 2147483647))) (cE (.int 48271))) (bN (bN (cE (.int 69621)) (vE 1)) (vE 1))) (bN (cE (.int 7)) (vE 1))) (cE (.int 2147483629))) [some ⟨.shr,false,.int c⟩,some ⟨.shr,false,.int k⟩,some ⟨.shr,false,.int m⟩,none]=.nx [some ⟨.shr,false,.int c⟩,some ⟨.shr,false,.int k⟩,some ⟨.shr,false,.int m⟩,some ⟨.shr,true,.int x⟩] :=
  set_shr (aV (aV (aV (aV (aV (k:=.shr) (fr:=true) (i:=c) (k':=.shr) (fr':=true) (j:=2147483647) rfl rfl (gA (by decide))) (k':=.shr) (fr':=true) (j:=48271) rfl (eP (aO4 a0 (by omega)) (sm9 (by decide)))) (aV (aV (k:=.shr) (fr:=true) (i:=69621) (k':=.shr) (fr':=true) (j:=k) rfl rfl (eP (sm9 (by decide)) (sm9 (by omega)))) (k':=.shr) (fr':=true) (j:=k) rfl (eP (sm9 (by omega)) (sm9 (by omega)))) rfl) (aV (k:=.shr) (fr:=true) (i:=7) (k':=.shr) (fr':=true) (j:=k) rfl rfl (eP (sm9 (by decide)) (sm9 (by omega)))) rfl) (k':=.shr) (fr':=true) (j:=2147483629) rfl (gA (by decide)))
 have e2:aO 3 (cA (bN (vE 3) (vE 3)) (cE (.int 2147483587))) [some ⟨.shr,false,.int c⟩,some ⟨.shr,false,.int k⟩,some ⟨.shr,false,.int m⟩,some ⟨.shr,true,.int x⟩]=.nx [some ⟨.shr,false,.int c⟩,some ⟨.shr,false,.int k⟩,some ⟨.shr,false,.int m⟩,some ⟨.shr,true,.int y⟩] :=
  set_shr (aV (aV (k:=.shr) (fr:=true) (i:=x) (k':=.shr) (fr':=true) (j:=x) rfl rfl (eP (aO4 x0 (by omega)) (aO4 x0 (by omega)))) (k':=.shr) (fr':=true) (j:=2147483587) rfl (gA (by decide)))
 have e3:bM (cA (cA (bN (vE 3) (cH (vE 3) (cE (.int 48271)))) (cE (.int 2147483563))) (vE 2)) [some ⟨.shr,false,.int c⟩,some ⟨.shr,false,.int k⟩,some ⟨.shr,false,.int m⟩,some ⟨.shr,true,.int y⟩]=.rt ⟨.shr,true,.int (z%m)⟩ :=
  fA (aV (aV (aV (k:=.shr) (fr:=true) (i:=y) rfl (aV (k:=.shr) (fr:=true) (i:=y) (k':=.shr) (fr':=true) (j:=48271) rfl rfl rfl) (eP (aO4 y0 (by omega)) (small (M:=4294967296) (gG (by decide)) (by omega)))) (k':=.shr) (fr':=true) (j:=2147483563) rfl (gA (by decide))) (k':=.shr) (fr':=true) (j:=m) rfl (gA hm))
 exact(cJ rfl ((aM e1).trans ((aM e2).trans e3))).trans rfl
theorem aSh {n:Int}{len:Nat}(h0:0<=n)(h1:n<len):seqIndex? n len=some n.toNat:=by
 unfold seqIndex?;have h:¬ n<0:=by omega
 simp[h,h0,h1]
theorem aC2:∀ (W:List Int) (m:Nat),(li W).eraseIdx m=li (W.eraseIdx m)
 | [],_=>rfl
 | _ :: _,0=>rfl
 | x :: W,m+1=>by
  show D.int x :: (li W).eraseIdx m=D.int x :: li (W.eraseIdx m)
  rw[aC2 W m]
theorem yM {j i:Nat}{k:FE}{ρ:Mir.Env}{F W:List Int}{f1 f2:Bool}{kd:Kd}{fr:Bool}{n:Int}(hj:ρ[j]?=some (some ⟨.own,f1,.lst (li F)⟩))(hi:ρ[i]?=some (some ⟨.own,f2,.lst (li W)⟩))(hk:k ρ=.ok ⟨kd,fr,.int n⟩)(h0:0<=n)(h1:n<W.length)(hW:W.length<=1000)(hF:F.length<=1000)(ne:j≠i) :
 lR j i k ρ=.nx ((ρ.set i (some ⟨.own,f2,.lst (li (W.eraseIdx n.toNat))⟩)).set j (some ⟨.own,f1&&f2,.lst (li (F++[W.getD n.toNat 0]))⟩)):=by
 have o1:lW j ρ=.ok (f1,li F):=by unfold lW;rw[hj]
 have o2:lW i ρ=.ok (f2,li W):=by unfold lW;rw[hi]
 have ix:seqIndex? n (li W).length=some n.toNat:=aSh h0 (by rw[Ac];exact h1)
 have hl:n.toNat<W.length:=by omega
 have gt:(li W)[n.toNat]?=some (.int (W.getD n.toNat 0)):=sO hl;have c:j≠i/\(li F).length<sizeLine/\-(2^63)<=n/\n<2^63:=⟨ne,by rw[Ac,sizeLine_eq];omega,by omega,by omega⟩
 simp only[lR,o1,o2,R.at,hk,asI,ix,gt];rw[if_pos c];rw[aC2];simp[li]
end Sm
namespace Sm
open PySem L2 Mir Srt
def mN (m:Nat):List Int:=(Ao m).map fun (i:Nat)=>(i:Int)
theorem aMx (m:Nat):(mN m).length=m:=by simp[mN]
theorem aK6 {m:Nat}{x:Int}(h:x∈mN m):0<=x/\x<m:=by
 obtain⟨i,hi,rfl⟩:=(Ak.mp h);have:=Bi.mp hi
 omega
theorem aDx (m:Nat):(mN m).Nodup:=by
 show List.Pairwise (fun a b=>a≠b) (Ge _ _)
 rw[Co];exact Dz (fun {a b} h e=>h (by omega)) (show List.Pairwise (fun a b=>a≠b) (Ao m) from List.nodup_range)
theorem aSd (m:Nat):kP 0 m=li (mN m):=by
 rw[aMd,mN,li,Bb];rfl
theorem aFl {f:FE}{ρ:Mir.Env}{k:Kd}{fr:Bool}{m:Nat}(h:f ρ=.ok ⟨k,fr,.int m⟩)(hm:m<=1000):qY f ρ=.ok ⟨.tmp,true,.lst (li (mN m))⟩:=by
 have c:(0:Int)<=(m:Int)/\(m:Int)<=1000:=by omega
 simp only[qY,h,R.ok_bind,asI,if_pos c,Br,aSd]
structure Draw (m:Nat)(W F:List Int)(j:Nat):Prop where
 pm:(W++F).Perm (mN m)
 ln:F.length=j
theorem Draw.wl {m:Nat}{W F:List Int}{j:Nat}(d:Draw m W F j):W.length+j=m:=by
 have:=d.pm.length_eq
 rw[Ai,d.ln,aMx]at this;exact this
theorem wF:∀ (W:List Int) (i:Nat),i<W.length->(W.getD i 0 :: W.eraseIdx i).Perm W
 | [],i,h=>absurd h (Gs i)
 | _ :: _,0,_=>Ck _
 | x :: W,i+1,h=>by
  have ih:=wF W i (by simpa using h)
  have e:(x :: W).getD (i+1) 0=W.getD i 0:=by simp
  rw[e];show (W.getD i 0 :: x :: W.eraseIdx i).Perm (x :: W)
  exact(List.Perm.swap x (W.getD i 0) (W.eraseIdx i)).trans (ih.cons x)
theorem Draw.next {m:Nat}{W F:List Int}{j i:Nat}(d:Draw m W F j)(h:i<W.length):Draw m (W.eraseIdx i) (F++[W.getD i 0]) (j+1):=by
 refine⟨List.Perm.trans ?_ d.pm,by simp[d.ln]⟩
 refine List.Perm.trans ?_ ((wF W i h).append_right F)
 rw[←Bv];exact List.perm_append_singleton _ _
abbrev aJ0 (φ:Φ):FS :=
 (aP (aO 4 (qY (vE 2)))
 (aP (aO 5 (cN []))
 (aP (cB (cV (vE 3)) (.nm 6)
  (lR 5 4 (aC φ [vE 0,cH (vE 1) (vE 6),bX (vE 4)])))
 (bM (nK (vE 5))))))
end Sm
namespace Sm
open PySem L2 Mir Srt
theorem p9 {ρ:Mir.Env}:pW (cE (.int 10)) (cE (.int 9)) ρ=.ok (sc (.int 1000000000)):=rfl
abbrev dgb:FS:=(aP (aO 6 (cA (vE 0) (bX (vE 3))))
 (aP (aO 0 (jR (vE 0) (bX (vE 3))))
 (lR 4 3 (vE 6))))
abbrev aOj:FS :=
 (aP (aO 3 (qY (vE 1)))
 (aP (aO 4 (cN []))
 (aP (cB (cV (vE 2)) (.nm 5) dgb)
 (bM (dH [nK (vE 4),eM (cA (vE 0) (cH (bN (cE (.int 2)) (pW (cE (.int 10)) (cE (.int 9)))) (cE (.int 1)))) (pW (cE (.int 10)) (cE (.int 9)))])))))
theorem aDw {W:List Int}{ρ:Mir.Env}{i:Nat}{k:Kd}{fr:Bool}(h:vE i ρ=.ok ⟨k,fr,.lst (li W)⟩):bX (vE i) ρ=.ok ⟨.shr,true,.int (W.length:Nat)⟩:=by
 refine(lE h).trans ?_
 rw[Ac];rfl
end Sm
namespace Sm
open PySem L2 Mir Srt
theorem aOg {f g h:FE}{ρ:Mir.Env}{a b c:Int}(h1:f ρ=.ok ⟨.shr,true,.int a⟩)(h2:g ρ=.ok ⟨.shr,true,.int b⟩)(h3:h ρ=.ok ⟨.shr,true,.int c⟩):cN [f,g,h] ρ=.ok ⟨.tmp,true,.lst (li [a,b,c])⟩:=by
 have hz:([D.int a,.int b,.int c]:List D).length<=sizeLine:=by show 3<=sizeLine;decide
 have e:evs [f,g,h] ρ=.ok [⟨.shr,true,.int a⟩,⟨.shr,true,.int b⟩,⟨.shr,true,.int c⟩]:=aB h1 (aB h2 (aB h3 aK));have g':gives [⟨.shr,true,.int a⟩,⟨.shr,true,.int b⟩,⟨.shr,true,.int c⟩]=.ok (true,[.int a,.int b,.int c]):=rfl;simp only[cN,e,R.ok_bind,g'];exact if_pos hz
abbrev drb (φd φc:Φ):FS:=(ifS (bT (eqE (cA (vE 5) (cE (.int 2))) (cE (.int 1))))
 (mY 4 (aC φd [jR (vE 5) (cE (.int 2)),vE 1,vE 2]))
 (aP (aO 6 (bD (cN [eM (cA (jR (vE 5) (cE (.int 8))) (cE (.int 7))) (cE (.int 3)),cA (jR (vE 5) (cE (.int 8))) (pW (cE (.int 10)) (cE (.int 9))),eM (cE (.int 0)) (cA (jR (vE 5) (cE (.int 8))) (pW (cE (.int 10)) (cE (.int 9))))]) (cA (cA (jR (vE 5) (cE (.int 2))) (cE (.int 4))) (cE (.int 3)))))
 (mY 4 (dH [aC φc [jR (vE 5) (cE (.int 2)),vE 3,vE 1,vE 2],vE 6]))))
abbrev aQe (φd φc φg:Φ):FS :=
 (aP (aO 4 (cN []))
 (aP (cB (cW (vE 0)) (.nm 5) (drb φd φc))
 (bM (aC φg [vE 4]))))
abbrev dE (C:D)(m z:Nat)(f:Int)(acc:List Tm)(x5 x6:Option Res):Mir.Env:=[some ⟨.shr,false,C⟩,some ⟨.shr,false,.int m⟩,some ⟨.shr,false,.int z⟩,some ⟨.shr,false,.int f⟩,some ⟨.own,true,aD acc⟩,x5,x6]
end Sm
namespace Sm
open PySem L2 Mir Srt
def tV (xs:List Int)(lo hi:Option Int):List Int:=(xs.drop (HT.sIx xs.length 0 lo)).take (HT.sIx xs.length xs.length hi-HT.sIx xs.length 0 lo)
theorem aLg (xs:List Int)(lo hi:Option Int):lG (li xs) lo hi=li (tV xs lo hi):=by
 unfold lG tV li;rw[Ac,List.map_take,List.map_drop]
theorem aNu (xs:List Int)(a b:Nat):(tV xs (some (a:Int)) (some (b:Int))).length<=b-a:=by
 unfold tV;rw[HT.kY,HT.kY,Ca];omega
def fE (ns:List Int)(k:Nat):Int:=if k<ns.length then ns.getD k 0%2147483647 else 0
theorem vF (ns:List Int)(k:Nat):0<=fE ns k/\fE ns k<2147483647:=by
 unfold fE;split
 · exact⟨Cj _ (by decide),Bu _ (by decide)⟩
 · decide
abbrev aR9:FS:=(aP (ifS (bT (ltE (vE 1) (bX (vE 0))))
 (bM (cA (bD (vE 0) (vE 1)) (cE (.int 2147483647))))
 eC)
 (bM (cE (.int 0))))
theorem aTo (ns:List Int)(k:Nat):cG 2 2 aR9 [.lst (li ns),.int k]=.ok (sc (.int (fE ns k))):=by
 refine(cJ (r:=sc (.int (fE ns k))) rfl ?_).trans rfl
 have t:ltE (vE 1) (bX (vE 0)) (stE 2 [.lst (li ns),.int k])=.ok (sc (.bl (decide ((k:Int)<(li ns).length)))):=iY (i:=(k:Int)) (j:=((li ns).length:Int)) rfl (lE (ds:=li ns) rfl);by_cases h:k<ns.length
 · refine(uR (r:=sc (.int (fE ns k))) ?_)
   refine(aCy t).trans ?_
   rw[decide_eq_true (by simpa using h)]
   refine(if_pos rfl).trans ?_
   have e:=aV (C:=CP) (G:=fun i j=>i%j) (f:=bD (vE 0) (vE 1)) (g:=cE (.int 2147483647)) (ρ:=[some ⟨.shr,false,.lst (li ns)⟩,some ⟨.shr,false,.int k⟩]) (j:=2147483647) (mX (ds:=li ns) (i:=k) (z:=ns.getD k 0) rfl rfl (sO h)) rfl (decide_eq_true (by decide))
   refine(fA e).trans ?_
   unfold fE;rw[if_pos h];rfl
 · refine(aM (ρ1:=stE 2 [.lst (li ns),.int k]) ?_).trans ?_
   · refine(aCy t).trans ?_
     rw[decide_eq_false (by simpa using h)]
     rfl
   · unfold fE
     rw[if_neg h];rfl
abbrev S0 (ns:List Int):Option Res:=some ⟨.shr,false,.lst (li ns)⟩
abbrev iR (i:Int):Option Res:=some ⟨.shr,true,.int i⟩
abbrev oR (S:List Tm):Option Res:=some ⟨.own,true,aD S⟩
theorem aO8 {φ:Φ}(hφ:∀ ns k,φ [.lst (li ns),.int (k:Nat)]=.ok (sc (.int (fE ns k))))(ns:List Int)(k:Nat)(r:List (Option Res)):aC φ [vE 0,cE (.int k)] (S0 ns :: r)=.ok ⟨.shr,true,.int (fE ns k)⟩:=dJ (rs:=[⟨.shr,false,.lst (li ns)⟩,⟨.shr,true,.int k⟩]) (aB rfl (aB rfl aK)) (hφ ns k)
theorem aRi {ns:List Int}{r:List (Option Res)}{lo hi:FO}{a b:Option Int}(h1:lo (S0 ns :: r)=.ok a)(h2:hi (S0 ns :: r)=.ok b):tP (vE 0) lo hi (S0 ns :: r)=.ok ⟨.tmp,false,.lst (li (tV ns a b))⟩:=by
 refine(aQy (k:=.shr) (fr:=false) (ds:=li ns) rfl h1 h2).trans ?_
 rw[aLg]
theorem aCr (p:List Int)(j:Nat):lG (li p) (some (j:Int)) none=li (p.drop j):=by
 rw[aLg];unfold tV;rw[HT.vL,HT.kY];rcases Gp p.length j with h | h
 · rw[Nat.min_eq_right (Eh h),Ej (Af _),Ej (Eh h)];simp
 · rw[Gu h,Du (by rw[Di];exact Af _)]
theorem aG3 {f g:FE}{ρ:Mir.Env}{k k':Kd}{fr fr':Bool}{p:List Int}{j:Nat}(h1:f ρ=.ok ⟨k,fr,.tup (li p)⟩)(h2:g ρ=.ok ⟨k',fr',.int j⟩)(hj:j<p.length):iE f noO (soO g) ρ=.ok ⟨.shr,fr,.tup (li (p.take j))⟩:=by
 have nw:¬ (HT.sIx (li p).length 0 none=0/\HT.sIx (li p).length (li p).length (some (j:Int))=(li p).length):=by
  rw[HT.kY];simp;omega
 simp only[iE,h1,noO,soO,h2,R.ok_bind,asI,asT];rw[if_neg nw,aCh p j hj]
theorem aGy {f g:FE}{ρ:Mir.Env}{k k':Kd}{fr fr':Bool}{p:List Int}{j:Nat}(h1:f ρ=.ok ⟨k,fr,.tup (li p)⟩)(h2:g ρ=.ok ⟨k',fr',.int j⟩)(hj:0<j)(hp:0<p.length):iE f (soO g) noO ρ=.ok ⟨.shr,fr,.tup (li (p.drop j))⟩:=by
 have nw:¬ (HT.sIx (li p).length 0 (some (j:Int))=0/\HT.sIx (li p).length (li p).length none=(li p).length):=fun⟨h,_⟩=>by
  rw[HT.kY,Ac]at h;omega
 simp only[iE,h1,noO,soO,h2,R.ok_bind,asI,asT];rw[if_neg nw,aCr]
def hkT (row:List Int)(t:Tm)(j:Nat):Tm:=(t.1.take j++t.1.drop (j+1),t.2*sgn j*row.getD (t.1.getD j 0).toNat 0)
def hkR (row:List Int)(t:Tm)(n:Nat):List Tm:=(Ao n).map (hkT row t)
def hook (row:List Int)(S:List Tm):List Tm:=S.flatMap fun t=>hkR row t t.1.length
theorem aLh (row:List Int)(t:Tm)(n:Nat):hkR row t (n+1)=hkR row t n++[hkT row t n]:=by
 unfold hkR;rw[Gv,Bk];rfl
structure RowOk (row:List Int):Prop where
 ln:row.length<=100
 nb:∀ x∈row,x.natAbs<=2^170
theorem aJa {n:Nat}(h:n<=2^900):n<2^1000:=iI h
theorem aMt {row:List Int}(hr:RowOk row)(k:Nat):(row.getD k 0).natAbs<=2^170:=by
 by_cases h:k<row.length
 · exact hr.nb _ (Mir.eV h)
 · have:row.getD k 0=0:=by simp[List.getD,Bx (Gm h)]
   rw[this];exact Cc (2^170)
theorem lP (j:Nat):(sgn j).natAbs<=1:=by rcases vW j with z | z<;>rw[z]<;>decide
theorem aVy {row:List Int}(hr:RowOk row){t:Tm}(ht:t.2.natAbs<=2^240)(j:Nat):(hkT row t j).2.natAbs<=2^410:=by
 show (t.2*sgn j*row.getD (t.1.getD j 0).toNat 0).natAbs<=_
 rw[Ct,Ct];exact Ah (Bg (Bg ht (lP j)) (aMt hr _)) (by rw[Gy,←Fe];exact Af _)
theorem aQg {t:Tm}(ht:t.2.natAbs<=2^240)(j:Nat):(t.2*sgn j).natAbs<=2^240:=by
 rw[Ct];exact Ah (Bg ht (lP j)) (by rw[Gy];exact Af _)
abbrev hkb:FS:=(aP (aO 7 (bN (vE 4) (eM (cE (.int 1)) (bN (cE (.int 2)) (cA (vE 5) (cE (.int 2)))))))
 (mY 2 (dH [kL (iE (vE 3) (noO) (soO (vE 5))) (iE (vE 3) (soO (cH (vE 5) (cE (.int 1)))) (noO)),bN (vE 7) (bD (vE 0) (vE 6))])))
abbrev hE (row:List Int)(B:D)(acc:List Tm)(x3 x4 x5 x6 x7:Option Res):Mir.Env:=[some ⟨.shr,false,.lst (li row)⟩,some ⟨.shr,false,B⟩,oR acc,x3,x4,x5,x6,x7]
theorem aC6 {ρ:Mir.Env}{i j:Nat}(h:vE i ρ=.ok ⟨.shr,true,.int j⟩):eM (cE (.int 1)) (bN (cE (.int 2)) (cA (vE i) (cE (.int 2)))) ρ=.ok ⟨.shr,true,.int (sgn j)⟩ :=
 aV (k:=.shr) (fr:=true) (i:=1) rfl (aV (k:=.shr) (fr:=true) (i:=2) rfl (aV h (k':=.shr) (fr':=true) (j:=2) rfl (gA (by decide))) (eP (gG (by decide)) (small (M:=2) (gG (by decide)) (by omega)))) rfl
theorem aNx {row:List Int}(hr:RowOk row)(B:D)(acc:List Tm)(ha:acc.length<=1000){t:Tm}(ht:t.2.natAbs<=2^240)(hl:t.1.length<=100)(rg:∀ x∈t.1,0<=x/\x<row.length)(j:Nat)(hj:j<t.1.length)(f3 f4 f5 f6:Bool)(x7:Option Res) :
 ∃ y7,hkb (hE row B acc (some ⟨.shr,f3,.tup (li t.1)⟩) (some ⟨.shr,f4,.int t.2⟩) (some ⟨.shr,f5,.int j⟩) (some ⟨.shr,f6,.int (t.1.getD j 0)⟩) x7)=.nx (hE row B (acc++[hkT row t j]) (some ⟨.shr,f3,.tup (li t.1)⟩) (some ⟨.shr,f4,.int t.2⟩) (some ⟨.shr,f5,.int j⟩) (some ⟨.shr,f6,.int (t.1.getD j 0)⟩) y7):=by
 have v5:∀ x7,vE 5 (hE row B acc (some ⟨.shr,f3,.tup (li t.1)⟩) (some ⟨.shr,f4,.int t.2⟩) (some ⟨.shr,f5,.int j⟩) (some ⟨.shr,f6,.int (t.1.getD j 0)⟩) x7)=.ok ⟨.shr,true,.int j⟩:=fun x7=>by
  show R.ok (⟨.shr,f5||(D.int (j:Int)).imm,.int j⟩:Res)=_
  rw[show (D.int (j:Int)).imm=true from rfl,Gd]
 have e1:aO 7 (bN (vE 4) (eM (cE (.int 1)) (bN (cE (.int 2)) (cA (vE 5) (cE (.int 2)))))) (hE row B acc (some ⟨.shr,f3,.tup (li t.1)⟩) (some ⟨.shr,f4,.int t.2⟩) (some ⟨.shr,f5,.int j⟩) (some ⟨.shr,f6,.int (t.1.getD j 0)⟩) x7)=.nx (hE row B acc (some ⟨.shr,f3,.tup (li t.1)⟩) (some ⟨.shr,f4,.int t.2⟩) (some ⟨.shr,f5,.int j⟩) (some ⟨.shr,f6,.int (t.1.getD j 0)⟩) (iR (t.2*sgn j))) :=
  set_shr (aV (k:=.shr) (fr:=f4||(D.int t.2).imm) (i:=t.2) rfl (aC6 (v5 x7)) (eP (tD ht) (small (M:=1) (gG (by decide)) (lP j))))
 have mem:=Mir.eV (xs:=t.1) (d:=0) hj;obtain⟨w0,w1⟩:=rg _ mem;obtain⟨w,hw⟩:=Dr w0
 have e2:bD (vE 0) (vE 6) (hE row B acc (some ⟨.shr,f3,.tup (li t.1)⟩) (some ⟨.shr,f4,.int t.2⟩) (some ⟨.shr,f5,.int j⟩) (some ⟨.shr,f6,.int (t.1.getD j 0)⟩) (iR (t.2*sgn j)))=.ok ⟨.shr,true,.int (row.getD (t.1.getD j 0).toNat 0)⟩:=by
  rw[hw,Br];exact mX (k:=.shr) (fr:=false) (k':=.shr) (fr':=f6||(D.int (w:Int)).imm) (i:=w) rfl rfl (sO (by omega))
 have v3:vE 3 (hE row B acc (some ⟨.shr,f3,.tup (li t.1)⟩) (some ⟨.shr,f4,.int t.2⟩) (some ⟨.shr,f5,.int j⟩) (some ⟨.shr,f6,.int (t.1.getD j 0)⟩) (iR (t.2*sgn j)))=.ok ⟨.shr,true,.tup (li t.1)⟩:=wG (p:=t.1) (f:=f3) (r:=[]);have a5:cH (vE 5) (cE (.int 1)) (hE row B acc (some ⟨.shr,f3,.tup (li t.1)⟩) (some ⟨.shr,f4,.int t.2⟩) (some ⟨.shr,f5,.int j⟩) (some ⟨.shr,f6,.int (t.1.getD j 0)⟩) (iR (t.2*sgn j)))=.ok ⟨.shr,true,.int ((j+1:Nat):Int)⟩:=aV (v5 _) (k':=.shr) (fr':=true) (j:=1) rfl rfl;have e3:=qZ (aG3 v3 (v5 _) hj) (aGy (j:=j+1) v3 a5 (by omega) (by omega)) (by rw[Ca,Di];omega)
 have e4:=gX e3 (aV (C:=CM) (G:=fun i j=>i*j) (f:=vE 7) (k:=.shr) (fr:=true) (i:=t.2*sgn j) rfl e2 (eP (tD (aQg ht j)) (aJa (Ah (aMt hr _) (Ar (by decide) (by decide)))))) (by decide) (by decide)
 refine⟨iR (t.2*sgn j),(aM e1).trans ?_⟩
 refine(wC (fr:=true) (ds:=acc.map mkP) rfl e4 (by decide) (by rw[Ac,sizeLine_eq];omega)).trans ?_
 show RS.nx [_,_,some (⟨.own,true,.lst (acc.map mkP++[mkP (hkT row t j)])⟩:Res),_,_,_,_,_]=.nx [_,_,some (⟨.own,true,.lst ((acc++[hkT row t j]).map mkP)⟩:Res),_,_,_,_,_]
 rw[Bk];rfl
end Sm
namespace Sm
open PySem L2 Mir Srt
theorem aVw {row:List Int}(hr:RowOk row)(B:D)(acc:List Tm){t:Tm}(ht:t.2.natAbs<=2^240)(hl:t.1.length<=100)(ha:acc.length+t.1.length<=1000)(rg:∀ x∈t.1,0<=x/\x<row.length)(x5 x6 x7:Option Res) :
 ∃ y5 y6 y7,cB (uO (vE 3)) (.tp [.nm 5,.nm 6]) hkb (hE row B acc (some ⟨.shr,false,.tup (li t.1)⟩) (some ⟨.shr,false,.int t.2⟩) x5 x6 x7)=.nx (hE row B (acc++hkR row t t.1.length) (some ⟨.shr,false,.tup (li t.1)⟩) (some ⟨.shr,false,.int t.2⟩) y5 y6 y7):=by
 obtain⟨ρ',l1,y5,y6,y7,l2⟩:=jZ (tg:=.tp [.nm 5,.nm 6]) (b:=hkb) (fr:=false||(D.tup (li t.1)).imm) (inj:=fun j=>.tup [.int (j:Int),.int (t.1.getD j 0)])
  (E:=fun j ρ=>∃ x5 x6 x7,ρ=hE row B (acc++hkR row t j) (some ⟨.shr,false,.tup (li t.1)⟩) (some ⟨.shr,false,.int t.2⟩) x5 x6 x7) t.1.length 0 (hE row B acc (some ⟨.shr,false,.tup (li t.1)⟩) (some ⟨.shr,false,.int t.2⟩) x5 x6 x7) ⟨x5,x6,x7,by rw[show hkR row t 0=[] from rfl,Bt]⟩ fun j _ hj ρ ⟨x5,x6,x7,e⟩=>by
   subst e;obtain⟨y7,eb⟩:=aNx hr B (acc++hkR row t j) (by rw[Ai,hkR,Ac,Eb];omega) ht hl rg j (by omega) false false (false||(D.tup (li t.1)).imm) (false||(D.tup (li t.1)).imm) x7
   refine⟨_,_,rfl,eb,some ⟨.shr,false||(D.tup (li t.1)).imm,.int j⟩,some ⟨.shr,false||(D.tup (li t.1)).imm,.int (t.1.getD j 0)⟩,y7,?_⟩
   rw[aLh,Bv]
 rw[Cv]at l2;refine⟨y5,y6,y7,?_⟩
 refine(eB (fr:=false||(D.tup (li t.1)).imm) (ds:=mZ (li t.1)) rfl).trans ?_
 rw[zX,l1,l2]
theorem nL (row:List Int):∀ (S:List Tm) (L:Nat),(∀ t∈S,t.1.length=L)->(hook row S).length=S.length*L
 | [],L,_=>by simp[hook]
 | t :: S,L,h=>by
  show (hkR row t t.1.length++hook row S).length=_
  rw[Ai,nL row S L fun u hu=>h u (Ad _ hu),hkR,Ac,Eb,h t Ab,As,Et,Nat.add_comm]
theorem aF6 {row:List Int}(hr:RowOk row)(B:D){L:Nat}(hL:L<=20):∀ (S:List Tm),(∀ t∈S,t.1.length=L/\t.2.natAbs<=2^240/\∀ x∈t.1,0<=x/\x<row.length)->∀ (acc:List Tm) (x3 x4 x5 x6 x7:Option Res),acc.length+S.length*L<=1000 ->
 ∃ y3 y4 y5 y6 y7,fN (.tp [.nm 3,.nm 4]) (cB (uO (vE 3)) (.tp [.nm 5,.nm 6]) hkb) false (S.map mkP) (hE row B acc x3 x4 x5 x6 x7)=.nx (hE row B (acc++hook row S) y3 y4 y5 y6 y7)
 | [],_,acc,x3,x4,x5,x6,x7,_=>⟨x3,x4,x5,x6,x7,by rw[show hook row []=[] from rfl,Bt];rfl⟩
 | t :: S,h,acc,x3,x4,x5,x6,x7,hz=>by
  rw[As,Et]at hz;obtain⟨h1,h2,h3⟩:=h t Ab;obtain⟨y5,y6,y7,er⟩:=aVw hr B acc h2 (by omega) (by omega) h3 x5 x6 x7
  obtain⟨z3,z4,z5,z6,z7,ih⟩:=aF6 hr B hL S (fun u hu=>h u (Ad _ hu)) (acc++hkR row t t.1.length) (some ⟨.shr,false,.tup (li t.1)⟩) (some ⟨.shr,false,.int t.2⟩) y5 y6 y7 (by rw[Ai,hkR,Ac,Eb];omega)
  refine⟨z3,z4,z5,z6,z7,?_⟩
  have bd:Tg.bind false (.tp [.nm 3,.nm 4]) (mkP t) (hE row B acc x3 x4 x5 x6 x7)=.ok (hE row B acc (some ⟨.shr,false,.tup (li t.1)⟩) (some ⟨.shr,false,.int t.2⟩) x5 x6 x7):=rfl;simp only[Ap,fN,bd,R.at,er];refine ih.trans ?_
  rw[Bv];rfl
def Far (row:List Int)(t:Tm):Prop:=∃ x∈t.1,(row.length:Int)<=x
theorem aWi (row:List Int)(B:D)(t:Tm)(hl:t.1.length<=100):bT (aH2 (bR (pU (vE 2)) 1 [0] (.nm 0) (bE (geE (vE 0) (bX (vE 1)))))) [some ⟨.shr,false,.lst (li row)⟩,some ⟨.shr,false,B⟩,some ⟨.shr,false,.tup (li t.1)⟩,some ⟨.shr,false,.int t.2⟩]=.ok (t.1.any fun x=>decide ((row.length:Int)<=x)):=by
 refine iD (k:=.shr) (fr:=true) ?_
 have c:bR (pU (vE 2)) 1 [0] (.nm 0) (bE (geE (vE 0) (bX (vE 1)))) [some ⟨.shr,false,.lst (li row)⟩,some ⟨.shr,false,B⟩,some ⟨.shr,false,.tup (li t.1)⟩,some ⟨.shr,false,.int t.2⟩]=.ok ⟨.tmp,true,.lst (t.1.map fun x=>.bl (decide ((row.length:Int)<=x)))⟩:=by
  refine jT (st:=true) (fr:=false||(D.tup (li t.1)).imm) (inj:=D.int) (xs:=t.1) rfl (fun v _=>?_) (by rw[sizeLine_eq];omega)
  refine⟨[some ⟨.shr,false||(D.tup (li t.1)).imm,.int v⟩,some ⟨.shr,false,.lst (li row)⟩],.shr,rfl,qX ?_,by decide⟩
  have e:bX (vE 1) [some ⟨.shr,false||(D.tup (li t.1)).imm,.int v⟩,some ⟨.shr,false,.lst (li row)⟩]=.ok ⟨.shr,true,.int (row.length:Nat)⟩:=by
   refine(lE (k:=.shr) (fr:=false||(D.lst (li row)).imm) (ds:=li row) rfl).trans ?_
   rw[Ac];rfl
  exact iY (G:=fun i j=>decide (j<=i)) (k:=.shr) (fr:=(false||(D.tup (li t.1)).imm)||(D.int v).imm) (i:=v) rfl e
 simp only[aH2,c,R.ok_bind,asL,zF (fun x=>decide ((row.length:Int)<=x)) t.1];simp[Gq]
abbrev rE (row:List Int)(B:D)(x2 x3:Option Res):Mir.Env:=[some ⟨.shr,false,.lst (li row)⟩,some ⟨.shr,false,B⟩,x2,x3]
theorem mM {row:List Int}{S:List Tm}{u:Tm}(h:u∈hook row S):∃ t∈S,∃ j,j<t.1.length/\u=hkT row t j:=by
 obtain⟨t,ht,h⟩:=Bz.mp h;obtain⟨j,hj,e⟩:=Ak.mp h;exact⟨t,ht,j,Bi.mp hj,e.symm⟩
theorem aLv {row:List Int}(hr:RowOk row){L:Nat}{S:List Tm}(hS:Sum L S):Fit (hook row S):=by
 have hL:=hS.hL;have hn:=hS.ln
 have sub:∀ (t:Tm) (j:Nat),(t.1.take j++t.1.drop (j+1)).Sublist t.1:=fun t j=>by
  conv=>rhs;rw[←Fk j t.1]
  refine List.Sublist.append_left ?_ _
  rw[←List.drop_drop];exact List.drop_sublist _ _
 have sz:∀ u∈hook row S,u.1.length=L-1:=fun u hu=>by
  obtain⟨t,ht,j,hj,rfl⟩:=mM hu;show (t.1.take j++t.1.drop (j+1)).length=_
  rw[Ai,Ca,Di];have:=hS.sz t ht
  omega
 have ln:(hook row S).length<=400:=by
  rw[nL row S L hS.sz];exact Ah (Bg hn hL) (by decide)
 refine⟨fun u hu=>by rw[sz u hu];omega,fun u hu=>?_,?_,⟨L-1,sz⟩,by omega⟩
 · obtain⟨t,ht,j,hj,rfl⟩:=mM hu
   exact aJa (Ah (aVy hr (hS.nb t ht) j) (Ar (by decide) (by decide)))
 · have of:∀ k∈(acc [] (hook row S)).map (·.1),∃ t∈S,∃ j,k.Perm (t.1.take j++t.1.drop (j+1))/\k=srt ix k/\k.length=L-1:=fun k hk=>by
    rcases mO (hook row S) [] hk with z | ⟨u,hu,e⟩
    · cases z
    · obtain⟨t,ht,j,hj,eu⟩:=mM hu
      refine⟨t,ht,j,?_,?_,?_⟩
      · rw[e];have:=eE u;rw[eu]at this ⊢;exact this
      · rw[e];exact gJ eQ (Ck _) (gM eQ _)
      · rw[e,rH];exact sz u hu
   have:=aC4 (ks:=(acc [] (hook row S)).map (·.1)) (T:=L-1) (iO _ [] Cl) (fun k hk=>let ⟨_,_,_,_,h,_⟩:=of k hk;h) (fun k hk x hx=>by
    obtain⟨t,ht,j,p,_⟩:=of k hk;exact hS.rg t ht x ((sub t j).subset (p.mem_iff.mp hx))) (fun k hk x=>by
    obtain⟨t,ht,j,p,_⟩:=of k hk;have:=Dj.mp (p.nodup_iff.mpr ((sub t j).nodup (hS.nd t ht))) x
    omega) fun k hk=>let ⟨_,_,_,_,_,h⟩:=of k hk;h
   rw[Ac]at this;omega
abbrev vI (φr φs:Φ):FS :=
 (aP (jK (aC φr [vE 0,vE 1]))
 (aP (aO 2 (cN []))
 (aP (cB (cW (vE 1)) (.tp [.nm 3,.nm 4]) (cB (uO (vE 3)) (.tp [.nm 5,.nm 6]) hkb))
 (bM (aC φs [vE 2])))))
end Sm
namespace Sm
open PySem L2 Mir Srt
theorem kT {tg:Tg}{b:FS}{fr:Bool}{d:D}{r:List D}{ρ ρ1 ρ2:Mir.Env}(h1:tg.bind fr d ρ=.ok ρ1)(h2:b ρ1=.nx ρ2):fN tg b fr (d :: r) ρ=fN tg b fr r ρ2:=by
 simp only[fN,h1,R.at,h2]
end Sm
namespace Sm
open PySem L2 Mir Srt
theorem aK0 (S:List Tm):(aD S).pl 6=true:=by
 show (D.lst (S.map mkP)).pl 6=true
 simp only[D.pl];refine zY fun d hd=>?_
 obtain⟨t,_,rfl⟩:=Ak.mp hd;show (D.tup [.tup (li t.1),.int t.2]).pl 5=true
 simp[D.pl,D.pls,aSu]
end Sm
namespace Sm
open PySem L2 Mir Srt
def aDc (k:List Int):Nat:=k.count 0+2*k.count 1+4*k.count 2+8*k.count 3+16*k.count 4
def aJf (n:Nat):Nat:=n%2+n/2%2+n/4%2+n/8%2+n/16%2
theorem aEi:∀ T,T<=5->((Ao 32).filter fun n=>aJf n==T).length<=10:=by decide +kernel
theorem aDo:∀ a,a<2->∀ b,b<2->∀ c,c<2->∀ d,d<2->∀ e,e<2->aJf (a+2*b+4*c+8*d+16*e)=a+b+c+d+e:=by decide +kernel
theorem aWv {ks:List (List Int)}{T:Nat}(nd:ks.Nodup)(hs:∀ k∈ks,k=srt ix k)(rg:∀ k∈ks,∀ x∈k,0<=x/\x<5)(n1:∀ k∈ks,k.Nodup)(ln:∀ k∈ks,k.length=T):ks.length<=10:=by
 have c1:∀ k∈ks,∀ x,k.count x<=1:=fun k hk x=>Dj.mp (n1 k hk) x;by_cases hT:T<=5
 · have inj:(ks.map aDc).Nodup:=by
    show List.Pairwise (fun a b=>a≠b) (ks.map aDc)
    rw[Co];refine Fb (fun {a b} ha hb n e=>n ?_) nd
    have a0:=c1 a ha 0;have a1:=c1 a ha 1;have a2:=c1 a ha 2;have a3:=c1 a ha 3;have a4:=c1 a ha 4;have b0:=c1 b hb 0;have b1:=c1 b hb 1;have b2:=c1 b hb 2;have b3:=c1 b hb 3;have b4:=c1 b hb 4;unfold aDc at e;have q0:a.count 0=b.count 0:=by omega
    have q1:a.count 1=b.count 1:=by omega
    have q2:a.count 2=b.count 2:=by omega
    have q3:a.count 3=b.count 3:=by omega
    have q4:a.count 4=b.count 4:=by omega
    have pm:a.Perm b:=by
     rw[Fz];intro x;by_cases hx:0<=x/\x<5
     · have hx:x=0\/x=1\/x=2\/x=3\/x=4:=by omega
       rcases hx with e | e | e | e | e<;>subst e<;>assumption
     · rw[Cp fun m=>hx (rg a ha x m),Cp fun m=>hx (rg b hb x m)]
    rw[hs a ha,hs b hb];exact gJ eQ ((dQ a).trans pm) (gM eQ a)
   have sub:∀ n∈ks.map aDc,n∈(Ao 32).filter fun n=>aJf n==T:=by
    intro n hn;obtain⟨k,hk,rfl⟩:=Ak.mp hn;have a0:=c1 k hk 0;have a1:=c1 k hk 1;have a2:=c1 k hk 2;have a3:=c1 k hk 3;have a4:=c1 k hk 4;have s:=mI k (rg k hk);rw[ln k hk]at s;rw[Ds,Bi,beq_iff_eq];unfold aDc;rw[aDo _ (by omega) _ (by omega) _ (by omega) _ (by omega) _ (by omega)]
    omega
   have:=vH inj sub
   rw[Ac]at this;exact Ah this (aEi T hT)
 · cases ks with
   | nil=>exact Cc _
   | cons k r =>
    have a0:=c1 k Ab 0;have a1:=c1 k Ab 1;have a2:=c1 k Ab 2;have a3:=c1 k Ab 3;have a4:=c1 k Ab 4;have s:=mI k (rg k Ab);rw[ln k Ab]at s;omega
def Nb (B:Nat)(ts:List Tm):Prop:=∀ t∈ts,t.2.natAbs<=2^B
structure Five (T:Nat)(ts:List Tm):Prop where
 sz:∀ t∈ts,t.1.length=T
 rg:∀ t∈ts,∀ x∈t.1,0<=x/\x<5
theorem uL {ts:List Tm}:∀ p∈aN ts,∃ t∈ts,key t=p.1/\t.1.Nodup:=fun p hp=>by
 obtain⟨h1,h2⟩:=(mB ts p).mp hp;exact rF (h1▸h2)
theorem Five.sum {T:Nat}{ts:List Tm}(h:Five T ts):Five T (aN ts)/\(aN ts).length<=10:=by
 have f:Five T (aN ts):=⟨fun p hp=>by
  obtain⟨t,ht,e,_⟩:=uL p hp;rw[←e,rH];exact h.sz t ht,fun p hp x hx=>by
  obtain⟨t,ht,e,_⟩:=uL p hp;rw[←e]at hx
  exact h.rg t ht x ((eE t).mem_iff.mp hx)⟩
 refine⟨f,?_⟩
 have told:=lX ts
 have:=aWv (ks:=(aN ts).map (·.1)) (T:=T) told.ks (fun k hk=>by
  obtain⟨p,hp,rfl⟩:=Ak.mp hk;exact gJ eQ (Ck _) (told.up p hp)) (fun k hk=>by
  obtain⟨p,hp,rfl⟩:=Ak.mp hk;exact f.rg p hp) (fun k hk=>by
  obtain⟨p,hp,rfl⟩:=Ak.mp hk;exact told.nd p hp) (fun k hk=>by
  obtain⟨p,hp,rfl⟩:=Ak.mp hk
  exact f.sz p hp)
 rw[Ac]at this;exact this
theorem aD2 {ts:List Tm}{B c:Nat}(ln:ts.length<=2^c)(nb:Nb B ts):Nb (B+c) (aN ts):=fun p hp=>by
 have:=aAn ts [] (M:=0) (fun _ h=>nomatch h) nb p (jJ hp).1
 rw[Cv]at this;refine Ah this ?_
 rw[Fe,Nat.mul_comm];exact Fy _ ln
theorem Five.big {T:Nat}{ts:List Tm}(h:Five T ts)(hT:5<T):aN ts=[]:=by
 refine List.eq_nil_iff_forall_not_mem.mpr fun p hp=>?_
 have f:=h.sum.1;have nd:=(lX ts).nd p hp;have:=yQ (l:=p.1) (m:=cD 5) nd fun x hx=>fK.mpr (f.rg p hp x hx)
 rw[f.sz p hp,show (cD 5).length=5 from rfl]at this
 omega
theorem Five.sumS {T:Nat}{ts:List Tm}(h:Five T ts){B c:Nat}(ln:ts.length<=2^c)(nb:Nb B ts)(hB:B+c<=240)(hT:T<=20):Sum T (aN ts):=by
 obtain⟨f,l⟩:=h.sum;exact⟨by omega,hT,f.sz,f.rg,(lX ts).nd,fun p hp=>Ah (aD2 ln nb p hp) (Ar (by decide) hB)⟩
theorem Five.prod {T S:Nat}{a b:List Tm}(ha:Five T a)(hb:Five S b):Five (T+S) (bI a b):=by
 have mem:∀ t∈bI a b,∃ u∈a,∃ v∈b,t=(u.1++v.1,u.2*v.2):=fun t ht=>by
  obtain⟨u,hu,h⟩:=Bz.mp ht;obtain⟨v,hv,e⟩:=Ak.mp h;exact⟨u,hu,v,hv,e.symm⟩
 refine⟨fun t ht=>?_,fun t ht x hx=>?_⟩
 · obtain⟨u,hu,v,hv,rfl⟩:=mem t ht
   rw[Ai,ha.sz u hu,hb.sz v hv]
 · obtain⟨u,hu,v,hv,rfl⟩:=mem t ht
   rcases Bf.mp hx with q | q
   · exact ha.rg u hu x q
   · exact hb.rg v hv x q
theorem aFg {a b:List Tm}{B C:Nat}(ha:Nb B a)(hb:Nb C b):Nb (B+C) (bI a b):=fun t ht=>by
 obtain⟨u,hu,h⟩:=Bz.mp ht;obtain⟨v,hv,e⟩:=Ak.mp h;rw[←e];show (u.2*v.2).natAbs<=_
 rw[Ct,Fe];exact Bg (ha u hu) (hb v hv)
theorem Sum.five {L:Nat}{a:List Tm}(h:Sum L a):Five L a:=⟨h.sz,h.rg⟩
structure Rows (m:Nat)(rows:List (List Int)):Prop where
 m1:1<=m
 m5:m<=5
 ln:rows.length<=12
 sz:∀ r∈rows,r.length=m
 nb:∀ r∈rows,∀ x∈r,x.natAbs<=2^34
theorem aBn {r:List Int}(h:r.length<=5):Five 1 (dX r):=by
 refine⟨uC r,fun t ht x hx=>?_⟩
 rw[kH]at ht;obtain⟨i,hi,rfl⟩:=Ak.mp ht;have:=fK.mp hi
 rw[Aq.mp hx];omega
theorem rB (r:List Int):(dX r).length=r.length:=by rw[kH,Ac];simp[cD]
theorem uD {r:List Int}{B:Nat}(h:∀ x∈r,x.natAbs<=2^B):Nb B (dX r):=fun t ht=>by
 rw[kH]at ht;obtain⟨i,hi,rfl⟩:=Ak.mp ht;have:=fK.mp hi
 exact h _ (Mir.eV (by omega))
theorem aCc {m:Nat}(h5:m<=5){rows:List (List Int)}(hm:∀ r∈rows,r.length=m):Five rows.length (raw rows):=by
 rw[aEx rows.length rows rfl hm];refine⟨fun t ht=>?_,fun t ht x hx=>?_⟩
 · obtain⟨w,hw,rfl⟩:=Ak.mp ht
   exact wI hw
 · obtain⟨w,hw,rfl⟩:=Ak.mp ht
   have:=(jI.mp hw).2 x hx
   omega
theorem aJn (rows:List (List Int))(r:List Int):aN (bI (box rows) (dX r))=box (rows++[r]):=by
 unfold box;rw[aLr,wX]
theorem wJ {m:Nat}:∀ n,∀ rows:List (List Int),rows.length=n->Rows m rows->Sum n (box rows)/\Nb 200 (box rows)/\(n<=5->Nb (40*n) (box rows)):=by
 intro n;induction n with
 | zero =>
  intro rows h _;rw[Be.mp h,aGp];refine⟨aMk,fun t ht=>?_,fun _ t ht=>?_⟩<;>rw[Aq.mp ht]<;>decide
 | succ n ih =>
  intro rows h R;have hy:rows≠[]:=fun z=>by rw[z]at h;simp at h
  have hc:=Cb hy;have hl:rows.dropLast.length=n:=by rw[Dl];omega
  have mr:=Fl hy;have R':Rows m rows.dropLast:=⟨R.m1,R.m5,by have:=R.ln;omega,fun r hr=>R.sz r (Ec _ hr),fun r hr=>R.nb r (Ec _ hr)⟩
  obtain⟨i1,i2,i3⟩:=ih _ hl R';have rl:=R.sz _ mr;have m5:=R.m5;have lr:=R.ln;by_cases z:n+1<=5
  · have e:=aJn rows.dropLast (rows.getLast hy)
    rw[hc]at e;have f:=(aCc m5 R'.sz).sum
    have pl:(bI (box rows.dropLast) (dX (rows.getLast hy))).length<=2^6:=by
     rw[aB4,rB];exact Ah (Bg f.2 (show _<=5 by omega)) (by decide)
    have nb:=aFg (i3 (by omega)) (uD (R.nb _ mr))
    have fv:Five (n+1) (bI (box rows.dropLast) (dX (rows.getLast hy))):=i1.five.prod (aBn (by omega))
    have nb2:=aD2 pl nb;rw[e]at nb2;have h40:40*n+34+6=40*(n+1):=by omega
    rw[h40]at nb2;have sm:=fv.sumS pl nb (by omega) (by omega)
    rw[e]at sm;exact⟨sm,fun t ht=>Ah (nb2 t ht) (Ar (by decide) (by omega)),fun _=>nb2⟩
  · have e:box rows=[]:=(aCc m5 R.sz).big (by omega)
    rw[e];exact⟨aGn (by omega),(fun t ht=>by cases ht),fun _ t ht=>by cases ht⟩
end Sm
namespace Sm
open PySem L2 Mir Srt
theorem aRd {f g:FE}{ρ:Mir.Env}{k k':Kd}{fr fr':Bool}{b c:Bool}(h1:f ρ=.ok ⟨k,fr,.bl b⟩)(h2:g ρ=.ok ⟨k',fr',.bl c⟩):orT (bT f) (bT g) ρ=.ok (b||c):=by
 refine(aKl (iD h1) fun _=>iD h2).trans ?_
 cases b<;>rfl
theorem aV4 (m:Int):orT (bT (ltE (vE 0) (cE (.int 1)))) (bT (gtE (vE 0) (cE (.int 5)))) [some ⟨.shr,false,.int m⟩]=.ok (decide (m<1)||decide (5<m)) :=
 aRd (iY (G:=fun i j=>decide (i<j)) (k:=.shr) (fr:=true) (i:=m) (k':=.shr) (fr':=true) (j:=1) rfl rfl) (iY (G:=fun i j=>decide (j<i)) (k:=.shr) (fr:=true) (i:=m) (k':=.shr) (fr':=true) (j:=5) rfl rfl)
end Sm
namespace Sm
open PySem L2 Mir Srt
abbrev aNw (φc:Φ):FS :=
 (aP (jK (aC φc [vE 0]))
 (cB (aAw (vE 1)) (.tp [.nm 2,.nm 3])
  (ifS (bT (neE (bX (vE 3)) (vE 0)))
   (wV)
   eC)))
theorem aI1 (t:List (List Int)):mZ (lil t)=(t.zipIdx).map fun p=>.tup [.int p.2,.lst (li p.1)]:=aE4 (fun xs=>.lst (li xs)) t
theorem aLx {φc:Φ}(hc:∀ {m:Int},(decide (m<1)||decide (5<m))=false->φc [.int m]=.ok (sc .non)){m:Nat}{rows:List (List Int)}(m1:1<=m)(m5:m<=5)(sz:∀ r∈rows,r.length=m):cG 2 4 (aNw φc) [.int m,.lst (lil rows)]=.ok (sc .non):=by
 have e1:jK (aC φc [vE 0]) [some ⟨.shr,false,.int m⟩,some ⟨.shr,false,.lst (lil rows)⟩,none,none]=.nx [some ⟨.shr,false,.int m⟩,some ⟨.shr,false,.lst (lil rows)⟩,none,none]:=qE (dJ (rs:=[⟨.shr,true,.int m⟩]) (aB rfl aK) (hc (by rw[decide_eq_false (by omega),decide_eq_false (by omega)];rfl)))
 obtain⟨ρ',l1,x2,x3,l2⟩:=aC8 (β:=Unit) (tg:=.tp [.nm 2,.nm 3]) (b:=ifS (bT (neE (bX (vE 3)) (vE 0))) wV eC) (fr:=false) (inj:=fun (p:List Int×Nat)=>.tup [.int p.2,.lst (li p.1)]) (step:=fun _ _=>())
  (Q:=fun _ ρ=>∃ x2 x3,ρ=[some ⟨.shr,false,.int m⟩,some ⟨.shr,false,.lst (lil rows)⟩,x2,x3]) rows.zipIdx () [some ⟨.shr,false,.int m⟩,some ⟨.shr,false,.lst (lil rows)⟩,none,none] ⟨none,none,rfl⟩ fun p hp _ ρ ⟨x2,x3,e⟩=>by
   subst e
   have hr:p.1∈rows:=by
    obtain⟨i,hi,e⟩:=List.mem_iff_getElem.mp hp;rw[←e];simp
   have el:bX (vE 3) [some ⟨.shr,false,.int m⟩,some ⟨.shr,false,.lst (lil rows)⟩,some ⟨.shr,false,.int p.2⟩,some ⟨.shr,false,.lst (li p.1)⟩]=.ok ⟨.shr,true,.int (p.1.length:Nat)⟩:=aDw (k:=.shr) (fr:=false) rfl
   have ei:ifS (bT (neE (bX (vE 3)) (vE 0))) wV eC [some ⟨.shr,false,.int m⟩,some ⟨.shr,false,.lst (lil rows)⟩,some ⟨.shr,false,.int p.2⟩,some ⟨.shr,false,.lst (li p.1)⟩]=.nx [some ⟨.shr,false,.int m⟩,some ⟨.shr,false,.lst (lil rows)⟩,some ⟨.shr,false,.int p.2⟩,some ⟨.shr,false,.lst (li p.1)⟩]:=by
    refine(nP (iD (aBf el (k':=.shr) (fr':=true) (j:=m) rfl))).trans ?_
    rw[decide_eq_true (by have:=sz _ hr;omega)];rfl
   exact⟨_,_,rfl,ei,_,_,rfl⟩
 have e2:cB (aAw (vE 1)) (.tp [.nm 2,.nm 3]) (ifS (bT (neE (bX (vE 3)) (vE 0))) wV eC) [some ⟨.shr,false,.int m⟩,some ⟨.shr,false,.lst (lil rows)⟩,none,none]=.nx [some ⟨.shr,false,.int m⟩,some ⟨.shr,false,.lst (lil rows)⟩,x2,x3]:=by
  refine(eB (fr:=false) (ds:=mZ (lil rows)) rfl).trans ?_
  rw[aI1,l1,l2]
 exact aA6 rfl ((aM e1).trans e2)
theorem aM0 (r:List Int):(dX r).map mkP=(Eo 0 r.length).map fun (j:Nat)=>mkP ([(j:Int)],r.getD j 0):=by
 rw[kH,Bb,cD,Bb,Cz];apply Bq
 intro j _;simp only[Function.comp,Br]
abbrev vM (i:Nat):FE:=bR (aAw (vE i)) 2 [] (.tp [.nm 0,.nm 1]) (bE (dH [dH [vE 0],vE 1]))
theorem aTn {i:Nat}{ρ:Mir.Env}{f:Bool}{k:Kd}{r:List Int}(h:vE i ρ=.ok ⟨k,f,.lst (li r)⟩)(hl:r.length<=1000):vM i ρ=.ok ⟨.tmp,true,aD (dX r)⟩:=by
 have ht:aD (dX r)=.lst ((Eo 0 r.length).map fun (j:Nat)=>mkP ([(j:Int)],r.getD j 0)):=congrArg D.lst (aM0 r);rw[ht];refine jT (st:=k != .own) (fr:=f) (inj:=fun (j:Nat)=>.tup [.int (j:Int),.int (r.getD j 0)]) (xs:=Eo 0 r.length) ?_ (fun j _=>?_) (by rw[List.length_range',sizeLine_eq];omega)
 · simp only[aAw,h,R.ok_bind,asL,zX]
 · refine⟨[some ⟨.shr,f,.int (j:Int)⟩,some ⟨.shr,f,.int (r.getD j 0)⟩],.shr,rfl,qX ?_,by decide⟩
   have e1:dH [vE 0] [some ⟨.shr,f,.int (j:Int)⟩,some ⟨.shr,f,.int (r.getD j 0)⟩]=.ok ⟨.shr,true,.tup [.int (j:Int)]⟩:=by
    show R.ok (⟨.shr,(f||(D.int (j:Int)).imm)&&true,.tup [.int (j:Int)]⟩:Res)=_
    rw[show (D.int (j:Int)).imm=true from rfl,Gd];rfl
   have e2:vE 1 [some ⟨.shr,f,.int (j:Int)⟩,some ⟨.shr,f,.int (r.getD j 0)⟩]=.ok ⟨.shr,true,.int (r.getD j 0)⟩:=by
    show R.ok (⟨.shr,f||(D.int (r.getD j 0)).imm,.int (r.getD j 0)⟩:Res)=_
    rw[show (D.int (r.getD j 0)).imm=true from rfl,Gd]
   exact(gX e1 e2 (by decide) (by decide)).trans rfl
theorem aNv {r:List Int}(hl:r.length<=5)(nb:∀ x∈r,x.natAbs<=2^34):Fit (dX r):=by
 have h3:=mS (dX r) [];rw[Bp,rB]at h3;exact⟨fun t ht=>by rw[uC r t ht];decide,fun t ht=>iI (Ah (uD nb t ht) (Ar (by decide) (by decide))),by omega,⟨1,uC r⟩,by rw[rB];omega⟩
theorem aQd {r:List Int}(hl:r.length<=5)(nb:∀ x∈r,x.natAbs<=2^34):Sum 1 (aN (dX r)):=(aBn hl).sumS (c:=3) (by rw[rB];exact Ah hl (by decide)) (uD nb) (by decide) (by decide)
abbrev aUb (φr φp φs:Φ):FS :=
 (aP (jK (aC φr [vE 0,vE 1]))
 (aP (aO 2 (cN [dH [dH [],cE (.int 1)]]))
 (aP (cB (cW (vE 1)) (.nm 3)
  (aO 2 (aC φp [vE 2,aC φs [vM 3]])))
 (bM (vE 2)))))
abbrev xE (m:Nat)(B:D)(S:List Tm)(x3:Option Res):Mir.Env:=[some ⟨.shr,false,.int m⟩,some ⟨.shr,false,B⟩,oR S,x3]
theorem Rows.sub {m:Nat}{rows rs:List (List Int)}(R:Rows m rows)(h:∀ r∈rs,r∈rows)(hl:rs.length<=12):Rows m rs:=⟨R.m1,R.m5,hl,fun r hr=>R.sz r (h r hr),fun r hr=>R.nb r (h r hr)⟩
theorem aB7 {φp φs:Φ}(hs:pM φs)(hp:∀ {L K:Nat} {a b:List Tm},Sum L a->Sum K b->φp [aD a,aD b]=.ok ⟨.tmp,true,aD (aN (bI a b))⟩)(m:Nat)(B:D):∀ (rs done:List (List Int)),Rows m (done++rs)->∀ (x3:Option Res),
 ∃ y3,fN (.nm 3) (aO 2 (aC φp [vE 2,aC φs [vM 3]])) false (lil rs) (xE m B (box done) x3)=.nx (xE m B (box (done++rs)) y3)
 | [],done,_,x3=>⟨x3,by rw[Bt];rfl⟩
 | r :: rs,done,R,x3=>by
  have hl:=R.ln;rw[Ai,As]at hl;have R1:Rows m done:=R.sub (fun q hq=>Es _ hq) (by omega)
  have mr:r∈done++r :: rs:=Az _ Ab;have r5:r.length<=5:=by rw[R.sz r mr];exact R.m5
  have nb:=R.nb r mr;have S1:=(wJ done.length done rfl R1).1;have e1:aC φs [vM 3] (xE m B (box done) (some ⟨.shr,false,.lst (li r)⟩))=.ok ⟨.tmp,true,aD (aN (dX r))⟩:=aU (rs:=[⟨.tmp,true,aD (dX r)⟩]) (aB (aTn (k:=.shr) (f:=false) rfl (by omega)) aK) (hs _ (aNv r5 nb))
  have e2:aO 2 (aC φp [vE 2,aC φs [vM 3]]) (xE m B (box done) (some ⟨.shr,false,.lst (li r)⟩))=.nx (xE m B (box (done++[r])) (some ⟨.shr,false,.lst (li r)⟩)):=by
   have:=eD (i:=2) (aU (φ:=φp) (fs:=[vE 2,aC φs [vM 3]]) (ρ:=xE m B (box done) (some ⟨.shr,false,.lst (li r)⟩)) (rs:=[⟨.own,true,aD (box done)⟩,⟨.tmp,true,aD (aN (dX r))⟩]) (aB rfl (aB e1 aK)) (hp S1 (aQd r5 nb)))
   rw[aKp]at this;exact this
  obtain⟨y3,ih⟩:=aB7 hs hp m B rs (done++[r]) (by rw[Bv];exact R) (some ⟨.shr,false,.lst (li r)⟩)
  refine⟨y3,?_⟩
  have bd:Tg.bind false (.nm 3) (.lst (li r)) (xE m B (box done) x3)=.ok (xE m B (box done) (some ⟨.shr,false,.lst (li r)⟩)):=rfl;refine(kT bd e2).trans (ih.trans ?_)
  rw[Bv];rfl
theorem aU8 {φr φp φs:Φ}(hr:∀ {m:Nat} {rows:List (List Int)},Rows m rows->φr [.int m,.lst (lil rows)]=.ok (sc .non))(hs:pM φs)(hp:∀ {L K:Nat} {a b:List Tm},Sum L a->Sum K b->φp [aD a,aD b]=.ok ⟨.tmp,true,aD (aN (bI a b))⟩){m:Nat}{rows:List (List Int)}(R:Rows m rows) :
 cG 2 4 (aUb φr φp φs) [.int m,.lst (lil rows)]=.ok ⟨.tmp,true,aD (box rows)⟩:=by
 have e1:jK (aC φr [vE 0,vE 1]) [some ⟨.shr,false,.int m⟩,some ⟨.shr,false,.lst (lil rows)⟩,none,none]=.nx [some ⟨.shr,false,.int m⟩,some ⟨.shr,false,.lst (lil rows)⟩,none,none]:=qE (dJ (rs:=[⟨.shr,true,.int m⟩,⟨.shr,false,.lst (lil rows)⟩]) (aB rfl (aB rfl aK)) (hr R));have e2:aO 2 (cN [dH [dH [],cE (.int 1)]]) [some ⟨.shr,false,.int m⟩,some ⟨.shr,false,.lst (lil rows)⟩,none,none]=.nx (xE m (.lst (lil rows)) (box []) none):=by rw[aGp];rfl
 obtain⟨y3,l⟩:=aB7 hs hp m (.lst (lil rows)) rows [] R none;have e3:cB (cW (vE 1)) (.nm 3) (aO 2 (aC φp [vE 2,aC φs [vM 3]])) (xE m (.lst (lil rows)) (box []) none)=.nx (xE m (.lst (lil rows)) (box rows) y3):=(eB (fr:=false) (ds:=lil rows) rfl).trans l;exact(cJ rfl ((aM e1).trans ((aM e2).trans ((aM e3).trans (aGk (fr:=true) (d:=aD (box rows)) rfl))))).trans rfl
end Sm
namespace Sm
open PySem L2 Mir Srt
structure Drw (m:Nat)(x y:List (List Int)):Prop where
 m1:1<=m
 m5:m<=5
 lx:x.length<=4
 ly:y.length<=3
 y1:0<y.length
 sz:∀ r∈x++y,r.length=m
 nb:∀ r∈x++y,∀ v∈r,v.natAbs<=2^30
theorem Drw.rows {m:Nat}{x y:List (List Int)}(d:Drw m x y){rs:List (List Int)}(h:∀ r∈rs,r∈x++y)(hl:rs.length<=12):Rows m rs :=
 ⟨d.m1,d.m5,hl,fun r hr=>d.sz r (h r hr),fun r hr v hv=>Ah (d.nb r (h r hr) v hv) (Ar (by decide) (by decide))⟩
theorem tY {f g:FE}{ρ:Mir.Env}{k k':Kd}{fr fr':Bool}{S:List Tm}(h1:f ρ=.ok ⟨k,fr,aD S⟩)(h2:g ρ=.ok ⟨k',fr',aD S⟩):ifS (bT (neE f g)) (bM (cE (.bl false))) eC ρ=.nx ρ :=
 (nP (b:=false) (iD (aVp (b:=true) h1 h2 (aC5 6 (aK0 S) (by decide))))).trans rfl
end Sm
namespace Sm
open PySem L2 Mir Srt
theorem Draw.outm {m:Nat}{W F:List Int}{j:Nat}(d:Draw m W F j):F.Nodup/\∀ x∈F,0<=x/\x<m:=by
 refine⟨?_,fun x hx=>?_⟩
 · have:=d.pm.nodup_iff.mpr (aDx m)
   exact(Dc.mp this).2.1
 · have:=aK6 (d.pm.mem_iff.mp (Az W hx))
   exact this
theorem aKi {φ:Φ}(hφ:∀ c k m:Int,k.natAbs<=1000->0<m->∃ v,0<=v/\v<m/\φ [.int c,.int k,.int m]=.ok (sc (.int v)))(c f:Int)(hf:f.natAbs<=100)(m z:Nat)(hm:m<=5)(hz:z<=m) :
 ∃ p:List Int,p.length=z/\p.Nodup/\(∀ x∈p,0<=x/\x<m)/\cG 4 7 (aJ0 φ) [.int c,.int f,.int m,.int z]=.ok ⟨.shr,true,.tup (li p)⟩:=by
 have e1:aO 4 (qY (vE 2)) [some ⟨.shr,false,.int c⟩,some ⟨.shr,false,.int f⟩,some ⟨.shr,false,.int m⟩,some ⟨.shr,false,.int z⟩,none,none,none]=.nx [some ⟨.shr,false,.int c⟩,some ⟨.shr,false,.int f⟩,some ⟨.shr,false,.int m⟩,some ⟨.shr,false,.int z⟩,some ⟨.own,true,.lst (li (mN m))⟩,none,none] :=
  eD (aFl (k:=.shr) (fr:=true) (m:=m) rfl (by omega))
 have e2:aO 5 (cN []) [some ⟨.shr,false,.int c⟩,some ⟨.shr,false,.int f⟩,some ⟨.shr,false,.int m⟩,some ⟨.shr,false,.int z⟩,some ⟨.own,true,.lst (li (mN m))⟩,none,none]=.nx [some ⟨.shr,false,.int c⟩,some ⟨.shr,false,.int f⟩,some ⟨.shr,false,.int m⟩,some ⟨.shr,false,.int z⟩,some ⟨.own,true,.lst (li (mN m))⟩,some ⟨.own,true,.lst (li [])⟩,none]:=rfl
 obtain⟨ρ',l1,W,F,x6,d,l2⟩:=jZ (tg:=.nm 6) (b:=lR 5 4 (aC φ [vE 0,cH (vE 1) (vE 6),bX (vE 4)])) (fr:=true) (inj:=fun k=>.int (k:Int))
  (E:=fun j ρ=>∃ W F x6,Draw m W F j/\ρ=[some ⟨.shr,false,.int c⟩,some ⟨.shr,false,.int f⟩,some ⟨.shr,false,.int m⟩,some ⟨.shr,false,.int z⟩,some ⟨.own,true,.lst (li W)⟩,some ⟨.own,true,.lst (li F)⟩,x6]) z 0 [some ⟨.shr,false,.int c⟩,some ⟨.shr,false,.int f⟩,some ⟨.shr,false,.int m⟩,some ⟨.shr,false,.int z⟩,some ⟨.own,true,.lst (li (mN m))⟩,some ⟨.own,true,.lst (li [])⟩,none] ⟨mN m,[],none,⟨by rw[Bt],rfl⟩,rfl⟩ fun j _ hj ρ ⟨W,F,x6,d,e⟩=>by
   subst e;have wl:=d.wl;have fl:=d.ln;obtain⟨v,v0,v1,hv⟩:=hφ c (f+(j:Int)) (W.length:Nat) (by omega) (by omega)
   have el:bX (vE 4) [some ⟨.shr,false,.int c⟩,some ⟨.shr,false,.int f⟩,some ⟨.shr,false,.int m⟩,some ⟨.shr,false,.int z⟩,some ⟨.own,true,.lst (li W)⟩,some ⟨.own,true,.lst (li F)⟩,some ⟨.shr,true,.int (j:Int)⟩]=.ok ⟨.shr,true,.int (W.length:Nat)⟩:=by
    refine(lE (k:=.own) (fr:=true) (ds:=li W) rfl).trans ?_
    rw[Ac];rfl
   have ec:aC φ [vE 0,cH (vE 1) (vE 6),bX (vE 4)] [some ⟨.shr,false,.int c⟩,some ⟨.shr,false,.int f⟩,some ⟨.shr,false,.int m⟩,some ⟨.shr,false,.int z⟩,some ⟨.own,true,.lst (li W)⟩,some ⟨.own,true,.lst (li F)⟩,some ⟨.shr,true,.int (j:Int)⟩]=.ok ⟨.shr,true,.int v⟩ :=
    dJ (rs:=[⟨.shr,true,.int c⟩,⟨.shr,true,.int (f+(j:Int))⟩,⟨.shr,true,.int (W.length:Nat)⟩]) (aB rfl (aB (aV (k:=.shr) (fr:=true) (i:=f) (k':=.shr) (fr':=true) (j:=(j:Int)) rfl rfl rfl) (aB el aK))) hv
   have hl:v.toNat<W.length:=by omega
   exact⟨[some ⟨.shr,false,.int c⟩,some ⟨.shr,false,.int f⟩,some ⟨.shr,false,.int m⟩,some ⟨.shr,false,.int z⟩,some ⟨.own,true,.lst (li W)⟩,some ⟨.own,true,.lst (li F)⟩,some ⟨.shr,true,.int (j:Int)⟩],_,rfl,yM (F:=F) (W:=W) (f1:=true) (f2:=true) rfl rfl ec v0 v1 (by omega) (by omega) (by decide),_,_,_,d.next hl,rfl⟩
 rw[Cv]at d;refine⟨F,d.ln,(d.outm).1,(d.outm).2,?_⟩
 have e3:cB (cV (vE 3)) (.nm 6) (lR 5 4 (aC φ [vE 0,cH (vE 1) (vE 6),bX (vE 4)])) [some ⟨.shr,false,.int c⟩,some ⟨.shr,false,.int f⟩,some ⟨.shr,false,.int m⟩,some ⟨.shr,false,.int z⟩,some ⟨.own,true,.lst (li (mN m))⟩,some ⟨.own,true,.lst (li [])⟩,none]=.nx [some ⟨.shr,false,.int c⟩,some ⟨.shr,false,.int f⟩,some ⟨.shr,false,.int m⟩,some ⟨.shr,false,.int z⟩,some ⟨.own,true,.lst (li W)⟩,some ⟨.own,true,.lst (li F)⟩,x6]:=by
  refine(eB (fr:=true) (ds:=(Ao z).map fun (i:Nat)=>.int (i:Int)) (jS (k:=.shr) (fr:=true) (n:=z) rfl (by omega))).trans ?_
  rw[Cz,l1,l2]
 have e4:bM (nK (vE 5)) [some ⟨.shr,false,.int c⟩,some ⟨.shr,false,.int f⟩,some ⟨.shr,false,.int m⟩,some ⟨.shr,false,.int z⟩,some ⟨.own,true,.lst (li W)⟩,some ⟨.own,true,.lst (li F)⟩,x6]=.rt ⟨.shr,true,.tup (li F)⟩:=fA (vV (k:=.own) (fr:=true) (ds:=li F) rfl);exact(cJ rfl ((aM e1).trans ((aM e2).trans ((aM e3).trans e4)))).trans rfl
structure TermM (m z:Nat)(t:Tm):Prop where
 ln:t.1.length=z
 nd:t.1.Nodup
 rg:∀ x∈t.1,0<=x/\x<m
 nb:t.2.natAbs<=2^31
theorem aOk (c:Int)(m z:Nat)(hm:m<=5)(hz:z<=m):∃ t:Tm,TermM m z t/\cG 3 7 aOj [.int c,.int m,.int z]=.ok ⟨.shr,true,mkP t⟩:=by
 have e1:aO 3 (qY (vE 1)) [some ⟨.shr,false,.int c⟩,some ⟨.shr,false,.int m⟩,some ⟨.shr,false,.int z⟩,none,none,none,none]=.nx [some ⟨.shr,false,.int c⟩,some ⟨.shr,false,.int m⟩,some ⟨.shr,false,.int z⟩,some ⟨.own,true,.lst (li (mN m))⟩,none,none,none] :=
  eD (aFl (k:=.shr) (fr:=true) (m:=m) rfl (by omega))
 have e2:aO 4 (cN []) [some ⟨.shr,false,.int c⟩,some ⟨.shr,false,.int m⟩,some ⟨.shr,false,.int z⟩,some ⟨.own,true,.lst (li (mN m))⟩,none,none,none]=.nx [some ⟨.shr,false,.int c⟩,some ⟨.shr,false,.int m⟩,some ⟨.shr,false,.int z⟩,some ⟨.own,true,.lst (li (mN m))⟩,some ⟨.own,true,.lst (li [])⟩,none,none]:=rfl
 obtain⟨ρ',l1,c',f0,W,F,x5,x6,d,l2⟩:=jZ (tg:=.nm 5) (b:=dgb) (fr:=true) (inj:=fun k=>.int (k:Int))
  (E:=fun j ρ=>∃ c' f0 W F x5 x6,Draw m W F j/\ρ=[some ⟨.shr,f0,.int c'⟩,some ⟨.shr,false,.int m⟩,some ⟨.shr,false,.int z⟩,some ⟨.own,true,.lst (li W)⟩,some ⟨.own,true,.lst (li F)⟩,x5,x6]) z 0 [some ⟨.shr,false,.int c⟩,some ⟨.shr,false,.int m⟩,some ⟨.shr,false,.int z⟩,some ⟨.own,true,.lst (li (mN m))⟩,some ⟨.own,true,.lst (li [])⟩,none,none] ⟨c,false,mN m,[],none,none,⟨by rw[Bt],rfl⟩,rfl⟩ fun j _ hj ρ ⟨c',f0,W,F,x5,x6,d,e⟩=>by
   subst e;have wl:=d.wl;have fl:=d.ln;have wp:(0:Int)<(W.length:Nat):=by omega
   have v0:=Cj c' (show ((W.length:Nat):Int)≠0 by omega)
   have v1:=Bu c' wp
   have s1:aO 6 (cA (vE 0) (bX (vE 3))) [some ⟨.shr,f0,.int c'⟩,some ⟨.shr,false,.int m⟩,some ⟨.shr,false,.int z⟩,some ⟨.own,true,.lst (li W)⟩,some ⟨.own,true,.lst (li F)⟩,some ⟨.shr,true,.int (j:Int)⟩,x6]=.nx [some ⟨.shr,f0,.int c'⟩,some ⟨.shr,false,.int m⟩,some ⟨.shr,false,.int z⟩,some ⟨.own,true,.lst (li W)⟩,some ⟨.own,true,.lst (li F)⟩,some ⟨.shr,true,.int (j:Int)⟩,some ⟨.shr,true,.int (c'%(W.length:Nat))⟩] :=
    set_shr (aV (k:=.shr) (fr:=f0||(D.int c').imm) (i:=c') rfl (aDw (k:=.own) (fr:=true) rfl) (gA wp))
   have s2:aO 0 (jR (vE 0) (bX (vE 3))) [some ⟨.shr,f0,.int c'⟩,some ⟨.shr,false,.int m⟩,some ⟨.shr,false,.int z⟩,some ⟨.own,true,.lst (li W)⟩,some ⟨.own,true,.lst (li F)⟩,some ⟨.shr,true,.int (j:Int)⟩,some ⟨.shr,true,.int (c'%(W.length:Nat))⟩]=.nx [some ⟨.shr,true,.int (c'/(W.length:Nat))⟩,some ⟨.shr,false,.int m⟩,some ⟨.shr,false,.int z⟩,some ⟨.own,true,.lst (li W)⟩,some ⟨.own,true,.lst (li F)⟩,some ⟨.shr,true,.int (j:Int)⟩,some ⟨.shr,true,.int (c'%(W.length:Nat))⟩] :=
    set_shr (aV (k:=.shr) (fr:=f0||(D.int c').imm) (i:=c') rfl (aDw (k:=.own) (fr:=true) rfl) (aLm wp (Cy (show (((W.length:Nat):Int)).natAbs<=5 by omega) (by decide))))
   have hl:(c'%(W.length:Nat)).toNat<W.length:=by omega
   exact⟨[some ⟨.shr,f0,.int c'⟩,some ⟨.shr,false,.int m⟩,some ⟨.shr,false,.int z⟩,some ⟨.own,true,.lst (li W)⟩,some ⟨.own,true,.lst (li F)⟩,some ⟨.shr,true,.int (j:Int)⟩,x6],_,rfl,(aM s1).trans ((aM s2).trans (yM (k:=vE 6) (F:=F) (W:=W) (f1:=true) (f2:=true) (kd:=.shr) (fr:=true) rfl rfl rfl v0 v1 (by omega) (by omega) (by decide))),_,_,_,_,_,_,d.next hl,rfl⟩
 rw[Cv]at d
 have e3:cB (cV (vE 2)) (.nm 5) dgb [some ⟨.shr,false,.int c⟩,some ⟨.shr,false,.int m⟩,some ⟨.shr,false,.int z⟩,some ⟨.own,true,.lst (li (mN m))⟩,some ⟨.own,true,.lst (li [])⟩,none,none]=.nx [some ⟨.shr,f0,.int c'⟩,some ⟨.shr,false,.int m⟩,some ⟨.shr,false,.int z⟩,some ⟨.own,true,.lst (li W)⟩,some ⟨.own,true,.lst (li F)⟩,x5,x6]:=by
  refine(eB (fr:=true) (ds:=(Ao z).map fun (i:Nat)=>.int (i:Int)) (jS (k:=.shr) (fr:=true) (n:=z) rfl (by omega))).trans ?_
  rw[Cz,l1,l2]
 have u0:=Cj c' (show (2000000001:Int)≠0 by decide)
 have u1:=Bu c' (show (0:Int)<2000000001 by decide)
 refine⟨(F,c'%2000000001-1000000000),⟨d.ln,(d.outm).1,(d.outm).2,by show (c'%2000000001-1000000000).natAbs<=2^31;omega⟩,?_⟩
 have e4:bM (dH [nK (vE 4),eM (cA (vE 0) (cH (bN (cE (.int 2)) (pW (cE (.int 10)) (cE (.int 9)))) (cE (.int 1)))) (pW (cE (.int 10)) (cE (.int 9)))]) [some ⟨.shr,f0,.int c'⟩,some ⟨.shr,false,.int m⟩,some ⟨.shr,false,.int z⟩,some ⟨.own,true,.lst (li W)⟩,some ⟨.own,true,.lst (li F)⟩,x5,x6]=.rt ⟨.shr,true,mkP (F,c'%2000000001-1000000000)⟩:=by
  have q:cH (bN (cE (.int 2)) (pW (cE (.int 10)) (cE (.int 9)))) (cE (.int 1)) [some ⟨.shr,f0,.int c'⟩,some ⟨.shr,false,.int m⟩,some ⟨.shr,false,.int z⟩,some ⟨.own,true,.lst (li W)⟩,some ⟨.own,true,.lst (li F)⟩,x5,x6]=.ok ⟨.shr,true,.int 2000000001⟩ :=
   aV (aV (k:=.shr) (fr:=true) (i:=2) rfl p9 (eP (sm9 (by decide)) (sm9 (by decide)))) (k':=.shr) (fr':=true) (j:=1) rfl rfl
  exact fA ((gX (k:=.shr) (fr:=true) (d:=.tup (li F)) (vV (k:=.own) (fr:=true) rfl) (aV (aV (k:=.shr) (fr:=f0||(D.int c').imm) (i:=c') rfl q (gA (by decide))) p9 rfl) (by decide) (by decide)).trans rfl)
 exact(cJ rfl ((aM e1).trans ((aM e2).trans ((aM e3).trans e4)))).trans rfl
theorem aM5 {φd φc:Φ}{m z:Nat}{f:Int}(hd:∀ c:Int,∃ t:Tm,TermM m z t/\φd [.int c,.int m,.int z]=.ok ⟨.shr,true,mkP t⟩)(hc:∀ c:Int,∃ p:List Int,p.length=z/\p.Nodup/\(∀ x∈p,0<=x/\x<m)/\φc [.int c,.int f,.int m,.int z]=.ok ⟨.shr,true,.tup (li p)⟩)
 (C:D) (acc:List Tm) (ha:acc.length<=1000) (c:Int) (x6:Option Res):∃ t x6',TermM m z t/\drb φd φc (dE C m z f acc (some ⟨.shr,false,.int c⟩) x6)=.nx (dE C m z f (acc++[t]) (some ⟨.shr,false,.int c⟩) x6'):=by
 have t0:bT (eqE (cA (vE 5) (cE (.int 2))) (cE (.int 1))) (dE C m z f acc (some ⟨.shr,false,.int c⟩) x6)=.ok (decide (c%2=1)):=iD (wD (aV (k:=.shr) (fr:=true) (i:=c) (k':=.shr) (fr':=true) (j:=2) rfl rfl (gA (by decide))) (k':=.shr) (fr':=true) (j:=1) rfl)
 have hs:(acc.map mkP).length<sizeLine:=by rw[Ac,sizeLine_eq];omega
 have fd:∀ (q:Int) (x6:Option Res),0<q->q.natAbs<2^250->jR (vE 5) (cE (.int q)) (dE C m z f acc (some ⟨.shr,false,.int c⟩) x6)=.ok ⟨.shr,true,.int (c/q)⟩:=fun q x6 h1 h2=>aV (k:=.shr) (fr:=true) (i:=c) (k':=.shr) (fr':=true) (j:=q) rfl rfl (aLm h1 h2)
 have app:∀ t:Tm,∀ x6:Option Res,∀ g:FE,g (dE C m z f acc (some ⟨.shr,false,.int c⟩) x6)=.ok ⟨.shr,true,mkP t⟩->mY 4 g (dE C m z f acc (some ⟨.shr,false,.int c⟩) x6)=.nx (dE C m z f (acc++[t]) (some ⟨.shr,false,.int c⟩) x6):=fun t x6 g hg=>by
  refine(wC (fr:=true) (ds:=acc.map mkP) rfl hg (by decide) hs).trans ?_
  show RS.nx [_,_,_,_,some (⟨.own,true,.lst (acc.map mkP++[mkP t])⟩:Res),_,_]=.nx [_,_,_,_,some (⟨.own,true,.lst ((acc++[t]).map mkP)⟩:Res),_,_]
  rw[Bk];rfl
 by_cases w:c%2=1
 · obtain⟨t,T,e⟩:=hd (c/2)
   refine⟨t,x6,T,?_⟩
   refine(nP t0).trans ?_
   rw[decide_eq_true w,if_pos rfl];exact app t x6 _ (dJ (rs:=[⟨.shr,true,.int (c/2)⟩,⟨.shr,true,.int m⟩,⟨.shr,true,.int z⟩]) (aB (fd 2 x6 (by decide) (by decide)) (aB rfl (aB rfl aK))) e)
 · obtain⟨p,p1,p2,p3,e⟩:=hc (c/2)
   have b0:=Cj (c/8) (show (7:Int)≠0 by decide)
   have b1:=Bu (c/8) (show (0:Int)<7 by decide)
   have c0:=Cj (c/8) (show (1000000000:Int)≠0 by decide)
   have c1:=Bu (c/8) (show (0:Int)<1000000000 by decide)
   obtain⟨i,hi,ei⟩:∃ i:Nat,i<3/\(c/2%4)%3=(i:Int):=by
    have q0:=Cj (c/2%4) (show (3:Int)≠0 by decide)
    have q1:=Bu (c/2%4) (show (0:Int)<3 by decide)
    exact⟨((c/2%4)%3).toNat,by omega,by omega⟩
   have e1:cN [eM (cA (jR (vE 5) (cE (.int 8))) (cE (.int 7))) (cE (.int 3)),cA (jR (vE 5) (cE (.int 8))) (pW (cE (.int 10)) (cE (.int 9))),eM (cE (.int 0)) (cA (jR (vE 5) (cE (.int 8))) (pW (cE (.int 10)) (cE (.int 9))))] (dE C m z f acc (some ⟨.shr,false,.int c⟩) x6)=.ok ⟨.tmp,true,.lst (li [c/8%7-3,c/8%1000000000,0-c/8%1000000000])⟩ :=
    aOg (aV (aV (fd 8 x6 (by decide) (by decide)) (k':=.shr) (fr':=true) (j:=7) rfl (gA (by decide))) (k':=.shr) (fr':=true) (j:=3) rfl rfl) (aV (fd 8 x6 (by decide) (by decide)) p9 (gA (by decide))) (aV (k:=.shr) (fr:=true) (i:=0) rfl (aV (fd 8 x6 (by decide) (by decide)) p9 (gA (by decide))) rfl)
   have e2:cA (cA (jR (vE 5) (cE (.int 2))) (cE (.int 4))) (cE (.int 3)) (dE C m z f acc (some ⟨.shr,false,.int c⟩) x6)=.ok ⟨.shr,true,.int (i:Nat)⟩:=by
    rw[←ei];exact aV (aV (fd 2 x6 (by decide) (by decide)) (k':=.shr) (fr':=true) (j:=4) rfl (gA (by decide))) (k':=.shr) (fr':=true) (j:=3) rfl (gA (by decide))
   have s1:=set_shr (i:=6) (mX e1 e2 (sO (r:=[c/8%7-3,c/8%1000000000,0-c/8%1000000000]) hi));have mem:=eV (xs:=[c/8%7-3,c/8%1000000000,0-c/8%1000000000]) (d:=0) hi
   have nb:([c/8%7-3,c/8%1000000000,0-c/8%1000000000].getD i 0).natAbs<=2^31:=by
    simp only[An,Bd,or_false]at mem;rcases mem with q | q | q<;>rw[q]<;>omega
   generalize [c/8%7-3,c/8%1000000000,0-c/8%1000000000].getD i 0=v at s1 nb
   refine⟨(p,v),some ⟨.shr,true,.int v⟩,⟨p1,p2,p3,nb⟩,?_⟩
   refine(nP t0).trans ?_
   rw[decide_eq_false w,if_neg (by decide)]
   refine(aM s1).trans (app (p,v) (some ⟨.shr,true,.int v⟩) _ ?_)
   have ec:aC φc [jR (vE 5) (cE (.int 2)),vE 3,vE 1,vE 2] (dE C m z f acc (some ⟨.shr,false,.int c⟩) (some ⟨.shr,true,.int v⟩))=.ok ⟨.shr,true,.tup (li p)⟩:=dJ (rs:=[⟨.shr,true,.int (c/2)⟩,⟨.shr,true,.int f⟩,⟨.shr,true,.int m⟩,⟨.shr,true,.int z⟩]) (aB (fd 2 _ (by decide) (by decide)) (aB rfl (aB rfl (aB rfl aK)))) e
   exact(gX ec (k':=.shr) (fr':=true) (d':=.int v) rfl (by decide) (by decide)).trans rfl
theorem aE1 {φd φc:Φ}{m z:Nat}{f:Int}(hd:∀ c:Int,∃ t:Tm,TermM m z t/\φd [.int c,.int m,.int z]=.ok ⟨.shr,true,mkP t⟩)(hc:∀ c:Int,∃ p:List Int,p.length=z/\p.Nodup/\(∀ x∈p,0<=x/\x<m)/\φc [.int c,.int f,.int m,.int z]=.ok ⟨.shr,true,.tup (li p)⟩)
 (C:D):∀ (cs:List Int) (acc:List Tm) (x5 x6:Option Res),acc.length+cs.length<=100->(∀ t∈acc,TermM m z t)->∃ ts x5' x6',(∀ t∈ts,TermM m z t)/\ts.length=acc.length+cs.length/\fN (.nm 5) (drb φd φc) false (li cs) (dE C m z f acc x5 x6)=.nx (dE C m z f ts x5' x6')
 | [],acc,x5,x6,_,h=>⟨acc,x5,x6,h,rfl,rfl⟩
 | c :: cs,acc,x5,x6,hz,h=>by
  rw[As]at hz;obtain⟨t,y6,T,e⟩:=aM5 hd hc C acc (by omega) c x6
  obtain⟨ts,x5',x6',g1,g2,g3⟩:=aE1 hd hc C cs (acc++[t]) (some ⟨.shr,false,.int c⟩) y6 (by rw[Ai,Bl];omega) (fun u hu=>(Bf.mp hu).elim (h u) fun q=>by rw[Aq.mp q];exact T)
  refine⟨ts,x5',x6',g1,by rw[g2,Ai,Bl,As];omega,?_⟩
  have bd:Tg.bind false (.nm 5) (.int c) (dE C m z f acc x5 x6)=.ok (dE C m z f acc (some ⟨.shr,false,.int c⟩) x6):=rfl;show fN (.nm 5) (drb φd φc) false (.int c :: li cs) _=_
  simp only[fN,bd,R.at,e];exact g3
theorem aP5 {φd φc φg:Φ}(hg:pM φg){m z:Nat}{f:Int}(hd:∀ c:Int,∃ t:Tm,TermM m z t/\φd [.int c,.int m,.int z]=.ok ⟨.shr,true,mkP t⟩)(hc:∀ c:Int,∃ p:List Int,p.length=z/\p.Nodup/\(∀ x∈p,0<=x/\x<m)/\φc [.int c,.int f,.int m,.int z]=.ok ⟨.shr,true,.tup (li p)⟩)
 (hm:m<=5) (hz:z<=5) {cs:List Int} (hl:cs.length<=20):∃ S:List Tm,Sum z S/\Told S/\(∀ t∈S,t.2.natAbs<=2^40)/\(∀ t∈S,∀ x∈t.1,0<=x/\x<(m:Int))/\cG 4 7 (aQe φd φc φg) [.lst (li cs),.int m,.int z,.int f]=.ok ⟨.tmp,true,aD S⟩:=by
 obtain⟨ts,x5,x6,g1,g2,g3⟩:=aE1 hd hc (.lst (li cs)) cs [] none none (by rw[Bp];omega) (fun t h=>by cases h)
 rw[Bp,Cv]at g2;refine⟨aN ts,aSc (by omega) (by omega) (fun t ht=>(g1 t ht).ln) (fun t ht x hx=>by have:=(g1 t ht).rg x hx;omega) (fun t ht=>(g1 t ht).nd) fun t ht=>(g1 t ht).nb,aKg fun t ht=>(g1 t ht).nd,fun p hp=>?_,fun p hp x hx=>?_,?_⟩
 · have:=aAn ts [] (M:=0) (fun _ h=>nomatch h) (fun t ht=>(g1 t ht).nb) p (jJ hp).1
   have h2:ts.length*2^31<=20*2^31:=Fq _ (by omega)
   omega
 · obtain⟨t,ht,e,_⟩:=uL p hp
   rw[←e]at hx;exact(g1 t ht).rg x ((eE t).mem_iff.mp hx)
 have F:Fit ts:=by
  have:=mS ts []
  rw[Bp]at this;exact⟨fun t ht=>by rw[(g1 t ht).ln];omega,fun t ht=>tD (Ah (g1 t ht).nb (Ar (by decide) (by decide))),by omega,⟨z,fun t ht=>(g1 t ht).ln⟩,by omega⟩
 have e1:aO 4 (cN []) [some ⟨.shr,false,.lst (li cs)⟩,some ⟨.shr,false,.int m⟩,some ⟨.shr,false,.int z⟩,some ⟨.shr,false,.int f⟩,none,none,none]=.nx (dE (.lst (li cs)) m z f [] none none):=rfl;have e2:cB (cW (vE 0)) (.nm 5) (drb φd φc) (dE (.lst (li cs)) m z f [] none none)=.nx (dE (.lst (li cs)) m z f ts x5 x6):=(eB (fr:=false) (ds:=li cs) rfl).trans g3;have e3:aC φg [vE 4] (dE (.lst (li cs)) m z f ts x5 x6)=.ok ⟨.tmp,true,aD (aN ts)⟩:=aU (rs:=[⟨.own,true,aD ts⟩]) (aB rfl aK) (hg _ F);exact(cJ rfl ((aM e1).trans ((aM e2).trans (iS e3)))).trans rfl
end Sm
namespace Sm
open PySem L2 Mir Srt
def bP (m:Nat)(p:List Int):List Int:=(cD m).filter fun w=>!(p.any (·==w))
theorem aMa (p:List Int)(w:Int):(p.any (·==w))=true↔w∈p:=by
 rw[Fn];constructor
 · rintro⟨x,hx,e⟩;rw[←eq_of_beq e];exact hx
 · intro h;exact⟨w,h,beq_self_eq_true w⟩
theorem jG {m:Nat}{p:List Int}{w:Int}:w∈bP m p↔(0<=w/\w<m)/\w∉p:=by
 unfold bP;rw[Ds,fK];constructor
 · intro ⟨a,b⟩
   refine⟨a,fun h=>?_⟩
   rw[(aMa p w).mpr h]at b;cases b
 · intro ⟨a,b⟩
   refine⟨a,?_⟩
   cases q:p.any (·==w) with
   | true=>exact absurd ((aMa p w).mp q) b
   | false=>rfl
theorem aO3 (m:Nat):(cD m).Pairwise fun a b=>ix b a=false:=by
 show List.Pairwise _ (Ge _ _)
 rw[Co];exact Dz (fun {a b} (h:a<b)=>decide_eq_false (by omega)) (show List.Pairwise (·<·) (Ao m) from List.pairwise_lt_range)
theorem aGo (m:Nat)(p:List Int):(bP m p).Pairwise fun a b=>ix b a=false:=List.Pairwise.sublist Ex (aO3 m)
theorem aAb (m:Nat)(p:List Int):(bP m p).Nodup:=List.Nodup.sublist Ex (nF m)
theorem aHf {m:Nat}{p:List Int}(nd:p.Nodup)(rg:∀ x∈p,0<=x/\x<(m:Int)):(p++bP m p).Perm (cD m):=by
 refine pY (aEy.mpr ⟨nd,aAb m p,fun x hx h=>(jG.mp h).2 hx⟩) (nF m) fun x=>?_
 rw[Bf,jG,fK];constructor
 · rintro (h | h)
   · exact rg x h
   · exact h.1
 · intro h
   by_cases q:x∈p
   · exact .inl q
   · exact .inr ⟨h,q⟩
theorem xG {m:Nat}{p:List Int}(nd:p.Nodup)(rg:∀ x∈p,0<=x/\x<(m:Int)):(bP m p).length=m-p.length:=by
 have:=(aHf nd rg).length_eq
 rw[Ai,show (cD m).length=m by simp[cD]]at this
 omega
theorem aKb {m:Nat}{p q:List Int}(up:p.Pairwise fun a b=>ix b a=false)(uq:q.Pairwise fun a b=>ix b a=false)(np:p.Nodup)(nq:q.Nodup)(rp:∀ x∈p,0<=x/\x<(m:Int))(rq:∀ x∈q,0<=x/\x<(m:Int))(e:bP m p=bP m q):p=q:=by
 have pm:p.Perm q:=pY np nq fun x=>by
  constructor
  · intro h
    by_cases z:x∈q
    · exact z
    · have:x∈bP m q:=jG.mpr ⟨rp x h,z⟩
      rw[←e]at this;exact absurd h (jG.mp this).2
  · intro h
    by_cases z:x∈p
    · exact z
    · have:x∈bP m p:=jG.mpr ⟨rq x h,z⟩
      rw[e]at this;exact absurd h (jG.mp this).2
 rw[gJ eQ (Ck p) up,gJ eQ (Ck q) uq];exact sY pm
theorem aKh {p q:List Int}(up:p.Pairwise fun a b=>ix b a=false)(np:p.Nodup)(uq:q.Pairwise fun a b=>ix b a=false)(nq:q.Nodup)(dj:∀ x∈p,x∉q):trn (p++q)=sgn (cS p q):=by
 rw[aE5];unfold trn xs;rw[if_pos np,if_pos nq,if_pos dj,nE up,nE uq,aC0,Ef,Ef]
def ovT (m:Nat)(t:Tm):Tm:=(bP m t.1,t.2*sgn (cS t.1 (bP m t.1)))
def fR (m:Nat)(S:List Tm):List Tm:=S.map (ovT m)
theorem aLi {S:List Tm}(up:∀ t∈S,t.1.Pairwise fun a b=>ix b a=false)(nd:∀ t∈S,t.1.Nodup)(ks:(S.map (·.1)).Nodup)(nz:∀ t∈S,t.2≠0):aN S=srt px S:=by
 have vl:∀ t∈S,val t=t.2:=fun t ht=>by
  unfold val;rw[if_pos (nd t ht),nE (up t ht),aC0,Ef]
 have ky:∀ t∈S,key t=t.1:=fun t ht=>(gJ eQ (Ck _) (up t ht)).symm
 have go:∀ (T B:List Tm),(∀ t∈T,t∈S)->((B++T).map (·.1)).Nodup->acc B T=B++T:=by
  intro T;induction T with
  | nil=>intro B _ _;simp[acc]
  | cons t T ih =>
   intro B hs hn;have ht:=hs t Ab
   have nm:t.1∉B.map (·.1):=by
    rw[Bk,Dc]at hn;intro m;exact hn.2.2 t.1 m t.1 (by simp) rfl
   have e:step B t=B++[t]:=by
    unfold step;rw[ky t ht,jX nm,vl t ht,Gr];unfold put;rw[if_neg nm]
   show acc (step B t) T=_
   rw[e,ih (B++[t]) (fun u hu=>hs u (Ad _ hu)) (by simpa using hn)]
   simp
 unfold aN;rw[go S [] (fun _ z=>z) (by simpa using ks),Dh]
 unfold rC;have e:S.filter (fun p=>p.2 != 0)=S:=Ga.mpr fun t ht=>by simpa using nz t ht
 rw[e]
structure In (m L:Nat)(S:List Tm):Prop where
 sm:Sum L S
 td:Told S
 nb:Nb 240 S
 rg:∀ t∈S,∀ x∈t.1,0<=x/\x<(m:Int)
 m1:1<=m
 m5:m<=5
theorem In.over {m L:Nat}{S:List Tm}(h:In m L S):aN (fR m S)=srt px (fR m S):=by
 have mem:∀ u∈fR m S,∃ t∈S,u=ovT m t:=fun u hu=>by
  obtain⟨t,ht,e⟩:=Ak.mp hu;exact⟨t,ht,e.symm⟩
 refine aLi (fun u hu=>?_) (fun u hu=>?_) ?_ fun u hu=>?_
 · obtain⟨t,ht,rfl⟩:=mem u hu;exact aGo m t.1
 · obtain⟨t,ht,rfl⟩:=mem u hu;exact aAb m t.1
 · unfold fR
   rw[Bb];show List.Pairwise (fun a b=>a≠b) (S.map fun t=>bP m t.1)
   rw[Co];refine Fb (fun {s t} hs ht n e=>?_) (Co.mp (show List.Pairwise (fun a b=>a≠b) (S.map (·.1)) from h.td.ks))
   exact n (aKb (h.td.up s hs) (h.td.up t ht) (h.td.nd s hs) (h.td.nd t ht) (h.rg s hs) (h.rg t ht) e)
 · obtain⟨t,ht,rfl⟩:=mem u hu
   show t.2*sgn _≠0
   have:=h.td.nz t ht
   rcases vW (cS t.1 (bP m t.1)) with z | z<;>rw[z]<;>omega
theorem In.fit {m L:Nat}{S:List Tm}(h:In m L S):Fit (fR m S):=by
 have ln:(fR m S).length=S.length:=Ac _;have l1:=h.sm.ln;have h3:=mS (fR m S) [];rw[Bp,ln]at h3;have m5:=h.m5
 have mem:∀ u∈fR m S,∃ t∈S,u=ovT m t:=fun u hu=>by
  obtain⟨t,ht,e⟩:=Ak.mp hu;exact⟨t,ht,e.symm⟩
 have szs:∀ u∈fR m S,u.1.length=m-L:=fun u hu=>by
  obtain⟨t,ht,rfl⟩:=mem u hu;show (bP m t.1).length=_
  rw[xG (h.td.nd t ht) (h.rg t ht),h.sm.sz t ht]
 refine⟨fun u hu=>by rw[szs u hu];omega,fun u hu=>?_,by omega,⟨m-L,szs⟩,by omega⟩
 obtain⟨t,ht,rfl⟩:=mem u hu;refine iI (Ah (?_:(t.2*sgn (cS t.1 (bP m t.1))).natAbs<=2^240) (Ar (by decide) (by decide)))
 exact aQg (h.sm.nb t ht) _
theorem aUf {f g:FE}{ρ:Mir.Env}{k k':Kd}{fr fr':Bool}{i:Int}{p:List Int}(h1:f ρ=.ok ⟨k,fr,.int i⟩)(h2:g ρ=.ok ⟨k',fr',.tup (li p)⟩):inE true f g ρ=.ok (sc (.bl (!(p.any (·==i))))):=by
 simp only[inE,h1,h2,R.ok_bind,asI,asS,iV,if_true]
abbrev aEw (i j:Nat):FE:=bR (cV (vE i)) 1 [j] (.nm 0) (Mir.bIf (bT (inE true (vE 0) (vE 1))) (vE 0))
theorem aTg {ρ:Mir.Env}{i j m:Nat}{k:Kd}{fr f':Bool}{p:List Int}(h1:vE i ρ=.ok ⟨k,fr,.int m⟩)(h2:ρ[j]?=some (some ⟨.shr,f',.tup (li p)⟩))(hm:m<=1000):aEw i j ρ=.ok ⟨.tmp,true,.lst (li (bP m p))⟩:=by
 have c:=wN (it:=cV (vE i)) (tg:=.nm 0) (b:=Mir.bIf (bT (inE true (vE 0) (vE 1))) (vE 0)) (fr:=true) (st:=true) (ρ:=ρ) (k:=1) (fs:=[j]) (inj:=D.int) (out:=D.int) (c:=fun w=>!(p.any (·==w))) (xs:=cD m)
  (by
   refine(jS h1 (by omega)).trans ?_
   rw[cD,Bb];rfl)
  (fun w _=>by
   have env:eF 1 [j] ρ=[none,some ⟨.shr,f',.tup (li p)⟩]:=by simp[eF,h2]
   refine⟨[some ⟨.shr,true,.int w⟩,some ⟨.shr,f',.tup (li p)⟩],.shr,by rw[env];rfl,?_,by decide⟩
   exact aA5 (r:=⟨.shr,true,.int w⟩) (iD (aUf (k:=.shr) (fr:=true) (k':=.shr) (fr':=f'||(D.tup (li p)).imm) rfl rfl)) fun _=>rfl)
  (by rw[show (cD m).length=m by simp[cD],sizeLine_eq];omega)
 exact c
abbrev aEa:FS:=(bM (nK (aEw 0 1)))
theorem aTk {m:Nat}(hm:m<=5)(p:List Int):cG 2 2 aEa [.int m,.tup (li p)]=.ok ⟨.shr,true,.tup (li (bP m p))⟩:=by
 have e:aEw 0 1 [some ⟨.shr,false,.int m⟩,some ⟨.shr,false,.tup (li p)⟩]=.ok ⟨.tmp,true,.lst (li (bP m p))⟩:=aTg (k:=.shr) (fr:=true) (f':=false) rfl rfl (by omega)
 have e2:aEa [some ⟨.shr,false,.int m⟩,some ⟨.shr,false,.tup (li p)⟩]=.rt ⟨.shr,true,.tup (li (bP m p))⟩:=fA (vV e);refine(cJ (np:=2) (n:=2) (s:=aEa) (ds:=[.int m,.tup (li p)]) (r:=⟨.shr,true,.tup (li (bP m p))⟩) rfl e2).trans ?_
 simp only[Bool.true_or]
abbrev tob (φl φt:Φ):FS:=(aP (aO 5 (aC φl [vE 0,vE 3]))
 (mY 2 (dH [vE 5,bN (vE 4) (aC φt [kL (vE 3) (vE 5)])])))
abbrev aR7 (φc φl φt φs:Φ):FS :=
 (aP (jK (aC φc [vE 0]))
 (aP (aO 2 (cN []))
 (aP (cB (cW (vE 1)) (.tp [.nm 3,.nm 4]) (tob φl φt))
 (bM (aC φs [vE 2])))))
abbrev aE (m:Int)(B:D)(acc:List Tm)(x3 x4 x5:Option Res):Mir.Env:=[some ⟨.shr,false,.int m⟩,some ⟨.shr,false,B⟩,oR acc,x3,x4,x5]
theorem zD {φl φt:Φ}{m:Nat}(hl:∀ p:List Int,φl [.int m,.tup (li p)]=.ok ⟨.shr,true,.tup (li (bP m p))⟩)(ht:∀ p:List Int,p.length<64->φt [.tup (li p)]=.ok (sc (.int (trn p))))(B:D):∀ (S:List Tm),(∀ t∈S,t.1.length<=20/\t.2.natAbs<=2^240/\(bP m t.1).length<=20/\trn (t.1++bP m t.1)=sgn (cS t.1 (bP m t.1)))->∀ (acc:List Tm) (x3 x4 x5:Option Res),acc.length+S.length<=1000 ->
 ∃ y3 y4 y5,fN (.tp [.nm 3,.nm 4]) (tob φl φt) false (S.map mkP) (aE m B acc x3 x4 x5)=.nx (aE m B (acc++fR m S) y3 y4 y5)
 | [],_,acc,x3,x4,x5,_=>⟨x3,x4,x5,by rw[show fR m []=[] from rfl,Bt];rfl⟩
 | t :: S,h,acc,x3,x4,x5,hz=>by
  rw[As]at hz;obtain⟨h1,h2,h3,h4⟩:=h t Ab;have bd:Tg.bind false (.tp [.nm 3,.nm 4]) (mkP t) (aE m B acc x3 x4 x5)=.ok (aE m B acc (some ⟨.shr,false,.tup (li t.1)⟩) (some ⟨.shr,false,.int t.2⟩) x5):=rfl;have e1:aO 5 (aC φl [vE 0,vE 3]) (aE m B acc (some ⟨.shr,false,.tup (li t.1)⟩) (some ⟨.shr,false,.int t.2⟩) x5)=.nx (aE m B acc (some ⟨.shr,false,.tup (li t.1)⟩) (some ⟨.shr,false,.int t.2⟩) (some ⟨.shr,true,.tup (li (bP m t.1))⟩)):=set_shr (dJ (rs:=[⟨.shr,true,.int m⟩,⟨.shr,false||(D.tup (li t.1)).imm,.tup (li t.1)⟩]) (aB rfl (aB rfl aK)) (hl t.1));have v3:vE 3 (aE m B acc (some ⟨.shr,false,.tup (li t.1)⟩) (some ⟨.shr,false,.int t.2⟩) (some ⟨.shr,true,.tup (li (bP m t.1))⟩))=.ok ⟨.shr,true,.tup (li t.1)⟩:=wG (p:=t.1) (f:=false) (r:=[])
  have v5:vE 5 (aE m B acc (some ⟨.shr,false,.tup (li t.1)⟩) (some ⟨.shr,false,.int t.2⟩) (some ⟨.shr,true,.tup (li (bP m t.1))⟩))=.ok ⟨.shr,true,.tup (li (bP m t.1))⟩:=wG (p:=bP m t.1) (f:=true) (r:=[])
  have e2:aC φt [kL (vE 3) (vE 5)] (aE m B acc (some ⟨.shr,false,.tup (li t.1)⟩) (some ⟨.shr,false,.int t.2⟩) (some ⟨.shr,true,.tup (li (bP m t.1))⟩))=.ok ⟨.shr,true,.int (sgn (cS t.1 (bP m t.1)))⟩:=by
   rw[←h4];exact dJ (rs:=[⟨.shr,true&&true,.tup (li (t.1++bP m t.1))⟩]) (aB (qZ v3 v5 (by omega)) aK) (ht _ (by rw[Ai];omega))
  have e3:=gX v5 (aV (C:=CM) (G:=fun i j=>i*j) (f:=vE 4) (k:=.shr) (fr:=true) (i:=t.2) rfl e2 (eP (tD h2) (small (M:=1) (gG (by decide)) (lP _)))) (by decide) (by decide)
  have ex:tob φl φt (aE m B acc (some ⟨.shr,false,.tup (li t.1)⟩) (some ⟨.shr,false,.int t.2⟩) x5)=.nx (aE m B (acc++[ovT m t]) (some ⟨.shr,false,.tup (li t.1)⟩) (some ⟨.shr,false,.int t.2⟩) (some ⟨.shr,true,.tup (li (bP m t.1))⟩)):=by
   refine(aM e1).trans ?_
   refine(wC (fr:=true) (ds:=acc.map mkP) rfl e3 (by decide) (by rw[Ac,sizeLine_eq];omega)).trans ?_
   show RS.nx [_,_,some (⟨.own,true,.lst (acc.map mkP++[mkP (ovT m t)])⟩:Res),_,_,_]=.nx [_,_,some (⟨.own,true,.lst ((acc++[ovT m t]).map mkP)⟩:Res),_,_,_]
   rw[Bk];rfl
  obtain⟨y3,y4,y5,ih⟩:=zD hl ht B S (fun u hu=>h u (Ad _ hu)) (acc++[ovT m t]) (some ⟨.shr,false,.tup (li t.1)⟩) (some ⟨.shr,false,.int t.2⟩) (some ⟨.shr,true,.tup (li (bP m t.1))⟩) (by rw[Ai,Bl];omega)
  refine⟨y3,y4,y5,(kT (r:=S.map mkP) bd ex).trans (ih.trans ?_)⟩
  rw[Bv];rfl
theorem In.each {m L:Nat}{S:List Tm}(h:In m L S):∀ t∈S,t.1.length<=20/\t.2.natAbs<=2^240/\(bP m t.1).length<=20/\trn (t.1++bP m t.1)=sgn (cS t.1 (bP m t.1)):=fun t ht=>by
 have m5:=h.m5;refine⟨by rw[h.sm.sz t ht];exact h.sm.hL,h.sm.nb t ht,?_,aKh (h.td.up t ht) (h.td.nd t ht) (aGo m t.1) (aAb m t.1) fun x hx q=>(jG.mp q).2 hx⟩
 rw[xG (h.td.nd t ht) (h.rg t ht)];omega
theorem aTc {φc φl φt φs:Φ}(hc:∀ {m:Int},(decide (m<1)||decide (5<m))=false->φc [.int m]=.ok (sc .non)){m:Nat}(hl:∀ p:List Int,φl [.int m,.tup (li p)]=.ok ⟨.shr,true,.tup (li (bP m p))⟩)(ht:∀ p:List Int,p.length<64->φt [.tup (li p)]=.ok (sc (.int (trn p))))(hs:pM φs){L:Nat}{S:List Tm}(h:In m L S) :
 cG 2 6 (aR7 φc φl φt φs) [.int m,aD S]=.ok ⟨.tmp,true,aD (srt px (fR m S))⟩:=by
 have m1:=h.m1;have m5:=h.m5;have l1:=h.sm.ln;have e0:jK (aC φc [vE 0]) [some ⟨.shr,false,.int m⟩,some ⟨.shr,false,aD S⟩,none,none,none,none]=.nx [some ⟨.shr,false,.int m⟩,some ⟨.shr,false,aD S⟩,none,none,none,none]:=qE (dJ (rs:=[⟨.shr,true,.int m⟩]) (aB rfl aK) (hc (by rw[decide_eq_false (by omega),decide_eq_false (by omega)];rfl)))
 have e1:aO 2 (cN []) [some ⟨.shr,false,.int m⟩,some ⟨.shr,false,aD S⟩,none,none,none,none]=.nx (aE m (aD S) [] none none none):=rfl;obtain⟨y3,y4,y5,l⟩:=zD hl ht (aD S) S h.each [] none none none (by rw[Bp];omega)
 rw[Dh]at l;have e2:cB (cW (vE 1)) (.tp [.nm 3,.nm 4]) (tob φl φt) (aE m (aD S) [] none none none)=.nx (aE m (aD S) (fR m S) y3 y4 y5):=(eB (fr:=false) (ds:=S.map mkP) rfl).trans l
 have e3:aC φs [vE 2] (aE m (aD S) (fR m S) y3 y4 y5)=.ok ⟨.tmp,true,aD (srt px (fR m S))⟩:=by
  rw[←h.over];exact aU (rs:=[⟨.own,true,aD (fR m S)⟩]) (aB rfl aK) (hs _ h.fit)
 exact(cJ rfl ((aM e0).trans ((aM e1).trans ((aM e2).trans (iS e3))))).trans rfl
end Sm
namespace Sm
open PySem L2 Mir Srt
abbrev tR (f:Bool)(p:List Int):Option Res:=some ⟨.shr,f,.tup (li p)⟩
theorem aJm {S:List Tm}(h:(S.map (·.1)).Nodup):D.dct (wL S).1 (wL S).2=dK S:=by
 have go:∀ (T B:List Tm),((B++T).map (·.1)).Nodup->T.foldl (fun A p=>tK A.1 A.2 p.1 (.int p.2)) (B.map (·.1),B.map fun p=>.int p.2)=((B++T).map (·.1),(B++T).map fun p=>.int p.2):=by
  intro T;induction T with
  | nil=>intro B _;simp
  | cons t T ih =>
   intro B hn
   have nm:t.1∉B.map (·.1):=by
    rw[Bk,Dc]at hn;intro m;exact hn.2.2 t.1 m t.1 (by simp) rfl
   rw[List.foldl_cons,aGg];have e:put B t.1 t.2=B++[t]:=by unfold put;rw[if_neg nm]
   rw[e,ih (B++[t]) (by simpa using hn)]
   simp
 have:=go S [] (by simpa using h)
 unfold wL dK;rw[show (([]:List (List Int)),([]:List D))=(([]:List Tm).map (·.1),([]:List Tm).map fun p=>D.int p.2) from rfl,this]
 rfl
def wgt (a b:List Tm):Int:=(a.map fun t=>t.2*look b t.1).sum
abbrev aSm:FS :=
 (aP (aO 2 (aEk (vE 1)))
 (bM (aBo (bR (cW (vE 0)) 2 [2] (.tp [.nm 0,.nm 1]) (bE (bN (vE 1) (pD (vE 2) (vE 0) (cE (.int 0)))))))))
theorem aMs {a b:List Tm}(ha:Nb 240 a)(hb:Nb 240 b)(kb:(b.map (·.1)).Nodup)(la:a.length<=20)(lb:b.length<=20):cG 2 3 aSm [aD a,aD b]=.ok (sc (.int (wgt a b))):=by
 have e0:aEk (vE 1) [some ⟨.shr,false,aD a⟩,some ⟨.shr,false,aD b⟩,none]=.ok ⟨.tmp,true,dK b⟩:=by
  have v1:vE 1 [some ⟨.shr,false,aD a⟩,some ⟨.shr,false,aD b⟩,none]=.ok ⟨.shr,false,aD b⟩:=rfl;have c:b.length<=1000:=by omega
  simp only[aEk,v1,R.ok_bind,asL,xH,if_pos c];rw[aJm kb]
 have e1:aO 2 (aEk (vE 1)) [some ⟨.shr,false,aD a⟩,some ⟨.shr,false,aD b⟩,none]=.nx [some ⟨.shr,false,aD a⟩,some ⟨.shr,false,aD b⟩,some ⟨.own,true,dK b⟩]:=eD e0
 have e2:bR (cW (vE 0)) 2 [2] (.tp [.nm 0,.nm 1]) (bE (bN (vE 1) (pD (vE 2) (vE 0) (cE (.int 0))))) [some ⟨.shr,false,aD a⟩,some ⟨.shr,false,aD b⟩,some ⟨.own,true,dK b⟩]=.ok ⟨.tmp,true,.lst (a.map fun t=>.int (t.2*look b t.1))⟩:=by
  refine jT (inj:=mkP) (xs:=a) (oI (k:=.shr) (fr:=false) rfl) (fun t ht=>?_) (by rw[sizeLine_eq];omega)
  refine⟨[tR false t.1,some ⟨.shr,false,.int t.2⟩,some ⟨.own,true,dK b⟩],.shr,rfl,qX ?_,by decide⟩
  obtain⟨f5,g⟩:=aEo (a:=vE 2) (k:=vE 0) (x:=cE (.int 0)) (ρ:=[tR false t.1,some ⟨.shr,false,.int t.2⟩,some ⟨.own,true,dK b⟩]) (A:=b) (q:=t.1) (kd:=.own) (kd':=.shr) (kd'':=.shr) (fr:=true) (fr':=true) (fr'':=true) rfl wG rfl;exact aV (k:=.shr) (fr:=true) (i:=t.2) rfl g (eP (tD (ha t ht)) (tD (aE3 hb t.1)))
 have e3:aBo (bR (cW (vE 0)) 2 [2] (.tp [.nm 0,.nm 1]) (bE (bN (vE 1) (pD (vE 2) (vE 0) (cE (.int 0)))))) [some ⟨.shr,false,aD a⟩,some ⟨.shr,false,aD b⟩,some ⟨.own,true,dK b⟩]=.ok (sc (.int (wgt a b))):=by
  have e2':=e2;rw[show (a.map fun t=>D.int (t.2*look b t.1))=li (a.map fun t=>t.2*look b t.1) by rw[li,Bb];rfl]at e2'
  exact aLc e2'
 exact(cJ rfl ((aM e1).trans (fA e3))).trans rfl
end Sm
namespace Sm
open Srt
def hG:Nat->List (List Int)
 | 0=>[[]]
 | m+1=>hG m++(hG m).map (·++[(m:Int)])
theorem uF {m:Nat}:∀ {p:List Int},p.Pairwise (·<·)->(∀ x∈p,0<=x/\x<(m:Int))->p∈hG m:=by
 induction m with
 | zero =>
  intro p _ h;cases p with
  | nil=>exact Aq.mpr rfl
  | cons x p=>have:=h x Ab;omega
 | succ m ih =>
  intro p up h;by_cases z:(m:Int)∈p
  · have hp:p≠[]:=fun e=>by rw[e]at z;cases z
    have hc:=Cb hp;have up':=up;rw[←hc,List.pairwise_append]at up';have lt:∀ x∈p.dropLast,x<p.getLast hp:=fun x hx=>up'.2.2 x hx _ (Aq.mpr rfl);have hl:=h _ (Fl hp)
    have lm:p.getLast hp=(m:Int):=by
     rw[←hc]at z;rcases Bf.mp z with q | q
     · have:=lt _ q;omega
     · exact(Aq.mp q).symm
    refine Az _ (Ak.mpr ⟨p.dropLast,ih up'.1 (fun x hx=>?_),?_⟩)
    · have h1:=h x (Ec _ hx)
      have h2:=lt x hx;omega
    · rw[←lm];exact hc
  · refine Es _ (ih up fun x hx=>?_)
    have h1:=h x hx;have:x≠(m:Int):=fun e=>z (e▸hx)
    omega
theorem uA:∀ m,m<6->∀ k∈hG m,k∈hG 5:=by decide +kernel
theorem oG:∀ k∈hG 5,trn k=1/\srt ix k=k:=by decide +kernel
def hc (x:Nat)(k:List Int):Int:=if (x:Int)∈k then sgn (und (x:Int) k) else 0
def hw (x:Nat)(k:List Int):List Int:=k.filter fun y=>!(y==(x:Int))
theorem aLs:∀ k∈hG 5,∀ j,j<k.length->cut j k∈hG 5:=by decide +kernel
theorem aNa:∀ k∈hG 5,((Ao k.length).map fun j=>((k.getD j 0).toNat,sgn j,cut j k))=((Ao 5).filter fun (x:Nat)=>decide ((x:Int)∈k)).map fun x=>(x,hc x k,hw x k):=by decide +kernel
def hkX (row:List Int)(g:List Int->Int)(k:List Int):Int:=bK (Ao 5) fun x=>row.getD x 0*(hc x k*g (hw x k))
theorem aS5 (row:List Int)(g:List Int->Int){k:List Int}(h:k∈hG 5):bK (Ao k.length) (fun j=>sgn j*row.getD (k.getD j 0).toNat 0*g (cut j k))=hkX row g k:=by
 have e:=aNa k h;have e2:=congrArg (fun l=>bK l fun (q:Nat×Int×List Int)=>q.2.1*row.getD q.1 0*g q.2.2) e;simp only[fL,aHq]at e2;rw[e2];unfold hkX;refine aZ fun x _=>?_
 by_cases z:(x:Int)∈k
 · rw[decide_eq_true z,if_pos rfl,Cr (hc x k),Bj]
 · rw[decide_eq_false z,if_neg (by decide)]
   unfold hc;rw[if_neg z,Cq,Eu]
def In5 (S:List Tm):Prop:=∀ t∈S,t.1∈hG 5
theorem In5.vk {S:List Tm}(h:In5 S){t:Tm}(ht:t∈S):val t=t.2/\key t=t.1:=by
 have q:=oG t.1 (h t ht);exact⟨by rw[iK,q.1,Ef],q.2⟩
theorem eR {α:Type}(l:List α)(f:α->Int)(c:Int):bK l (fun x=>c*f x)=c*bK l f:=by
 rw[Cr,kF];exact aZ fun x _=>Cr _ _
theorem kO (row:List Int)(g:List Int->Int):∀ {S:List Tm},In5 S->lin (hook row S) g=lin S (hkX row g)
 | [],_=>rfl
 | t :: S,h=>by
  have ih:=kO row g (S:=S) fun u hu=>h u (Ad _ hu);have h0:=h t Ab;have q:=h.vk Ab;show lin (hkR row t t.1.length++hook row S) g=_
  rw[aAm,ih];simp only[lin,q.1,q.2];congr 1
  rw[←aS5 row g h0,←eR,kD];unfold hkR;rw[fL];refine aZ fun j hj=>?_
  have hj:=Bi.mp hj;have c:=oG _ (aLs t.1 h0 j hj)
  have e1:val (hkT row t j)=t.2*sgn j*row.getD (t.1.getD j 0).toNat 0:=by
   rw[iK];show trn (cut j t.1)*_=_
   rw[c.1,Ef];rfl
  have e2:key (hkT row t j)=cut j t.1:=c.2;rw[e1,e2];simp only[Bj]
theorem aJ3 (row:List Int){S:List Tm}(h:In5 S):In5 (hook row S):=fun t ht=>by
 obtain⟨u,hu,q⟩:=Bz.mp ht;obtain⟨j,hj,rfl⟩:=Ak.mp q;exact aLs u.1 (h u hu) j (Bi.mp hj)
theorem aIk {p:List Int}(nd:p.Nodup)(rg:∀ x∈p,0<=x/\x<(5:Int)):srt ix p∈hG 5:=by
 have pm:=dQ (r:=ix) p;exact uF (m:=5) (yO (gM eQ p) (pm.nodup_iff.mpr nd)) fun x hx=>rg x (pm.mem_iff.mp hx)
theorem aPd:∀ k∈hG 5,∀ x∈k,0<=x/\x<(5:Int):=by decide +kernel
theorem aAg {S:List Tm}(h:∀ t∈S,∀ x∈t.1,0<=x/\x<(5:Int)):In5 (aN S):=fun p hp=>by
 obtain⟨h1,h2⟩:=(mB S p).mp hp;obtain⟨t,ht,k,nd⟩:=rF (ts:=S) (k:=p.1) (by rw[←h1];exact h2)
 rw[←k];exact aIk nd (h t ht)
theorem In5.rg {S:List Tm}(h:In5 S):∀ t∈S,∀ x∈t.1,0<=x/\x<(5:Int):=fun t ht=>aPd t.1 (h t ht)
theorem aOa {a b:List Tm}(ha:In5 a)(hb:In5 b):∀ t∈bI a b,∀ x∈t.1,0<=x/\x<(5:Int):=fun t ht x hx=>by
 obtain⟨u,hu,q⟩:=Bz.mp ht;obtain⟨v,hv,rfl⟩:=Ak.mp q;exact(Bf.mp hx).elim (ha.rg u hu x) (hb.rg v hv x)
def eq3 (a b c:Int×List Int):Bool:=(a.1==b.1+c.1)&&(let W:=if a.1=0 then (if b.1=0 then c.2 else b.2) else a.2;(a.1==0||a.2==W)&&(b.1==0||b.2==W)&&(c.1==0||c.2==W))
theorem vN {a b c:Int×List Int}(h:eq3 a b c=true)(g:List Int->Int):a.1*g a.2=b.1*g b.2+c.1*g c.2:=by
 unfold eq3 at h;simp only[Cm,Gw,beq_iff_eq]at h;obtain⟨e,⟨h1,h2⟩,h3⟩:=h;generalize (if a.1=0 then (if b.1=0 then c.2 else b.2) else a.2)=W at *
 have f:∀ q:Int×List Int,(q.1=0\/q.2=W)->q.1*g q.2=q.1*g W:=fun q z=>by
  rcases z with z | z
  · rw[z,Cq,Cq]
  · rw[z]
 rw[f a h1,f b h2,f c h3,e,Gz]
theorem aXb:∀ x:Nat,x<5->∀ k∈hG 5,∀ l∈hG 5,eq3 (xs k l*hc x (srt ix (k++l)),hw x (srt ix (k++l))) (hc x k*xs (hw x k) l,srt ix (hw x k++l)) (sgn k.length*(hc x l*xs k (hw x l)),srt ix (k++hw x l))=true:=by decide +kernel
theorem aW3:∀ x:Nat,x<5->∀ y:Nat,y<5->∀ k∈hG 5,eq3 (hc x k*hc y (hw x k),hw y (hw x k)) (0-hc y k*hc x (hw y k),hw x (hw y k)) (0,[])=true:=by decide +kernel
end Sm
namespace Sm
open Srt
theorem qQ {α:Type}(c:α->Int)(G:α->List Int->Int)(b:List Tm):∀ l:List α,bK l (fun x=>c x*lin b (G x))=lin b fun k=>bK l fun x=>c x*G x k
 | []=>(aL9 b).symm
 | x :: l=>by
  simp only[bK];rw[aA9,qQ c G b l,Cr (c x),←jO];congr 1
  exact fO fun t _=>Cr _ _
theorem aO5 (row:List Int)(b:List Tm)(G:List Int->List Int->Int)(k:List Int):hkX row (fun k'=>lin b (G k')) k=lin b fun l=>hkX row (fun k'=>G k' l) k:=by
 have h:=qQ (fun (x:Nat)=>row.getD x 0*hc x k) (fun x=>G (hw x k)) b (Ao 5);unfold hkX;simpa only[Bj] using h
theorem uV {α:Type}(f g:α->Int):∀ l:List α,bK l f+bK l g=bK l fun x=>f x+g x
 | []=>rfl
 | x :: l=>by simp only[bK,←uV f g l];omega
theorem sF {α:Type}:∀ l:List α,bK l (fun _=>0)=0
 | []=>rfl
 | x :: l=>by simp only[bK,sF l];rfl
theorem oW {α β:Type}(F:α->β->Int)(m:List β):∀ l:List α,bK l (fun x=>bK m (F x))=bK m fun y=>bK l fun x=>F x y
 | []=>(sF m).symm
 | x :: l=>by simp only[bK,oW F m l,←uV]
theorem aRo (row:List Int)(g:List Int->Int){k l:List Int}(hk:k∈hG 5)(hl:l∈hG 5) :
 xs k l*hkX row g (srt ix (k++l))=hkX row (fun k'=>xs k' l*g (srt ix (k'++l))) k+hkX row (fun l'=>xs k l'*g (srt ix (k++l'))) l*sgn k.length:=by
 unfold hkX;rw[←eR,kF,uV];refine aZ fun x hx=>?_
 have e:=vN (aXb x (Bi.mp hx) k hk l hl) g;have e2:=congrArg (fun v=>row.getD x 0*v) e;simp only[Int.mul_add,Bj,Cr,Dd]at e2 ⊢;exact e2
theorem aId {a b:List Tm}(ha:In5 a)(hb:In5 b){L:Nat}(dL:Deg L a)(r:List Int):aN (hook r (aN (bI a b)))=aN (aN (bI (aN (hook r a)) b)++aN (jP (aN (bI a (aN (hook r b)))) (sgn L))):=iB fun g=>by
 rw[kO r g (aAg (aOa ha hb)),cZ,hZ,aAm,cZ,cZ,tZ,cZ,hZ,hZ,cZ,kO r _ ha,←jO,←aA9];refine fO fun t ht=>?_
 rw[aO5,cZ,kO r _ hb,←jO,←aA9];refine fO fun u hu=>?_
 have q1:=(ha.vk ht).2;have q2:=(hb.vk hu).2;have h:=aRo r g (ha t ht) (hb u hu);rw[dL t ht]at h;rw[q1,q2];exact h
theorem aDi (r s:List Int)(g:List Int->Int){k:List Int}(hk:k∈hG 5):hkX r (hkX s g) k=hkX s (hkX r g) k*(-1):=by
 have e1:∀ r s:List Int,hkX r (hkX s g) k=bK (Ao 5) fun x=>bK (Ao 5) fun y=>r.getD x 0*s.getD y 0*(hc x k*hc y (hw x k)*g (hw y (hw x k))):=fun r s=>by
  unfold hkX;refine aZ fun x _=>?_
  rw[←eR,←eR];refine aZ fun y _=>?_
  simp only[Bj,Cr,Dd]
 rw[e1 r s,e1 s r,oW,kF];refine aZ fun y hy=>?_
 rw[kF];refine aZ fun x hx=>?_
 have e:=vN (aW3 x (Bi.mp hx) y (Bi.mp hy) k hk) g;rw[Cq,Dy,Int.zero_sub]at e;rw[e,Cr (s.getD y 0)];simp only[Int.neg_mul,Int.mul_neg,Int.mul_one,Bj]
theorem sP {a:List Tm}(ha:In5 a)(r s:List Int)(g:List Int->Int):lin (hook s (aN (hook r a))) g=lin a (hkX r (hkX s g)):=by
 rw[kO s g (aAg (aJ3 r ha).rg),cZ,kO r _ ha]
theorem aIf {a:List Tm}(ha:In5 a)(r s:List Int):aN (hook s (aN (hook r a)))=aN (jP (aN (hook r (aN (hook s a)))) (-1)):=iB fun g=>by
 rw[sP ha,tZ,cZ,sP ha,←jO];refine fO fun t ht=>?_
 rw[(ha.vk ht).2];exact aDi r s g (ha t ht)
theorem oE:aN []=[]:=rfl
theorem aEl {a:List Tm}(ha:In5 a)(r:List Int):aN (hook r (aN (hook r a)))=[]:=by
 rw[←oE];refine iB fun g=>?_
 have e:lin a (hkX r (hkX r g))=lin a (hkX r (hkX r g))*(-1):=by
  conv=>lhs;rw[fO (h:=fun k=>hkX r (hkX r g) k*(-1)) fun t ht=>by rw[(ha.vk ht).2];exact aDi r r g (ha t ht),jO]
 rw[sP ha];show _=0
 omega
def InM (m:Nat)(S:List Tm):Prop:=∀ t∈S,t.1∈hG m
def oc (m:Nat)(k:List Int):Int:=sgn (cS k (bP m k))
theorem aGh:∀ m,m<6->∀ k∈hG m,bP m k∈hG m:=by decide +kernel
theorem aO2:∀ m,m<6->∀ k∈hG m,∀ j,j<k.length->cut j k∈hG m:=by decide +kernel
theorem InM.i5 {m:Nat}(hm:m<6){S:List Tm}(h:InM m S):In5 S:=fun t ht=>uA m hm _ (h t ht)
theorem aPx {m:Nat}{S:List Tm}(h:∀ t∈S,key t∈hG m):InM m (aN S):=fun p hp=>by
 obtain⟨h1,h2⟩:=(mB S p).mp hp;obtain⟨t,ht,k,_⟩:=rF (ts:=S) (k:=p.1) (by rw[←h1];exact h2)
 rw[←k];exact h t ht
theorem aKr {m:Nat}(hm:m<6){S:List Tm}(h:InM m S):InM m (fR m S):=fun t ht=>by
 obtain⟨u,hu,rfl⟩:=Ak.mp ht;exact aGh m hm u.1 (h u hu)
theorem aLp {m:Nat}(hm:m<6)(r:List Int){S:List Tm}(h:InM m S):InM m (hook r S):=fun t ht=>by
 obtain⟨u,hu,q⟩:=Bz.mp ht;obtain⟨j,hj,rfl⟩:=Ak.mp q;exact aO2 m hm u.1 (h u hu) j (Bi.mp hj)
theorem InM.sum {m:Nat}(hm:m<6){S:List Tm}(h:InM m S):InM m (aN S):=aPx fun t ht=>by rw[((h.i5 hm).vk ht).2];exact h t ht
theorem nV {m:Nat}(hm:m<6)(g:List Int->Int){S:List Tm}(h:InM m S):lin (fR m S) g=lin S fun k=>oc m k*g (bP m k):=by
 rw[kD,kD];unfold fR;rw[fL];refine aZ fun t ht=>?_
 have q:=(h.i5 hm).vk ht;have z:=oG _ (uA m hm _ (aGh m hm t.1 (h t ht)))
 have e1:val (ovT m t)=t.2*oc m t.1:=by
  rw[iK];show trn (bP m t.1)*_=_
  rw[z.1,Ef];rfl
 have e2:key (ovT m t)=bP m t.1:=z.2;rw[e1,e2,q.1,q.2,Bj]
theorem ov2:∀ m,m<6->∀ k∈hG m,eq3 (oc m k*oc m (bP m k),bP m (bP m k)) (sgn (k.length*(m-k.length)),k) (0,[])=true:=by decide +kernel
theorem aHw {m L:Nat}(hm:m<6){a:List Tm}(ha:InM m a)(dL:Deg L a):aN (fR m (aN (fR m a)))=aN (jP a (sgn (L*(m-L)))):=iB fun g=>by
 rw[nV hm g ((aKr hm ha).sum hm),cZ,nV hm _ ha,tZ,←jO];refine fO fun t ht=>?_
 have e:=vN (ov2 m hm t.1 (ha t ht)) g;rw[Cq,Dy,dL t ht]at e;rw[((ha.i5 hm).vk ht).2,←Bj,e,Cr]
theorem ovw:∀ m,m<6->∀ k∈hG m,∀ l∈hG m,k.length=l.length->eq3 (oc m l*xs k (bP m l),srt ix (k++bP m l)) (ind k l,cD m) (0,[])=true:=by decide +kernel
theorem aH0 {m L:Nat}(hm:m<6){a b:List Tm}(ha:InM m a)(hb:InM m b)(dA:Deg L a)(dB:Deg L b):aN (bI a (aN (fR m b)))=aN [(cD m,lin a fun k=>mQ b k)]:=iB fun g=>by
 have e0:lin [(cD m,lin a fun k=>mQ b k)] g=(lin a fun k=>mQ b k)*g (cD m):=by
  have z:=oG _ (uA m hm _ (uF (m:=m) (aDl m hm) fun x hx=>fK.mp hx));show val (cD m,lin a fun k=>mQ b k)*g (srt ix (cD m))+0=_
  rw[iK,z.2,Dy];show trn (cD m)*_*_=_
  rw[z.1,Ef]
 rw[e0,hZ,←jO];refine fO fun t ht=>?_
 unfold mQ;rw[cZ,nV hm _ hb,←jO];refine fO fun u hu=>?_
 have e:=vN (ovw m hm t.1 (ha t ht) u.1 (hb u hu) (by rw[dA t ht,dB u hu])) g
 rw[Cq,Dy]at e;rw[((ha.i5 hm).vk ht).2,((hb.i5 hm).vk hu).2,←Bj];exact e
theorem ovh:∀ m,m<6->∀ x:Nat,x<m->∀ k∈hG m,eq3 (hc x k*oc m (hw x k),bP m (hw x k)) (sgn (m-1)*(oc m k*xs (bP m k) [(x:Int)]),srt ix (bP m k++[(x:Int)])) (0,[])=true:=by decide +kernel
theorem yL {f:Nat->Int}{m:Nat}(h:∀ x,m<=x->f x=0):∀ n,bK (Ao (m+n)) f=bK (Ao m) f
 | 0=>rfl
 | n+1=>by
  rw[←Nat.add_assoc,Gv]
  have e:∀ (l:List Nat) (y:Nat),bK (l++[y]) f=bK l f+f y:=fun l y=>by
   induction l with
   | nil=>simp[bK]
   | cons z l ih=>simp only[Ed,bK,ih];omega
  rw[e,yL h n,h _ (by omega),Dy]
theorem aJj {r:List Int}(hr:r.length<6)(h:List Int->Int):lin (dX r) h=bK (Ao 5) fun x=>r.getD x 0*h [(x:Int)]:=by
 rw[kD,kH,fL];unfold cD;rw[fL];have e:=yL (f:=fun x=>r.getD x 0*h [(x:Int)]) (m:=r.length) (fun x hx=>by rw[Al,Bx hx];exact Cq _) (5-r.length)
 rw[show r.length+(5-r.length)=5 by omega]at e
 rw[e];refine aZ fun x _=>?_
 rw[aOb,Br];rfl
theorem aHg {m:Nat}(hm:m<6){a:List Tm}(ha:InM m a){r:List Int}(hr:r.length=m):aN (fR m (aN (hook r a)))=aN (jP (aN (bI (aN (fR m a)) (aN (dX r)))) (sgn (m-1))):=iB fun g=>by
 rw[nV hm g ((aLp hm r ha).sum hm),cZ,kO r _ (ha.i5 hm),tZ,cZ,hZ,cZ,nV hm _ ha,←jO];refine fO fun t ht=>?_
 rw[((ha.i5 hm).vk ht).2,cZ,aJj (by omega)]
 unfold hkX;rw[←eR,kF];refine aZ fun x hx=>?_
 by_cases z:x<m
 · have e:=vN (ovh m hm x z t.1 (ha t ht)) g
   rw[Cq,Dy]at e;have e2:=congrArg (fun v=>r.getD x 0*v) e;simp only[Bj,Cr,Dd]at e2 ⊢;exact e2
 · have:r.getD x 0=0:=by rw[Al,Bx (by omega)];rfl
   rw[this];simp
end Sm
namespace Sm
open Srt
theorem oQ {α β:Type}(f:α->List β)(g:β->Int):∀ l:List α,bK (l.flatMap f) g=bK l fun x=>bK (f x) g
 | []=>rfl
 | x :: l=>by
  have app:∀ a b:List β,bK (a++b) g=bK a g+bK b g:=fun a b=>by
   induction a with
   | nil=>simp[bK]
   | cons z a ih=>simp only[Ed,bK,ih];omega
  rw[Fi,app,oQ f g l];rfl
theorem zC (m:Nat):∀ (n:Nat) (F:List Int->Int),bK (iC m (n+1)) F=bK (cD m) fun x=>bK (iC m n) fun w=>F (x :: w)
 | 0,F=>by
  show bK ([[]].flatMap fun w=>(cD m).map fun i=>w++[i]) F=_
  rw[oQ];simp only[bK,fL,Dy,iC];rfl
 | n+1,F=>by
  show bK ((iC m (n+1)).flatMap fun w=>(cD m).map fun i=>w++[i]) F=_
  rw[oQ,zC m n];refine aZ fun x _=>?_
  show _=bK ((iC m n).flatMap fun w=>(cD m).map fun i=>w++[i]) _
  rw[oQ];refine aZ fun w _=>?_
  rw[fL,fL];rfl
def pB (B:Nat->Nat->Int):List Int->List Int->Int
 | j :: o,x :: w=>B j.toNat x.toNat*pB B o w
 | _,_=>1
theorem aFr (m:Nat)(A B:Nat->Nat->Int):∀ (o:List Int) (i:Nat),prF (fun i j=>bK (cD m) fun x=>A i x.toNat*B j x.toNat) i o=bK (iC m o.length) fun w=>prF A i w*pB B o w
 | [],i=>by simp[prF,iC,bK,pB]
 | j :: o,i=>by
  rw[As,zC];simp only[prF];rw[aFr m A B o (i+1),kF];refine aZ fun x _=>?_
  rw[←eR];refine aZ fun w _=>?_
  simp only[prF,pB,Bj,Cr,Dd]
def act (n:Nat)(o w:List Int):List Int:=(Ao n).map fun (j:Nat)=>w.getD (o.findIdx fun x=>x==(j:Int)) 0
def zp:List Int->List Int->List (Nat×Nat)
 | j :: o,x :: w=>(j.toNat,x.toNat) :: zp o w
 | _,_=>[]
theorem aQo (B:Nat->Nat->Int):∀ o w:List Int,pB B o w=pL B (zp o w)
 | [],_=>by simp[pB,zp,pL]
 | _ :: _,[]=>by simp[pB,zp,pL]
 | j :: o,x :: w=>by simp only[pB,zp,pL,aQo B o w]
theorem aOm:∀ n,n<4->∀ o∈cT n,∀ w∈iC 5 n,(zp o.1 w).Perm (prs 0 (act n o.1 w)):=by decide +kernel
theorem aL3:∀ n,n<4->∀ m,m<6->∀ o∈cT n,∀ w∈iC m n,act n o.1 w∈iC m n:=by decide +kernel
def cfs (n:Nat)(w v:List Int):Int:=bK (cT n) fun o=>if act n o.1 w=v then o.2 else 0
theorem aSi:∀ n,n<4->∀ w∈iC 5 n,∀ v∈iC 5 n,cfs n w v=trn w*(trn v*ind (srt ix w) (srt ix v)):=by decide +kernel
theorem aAd {m n:Nat}(hm:m<6){w:List Int}(h:w∈iC m n):w∈iC 5 n:=by
 obtain⟨h1,h2⟩:=jI.mp h;exact jI.mpr ⟨h1,fun x hx=>by have:=h2 x hx;omega⟩
theorem aHd {l:List (List Int)}(nd:l.Nodup){u:List Int}(hu:u∈l)(f:List Int->Int)(c:Int):bK l (fun v=>(if u=v then c else 0)*f v)=c*f u:=by
 induction l with
 | nil=>cases hu
 | cons v l ih =>
  obtain⟨n1,n2⟩:=Cu.mp nd;simp only[bK];by_cases z:u=v
  · have e:bK l (fun x=>(if u=x then c else 0)*f x)=0:=by
     refine(aZ fun x hx=>?_).trans (sF l)
     rw[if_neg (fun q=>n1 (by rw[←z,q];exact hx)),Cq]
    rw[e,if_pos z,z,Dy]
  · rw[if_neg z,Cq,Gr]
    exact ih n2 ((An.mp hu).resolve_left z)
theorem aPc {m n:Nat}(hm:m<6)(hn:n<4){r:List (List Int)}(hr:r.length=n){o:Tm}(ho:o∈cT n){w:List Int}(h:w∈iC m n):pB (en r) o.1 w=prd r (act n o.1 w):=by
 have l:=(jI.mp (aL3 n hn m hm o ho w h)).1;rw[aQo,aOs (aOm n hn o ho w (aAd hm h)),←aMl,aGj r _ (by rw[hr,l]) (en r) 0 fun a b=>by rw[Cv]]
theorem aUm {m n:Nat}(hm:m<6)(hn:n<4){r:List (List Int)}(hr:r.length=n){w:List Int}(h:w∈iC m n) :
 bK (cT n) (fun o=>o.2*pB (en r) o.1 w)=trn w*bK (iC m n) fun v=>trn v*prd r v*ind (srt ix w) (srt ix v):=by
 have e1:∀ o∈cT n,o.2*pB (en r) o.1 w=bK (iC m n) fun v=>(if act n o.1 w=v then o.2 else 0)*prd r v:=fun o ho=>by
  rw[aHd (uZ m n) (aL3 n hn m hm o ho w h),aPc hm hn hr ho h]
 rw[aZ e1,oW,←eR];refine aZ fun v hv=>?_
 rw[←kF];show cfs n w v*prd r v=_
 rw[aSi n hn w (aAd hm h) v (aAd hm hv)];simp only[Bj,Cr,Dd]
theorem aF5 {m n:Nat}{l:List (List Int)}(hl:l.length=n)(hm:∀ x∈l,x.length=m)(h:List Int->Int):lin (raw l) h=bK (iC m n) fun w=>trn w*prd l w*h (srt ix w):=by
 rw[kD,aEx n l hl hm,fL];refine aZ fun w _=>?_
 rw[iK];rfl
theorem aUd {m n:Nat}(hm:m<6)(hn:n<4){l r:List (List Int)}(hl:l.length=n)(hr:r.length=n)(ml:∀ x∈l,x.length=m)(mr:∀ x∈r,x.length=m){t:List (List Int)}(ht:t.length=n)
 (h:∀ i j,i<n->j<n->en t i j=bK (cD m) fun x=>en l i x.toNat*en r j x.toNat):(lin (raw l) fun k=>mQ (raw r) k)=nC t (cD n):=by
 rw[aEt ht,aEf h];unfold aI5
 have e1:∀ o∈cT n,o.2*prF (fun i j=>bK (cD m) fun x=>en l i x.toNat*en r j x.toNat) 0 o.1=bK (iC m n) fun w=>prd l w*(o.2*pB (en r) o.1 w):=fun o ho=>by
  rw[aFr,oM ho,←eR];refine aZ fun w hw=>?_
  rw[aGj l w (by rw[hl,(jI.mp hw).1]) (en l) 0 fun a b=>by rw[Cv]]
  simp only[Bj,Cr,Dd]
 rw[aZ e1,oW,aF5 hl ml];refine aZ fun w hw=>?_
 rw[eR,aUm hm hn hr hw];unfold mQ;rw[aF5 hr mr];simp only[Bj,Cr,Dd]
end Sm
namespace Od
open PySem L2 Mir Srt Sm
theorem aPe {f g:FE}{ρ:Mir.Env}{k k':Kd}{fr fr':Bool}{p:List Int}{j:Nat}(h1:f ρ=.ok ⟨k,fr,.tup (li p)⟩)(h2:g ρ=.ok ⟨k',fr',.int j⟩)(hj:j<=p.length):nO f noO (soO g) ρ=.ok ⟨.shr,fr,.tup (li (p.take j))⟩:=by
 have c:lG (li p) none (some (j:Int))=li (p.take j):=by
  unfold lG;rw[HT.vL,HT.kY];simp[Gu hj]
 simp only[nO,h1,noO,soO,h2,R.ok_bind,asI,asT,c]
theorem aOi {f g:FE}{ρ:Mir.Env}{k k':Kd}{fr fr':Bool}{p:List Int}{j:Nat}(h1:f ρ=.ok ⟨k,fr,.tup (li p)⟩)(h2:g ρ=.ok ⟨k',fr',.int j⟩):nO f (soO g) noO ρ=.ok ⟨.shr,fr,.tup (li (p.drop j))⟩:=by
 simp only[nO,h1,noO,soO,h2,R.ok_bind,asI,asT,aCr]
def zV (n:Int)(o:Tm)(k:Nat):Tm:=(o.1.take k++[n]++o.1.drop k,o.2*sgn (o.1.length-k))
theorem zB (n:Nat):cT (n+1)=(cT n).flatMap fun o=>(Ao (o.1.length+1)).map (zV (n:Int) o):=rfl
theorem wB:∀ n,∀ o∈cT n,o.1.length=n/\o.2.natAbs<=1:=by
 intro n;induction n with
 | zero=>intro o h;rw[Aq.mp h];exact⟨rfl,by decide⟩
 | succ n ih =>
  intro o h;rw[zB]at h;obtain⟨u,hu,h⟩:=Bz.mp h;obtain⟨k,hk,rfl⟩:=Ak.mp h;have hk:=Bi.mp hk;obtain⟨i1,i2⟩:=ih u hu;refine⟨?_,?_⟩
  · show (u.1.take k++[(n:Int)]++u.1.drop k).length=n+1
    rw[Ai,Ai,Ca,Di,Bl];omega
  · show (u.2*sgn (u.1.length-k)).natAbs<=1
    rw[Ct];have:(sgn (u.1.length-k)).natAbs=1:=by unfold sgn;omega
    rw[this];omega
theorem oM:∀ n,n<=5->(cT n).length<=120:=by decide +kernel
abbrev ob:FS:=mY 3 (dH [kL (kL (nO (vE 4) (noO) (soO (vE 6))) (dH [vE 2])) (nO (vE 4) (soO (vE 6)) (noO)),bN (vE 5) (eM (cE (.int 1)) (bN (cE (.int 2)) (cA (eM (bX (vE 4)) (vE 6)) (cE (.int 2)))))])
abbrev mb:FS:=cB (cV (cH (bX (vE 4)) (cE (.int 1)))) (.nm 6) ob
abbrev ub:FS:=(aP (aO 3 (cN []))
 (aP (tQ 1 (cB (cW (vE 1)) (.tp [.nm 4,.nm 5]) mb))
 (tQ 3 (aO 1 (vE 3)))))
abbrev nW:FS :=
 (aP (aO 1 (cN [dH [dH [],cE (.int 1)]]))
 (aP (cB (cV (vE 0)) (.nm 2) ub)
 (bM (vE 1))))
abbrev uE (x0 x1:Option Res)(n:Int)(acc:List Tm)(x4 x5 x6:Option Res):Mir.Env:=[x0,x1,iR n,oR acc,x4,x5,x6]
abbrev tR (p:List Int):Option Res:=some ⟨.shr,true,.tup (li p)⟩
theorem aSr (x0 x1:Option Res)(n:Int)(acc:List Tm)(o:Tm)(k:Nat)(hk:k<=o.1.length)(hl:o.1.length<=20)(ha:acc.length<=1000)(hb:o.2.natAbs<=1) :
 ob (uE x0 x1 n acc (tR o.1) (iR o.2) (iR k))=.nx (uE x0 x1 n (acc++[zV n o k]) (tR o.1) (iR o.2) (iR k)):=by
 have v4:vE 4 (uE x0 x1 n acc (tR o.1) (iR o.2) (iR k))=.ok ⟨.shr,true,.tup (li o.1)⟩:=rfl;have v6:vE 6 (uE x0 x1 n acc (tR o.1) (iR o.2) (iR k))=.ok ⟨.shr,true,.int (k:Int)⟩:=rfl;have c1:=aPe v4 v6 hk;have c2:=aOi v4 v6;have t2:dH [vE 2] (uE x0 x1 n acc (tR o.1) (iR o.2) (iR k))=.ok ⟨.shr,true,.tup (li [n])⟩:=rfl;have c3:=qZ c1 t2 (by rw[Ca,Bl];omega)
 have c4:=qZ c3 c2 (by rw[Ai,Ca,Di,Bl];omega)
 have ln:bX (vE 4) (uE x0 x1 n acc (tR o.1) (iR o.2) (iR k))=.ok ⟨.shr,true,.int (o.1.length:Nat)⟩:=by
  simp only[bX,v4,R.ok_bind,asS,sc,Ac]
 have m1:=aV (C:=CP) (G:=fun i j=>i%j) (aV (C:=C0) (G:=fun i j=>i-j) ln v6 rfl) (g:=cE (.int 2)) (k':=.shr) (fr':=true) (j:=2) rfl (gA (by decide))
 have m2:=aV (C:=CM) (G:=fun i j=>i*j) (f:=cE (.int 2)) (k:=.shr) (fr:=true) (i:=2) rfl m1 (eP (sm9 (by decide)) (sm9 (by omega)))
 have m3:=aV (C:=C0) (G:=fun i j=>i-j) (f:=cE (.int 1)) (k:=.shr) (fr:=true) (i:=1) rfl m2 rfl;have m4:=aV (C:=CM) (G:=fun i j=>i*j) (f:=vE 5) (k:=.shr) (fr:=true) (i:=o.2) rfl m3 (eP (sm9 (by omega)) (sm9 (by omega)))
 have tt:=gX c4 m4 (by decide) (by decide)
 refine(wC (i:=3) (fr:=true) (ds:=acc.map mkP) rfl tt (by decide) (by rw[Ac,sizeLine_eq];omega)).trans ?_
 have z:o.2*(1-2*(((o.1.length:Nat):Int)-(k:Int))%2)=0\/True:=Or.inr trivial;have e:(1:Int)-2*((((o.1.length:Nat):Int)-(k:Int))%2)=sgn (o.1.length-k):=by unfold sgn;omega
 have w:mkP (zV n o k)=.tup [.tup (li (o.1.take k++[n]++o.1.drop k)),.int (o.2*(1-2*((((o.1.length:Nat):Int)-(k:Int))%2)))]:=by rw[e];rfl
 show RS.nx [_,_,_,some (⟨.own,_,.lst (acc.map mkP++[_])⟩:Res),_,_,_]=RS.nx [_,_,_,some ⟨.own,true,.lst ((acc++[zV n o k]).map mkP)⟩,_,_,_]
 rw[Bk,List.map_singleton,w];rfl
theorem aU4 (x0 x1:Option Res)(n:Int)(o:Tm)(hl:o.1.length<=20)(hb:o.2.natAbs<=1):∀ (ks:List Nat) (acc:List Tm) (x6:Option Res),(∀ k∈ks,k<=o.1.length)->acc.length+ks.length<=1000 ->
 ∃ y6,fN (.nm 6) ob true (ks.map fun (i:Nat)=>.int (i:Int)) (uE x0 x1 n acc (tR o.1) (iR o.2) x6)=.nx (uE x0 x1 n (acc++ks.map (zV n o)) (tR o.1) (iR o.2) y6)
 | [],acc,x6,_,_=>⟨x6,by simp only[Gc,Bt];rfl⟩
 | k :: ks,acc,x6,h,hz=>by
  rw[As]at hz;obtain⟨y6,ih⟩:=aU4 x0 x1 n o hl hb ks (acc++[zV n o k]) (iR k) (fun q hq=>h q (Ad _ hq)) (by rw[Ai,Bl];omega)
  refine⟨y6,?_⟩
  have bd:Tg.bind true (.nm 6) (.int (k:Int)) (uE x0 x1 n acc (tR o.1) (iR o.2) x6)=.ok (uE x0 x1 n acc (tR o.1) (iR o.2) (iR k)):=rfl;refine(kT bd (aSr x0 x1 n acc o k (h k Ab) hl (by omega) hb)).trans (ih.trans ?_)
  rw[Bv];rfl
theorem aQq (x0 x1:Option Res)(n:Int){L:Nat}(hL:L<=20):∀ (os acc:List Tm) (x4 x5 x6:Option Res),(∀ o∈os,o.1.length=L/\o.2.natAbs<=1)->acc.length+os.length*(L+1)<=1000 ->
 ∃ y4 y5 y6,fN (.tp [.nm 4,.nm 5]) mb true (os.map mkP) (uE x0 x1 n acc x4 x5 x6)=.nx (uE x0 x1 n (acc++os.flatMap fun o=>(Ao (o.1.length+1)).map (zV n o)) y4 y5 y6)
 | [],acc,x4,x5,x6,_,_=>⟨x4,x5,x6,by rw[List.flatMap_nil,Bt];rfl⟩
 | o :: os,acc,x4,x5,x6,h,hz=>by
  rw[As,Et]at hz;obtain⟨h1,h2⟩:=h o Ab;obtain⟨y6,i1⟩:=aU4 x0 x1 n o (by omega) h2 (Ao (o.1.length+1)) acc x6 (fun k hk=>by have:=Bi.mp hk;omega) (by rw[Eb];omega)
  obtain⟨z4,z5,z6,i2⟩:=aQq x0 x1 n hL os (acc++(Ao (o.1.length+1)).map (zV n o)) (tR o.1) (iR o.2) y6 (fun q hq=>h q (Ad _ hq)) (by rw[Ai,Ac,Eb];omega)
  refine⟨z4,z5,z6,?_⟩
  have bd:Tg.bind true (.tp [.nm 4,.nm 5]) (mkP o) (uE x0 x1 n acc x4 x5 x6)=.ok (uE x0 x1 n acc (tR o.1) (iR o.2) x6):=rfl
  have ln:cH (bX (vE 4)) (cE (.int 1)) (uE x0 x1 n acc (tR o.1) (iR o.2) x6)=.ok ⟨.shr,true,.int ((o.1.length+1:Nat):Int)⟩:=by
   have l1:bX (vE 4) (uE x0 x1 n acc (tR o.1) (iR o.2) x6)=.ok ⟨.shr,true,.int (o.1.length:Nat)⟩:=by
    show (R.ok (sc (.int ((li o.1).length:Nat))):R Res)=_
    rw[Ac];rfl
   exact(aV (C:=C0) (G:=fun i j=>i+j) l1 (g:=cE (.int 1)) (k':=.shr) (fr':=true) (j:=1) rfl rfl).trans (by rw[Fv];rfl)
  have e:mb (uE x0 x1 n acc (tR o.1) (iR o.2) x6)=.nx (uE x0 x1 n (acc++(Ao (o.1.length+1)).map (zV n o)) (tR o.1) (iR o.2) y6):=(eB (jS ln (by omega))).trans i1
  refine(kT bd e).trans (i2.trans ?_)
  rw[Fi,Bv]
theorem aVi (x0:Option Res):∀ (r j:Nat) (k:Kd),j+r<=5->∀ x2 x3 x4 x5 x6:Option Res,∃ k' y2 y3 y4 y5 y6,(r=0->k'=k)/\(0<r->k'=.shr) /\
 fN (.nm 2) ub true ((Eo j r).map fun (i:Nat)=>.int (i:Int)) [x0,some ⟨k,true,aD (cT j)⟩,x2,x3,x4,x5,x6]=.nx [x0,some ⟨k',true,aD (cT (j+r))⟩,y2,y3,y4,y5,y6]:=by
 intro r;induction r with
 | zero=>intro j k _ x2 x3 x4 x5 x6;exact⟨k,x2,x3,x4,x5,x6,fun _=>rfl,fun h=>absurd h (by decide),rfl⟩
 | succ r ih =>
  intro j k h x2 x3 x4 x5 x6;have on:=wB j;have ol:=oM j (by omega)
  have lm:(cT j).length*(j+1)<=120*5:=Bg ol (by omega)
  obtain⟨y4,y5,y6,m⟩:=aQq x0 (some ⟨.shr,true,aD (cT j)⟩) (j:Int) (L:=j) (by omega) (cT j) [] x4 x5 x6 on (by rw[Bp];omega)
  rw[Dh,←zB]at m;obtain⟨k',z2,z3,z4,z5,z6,q1,q2,e⟩:=ih (j+1) .shr (by omega) (iR j) (some ⟨.shr,true,aD (cT (j+1))⟩) y4 y5 y6
  refine⟨k',z2,z3,z4,z5,z6,fun z=>absurd z (by omega),fun _=>?_,?_⟩
  · cases r with
    | zero=>exact q1 rfl
    | succ r=>exact q2 (by omega)
  have bd:Tg.bind true (.nm 2) (.int (j:Int)) [x0,some ⟨k,true,aD (cT j)⟩,x2,x3,x4,x5,x6]=.ok [x0,some ⟨k,true,aD (cT j)⟩,iR j,x3,x4,x5,x6]:=rfl;have e1:aO 3 (cN []) [x0,some ⟨k,true,aD (cT j)⟩,iR j,x3,x4,x5,x6]=.nx [x0,some ⟨k,true,aD (cT j)⟩,iR j,oR [],x4,x5,x6]:=rfl
  have e2:tQ 1 (cB (cW (vE 1)) (.tp [.nm 4,.nm 5]) mb) [x0,some ⟨k,true,aD (cT j)⟩,iR j,oR [],x4,x5,x6]=.nx (uE x0 (some ⟨.shr,true,aD (cT j)⟩) j (cT (j+1)) y4 y5 y6) :=
   (aEq (e:=⟨k,true,aD (cT j)⟩) rfl).trans ((eB (fr:=true) (ds:=(cT j).map mkP) rfl).trans m)
  have e3:tQ 3 (aO 1 (vE 3)) (uE x0 (some ⟨.shr,true,aD (cT j)⟩) j (cT (j+1)) y4 y5 y6)=.nx [x0,some ⟨.shr,true,aD (cT (j+1))⟩,iR j,some ⟨.shr,true,aD (cT (j+1))⟩,y4,y5,y6] :=
   (aEq (e:=⟨.own,true,aD (cT (j+1))⟩) rfl).trans (set_shr rfl)
  have b:ub [x0,some ⟨k,true,aD (cT j)⟩,iR j,x3,x4,x5,x6]=.nx [x0,some ⟨.shr,true,aD (cT (j+1))⟩,iR j,some ⟨.shr,true,aD (cT (j+1))⟩,y4,y5,y6]:=(aM e1).trans ((aM e2).trans e3);rw[Go,Ap];refine(kT bd b).trans (e.trans ?_)
  rw[show j+1+r=j+(r+1) by omega]
theorem aKk {n:Nat}(h:n<=5):∃ k,(k=.shr\/k=.tmp)/\cG 1 7 nW [.int n]=.ok ⟨k,true,aD (cT n)⟩:=by
 obtain⟨k',y2,y3,y4,y5,y6,q1,q2,e⟩:=aVi (some ⟨.shr,false,.int n⟩) n 0 .own (by omega) none none none none none
 rw[Cv]at e;have e1:aO 1 (cN [dH [dH [],cE (.int 1)]]) [some ⟨.shr,false,.int n⟩,none,none,none,none,none,none]=.nx [some ⟨.shr,false,.int n⟩,some ⟨.own,true,aD (cT 0)⟩,none,none,none,none,none]:=rfl
 have e2:cB (cV (vE 0)) (.nm 2) ub [some ⟨.shr,false,.int n⟩,some ⟨.own,true,aD (cT 0)⟩,none,none,none,none,none]=.nx [some ⟨.shr,false,.int n⟩,some ⟨k',true,aD (cT n)⟩,y2,y3,y4,y5,y6]:=by
  refine(eB (jS (k:=.shr) (fr:=true) (n:=n) rfl (by omega))).trans ?_
  rw[Cz];exact e
 by_cases z:n=0
 · have kk:k'=.own:=q1 z
   subst kk;have e3:bM (vE 1) [some ⟨.shr,false,.int n⟩,some ⟨.own,true,aD (cT n)⟩,y2,y3,y4,y5,y6]=.rt ⟨.tmp,true,aD (cT n)⟩:=aGk (f:=vE 1) (fr:=true) (d:=aD (cT n)) rfl;have g:nW (stE 7 [.int n])=.rt ⟨.tmp,true,aD (cT n)⟩:=(aM e1).trans ((aM e2).trans e3);exact⟨.tmp,.inr rfl,(cJ (np:=1) (n:=7) (s:=nW) (ds:=[.int n]) rfl g).trans rfl⟩
 · have kk:k'=.shr:=q2 (by omega)
   subst kk;have e3:bM (vE 1) [some ⟨.shr,false,.int n⟩,some ⟨.shr,true,aD (cT n)⟩,y2,y3,y4,y5,y6]=.rt ⟨.shr,true,aD (cT n)⟩:=fA (f:=vE 1) (fr:=true) (d:=aD (cT n)) rfl;have g:nW (stE 7 [.int n])=.rt ⟨.shr,true,aD (cT n)⟩:=(aM e1).trans ((aM e2).trans e3);exact⟨.shr,.inl rfl,(cJ (np:=1) (n:=7) (s:=nW) (ds:=[.int n]) rfl g).trans rfl⟩
end Od
namespace Od
open PySem L2 Mir Srt Sm
theorem aVz {f g:FE}{ρ:Mir.Env}{k k':Kd}{fr fr':Bool}{ds:List D}{i:Nat}{d:D}(h1:f ρ=.ok ⟨k,fr,.tup ds⟩)(h2:g ρ=.ok ⟨k',fr',.int i⟩)(h:ds[i]?=some d):bD f g ρ=.ok ⟨.shr,fr||d.imm,d⟩:=by
 simp only[bD,h1,h2,R.ok_bind,asS,asI,Mir.tW h]
theorem aMr {p:List Int}{i:Nat}(h:i<p.length):(li p)[i]?=some (.int (p.getD i 0)):=sO h
theorem aTs {rows:List (List Int)}{i:Nat}(h:i<rows.length):(lil rows)[i]?=some (.lst (li (rows.getD i []))):=by
 simp[lil,h,Al]
theorem toI {x:Int}(h:0<=x):x=((x.toNat:Nat):Int):=(Int.toNat_of_nonneg h).symm
structure Mn (m B:Nat)(rows:List (List Int))(p:List Int):Prop where
 ln:rows.length=p.length
 l5:p.length<=5
 sz:∀ r∈rows,r.length=m
 nb:∀ r∈rows,∀ x∈r,x.natAbs<=2^B
 rg:∀ x∈p,0<=x/\x<m
 hB:B*p.length<=900
abbrev nb':FS:=aO 5 (bN (vE 5) (bD (bD (vE 0) (vE 6)) (bD (vE 1) (bD (vE 3) (vE 6)))))
abbrev nl:FS:=(aP (aO 5 (vE 4))
 (aP (cB (cV (bX (vE 1))) (.nm 6) nb')
 (aO 2 (cH (vE 2) (vE 5)))))
abbrev aAl (φ:Φ):FS :=
 (aP (aO 2 (cE (.int 0)))
 (aP (cB (cW (aC φ [bX (vE 1)])) (.tp [.nm 3,.nm 4]) nl)
 (bM (vE 2))))
abbrev mE (rows:List (List Int))(p:List Int)(t:Int)(x3 x4 x5 x6:Option Res):Mir.Env:=[some ⟨.shr,false,.lst (lil rows)⟩,some ⟨.shr,false,.tup (li p)⟩,iR t,x3,x4,x5,x6]
def pk (rows:List (List Int))(p:List Int)(o:Tm)(j:Nat):Int:=o.2*prd (rows.take j) ((jF p o.1).take j)
def vk (rows:List (List Int))(p:List Int)(o:Tm)(j:Nat):Int:=(rows.getD j []).getD (p.getD (o.1.getD j 0).toNat 0).toNat 0
structure Oo (n:Nat)(o:Tm):Prop where
 ln:o.1.length=n
 rg:∀ x∈o.1,0<=x/\x<(n:Int)
 nb:o.2.natAbs<=1
theorem aVu {n:Nat}{o:Tm}(h:o∈cT n):Oo n o:=⟨(wB n o h).1,fun x hx=>fK.mp ((qS h).1.mem_iff.mp hx),(wB n o h).2⟩
theorem aE7 {α:Type}{l:List α}{j:Nat}{d:α}(h:j<l.length):l.take (j+1)=l.take j++[l.getD j d]:=by
 rw[Ea,Aj h,Al,Aj h];rfl
theorem aQu {m B:Nat}{rows:List (List Int)}{p:List Int}(M:Mn m B rows p){o:Tm}(O:Oo p.length o){j:Nat}(h:j<p.length):pk rows p o (j+1)=pk rows p o j*vk rows p o j:=by
 have lw:(jF p o.1).length=p.length:=by unfold jF;rw[Ac,O.ln]
 have hr:=M.ln;unfold pk vk;rw[aE7 (d:=[]) (show j<rows.length by omega),aE7 (d:=0) (show j<(jF p o.1).length by omega),uY _ _ _ _ (by rw[Ca,Ca,lw,hr]),Bj]
 congr 3
 have hj:j<o.1.length:=by rw[O.ln];exact h
 simp[jF,Al,hj]
theorem aQj {m B:Nat}{rows:List (List Int)}{p:List Int}(M:Mn m B rows p){o:Tm}(O:Oo p.length o){j:Nat}(h:j<p.length):(rows.getD j []).length=m/\(p.getD (o.1.getD j 0).toNat 0).toNat<m/\0<=p.getD (o.1.getD j 0).toNat 0/\(o.1.getD j 0).toNat<p.length/\0<=o.1.getD j 0/\(vk rows p o j).natAbs<=2^B:=by
 have hr:=M.ln;have mr:rows.getD j []∈rows:=Mir.eV (by omega)
 have rl:=M.sz _ mr;have oj:=O.rg _ (Mir.eV (d:=0) (show j<o.1.length by rw[O.ln];exact h))
 have lt:(o.1.getD j 0).toNat<p.length:=by omega
 have pj:=M.rg _ (Mir.eV (d:=0) lt);refine⟨rl,by omega,pj.1,lt,oj.1,M.nb _ mr _ (Mir.eV (by omega))⟩
theorem aVs {m B:Nat}{rows:List (List Int)}{p:List Int}(M:Mn m B rows p){o:Tm}(O:Oo p.length o):∀ j,j<=p.length->(pk rows p o j).natAbs<=2^(B*j):=by
 intro j;induction j with
 | zero=>intro _;unfold pk;simp[prd];exact O.nb
 | succ j ih =>
  intro h;rw[aQu M O (by omega),Ct,Nat.mul_succ,Fe]
  exact Bg (ih (by omega)) (aQj M O (by omega)).2.2.2.2.2
theorem aD5 {m B:Nat}{rows:List (List Int)}{p:List Int}(M:Mn m B rows p){o:Tm}(O:Oo p.length o)(t:Int)(x4:Option Res){j:Nat}(h:j<p.length) :
 nb' (mE rows p t (tR o.1) x4 (iR (pk rows p o j)) (iR j))=.nx (mE rows p t (tR o.1) x4 (iR (pk rows p o (j+1))) (iR j)):=by
 obtain⟨v1,v2,v3,v4,v5,v6⟩:=aQj M O h;have hr:=M.ln;have a1:bD (vE 0) (vE 6) (mE rows p t (tR o.1) x4 (iR (pk rows p o j)) (iR j))=.ok ⟨.shr,_,.lst (li (rows.getD j []))⟩:=mR (k:=.shr) (fr:=false||(D.lst (lil rows)).imm) (k':=.shr) (fr':=true) (i:=j) rfl rfl (aTs (by omega))
 have a2:bD (vE 3) (vE 6) (mE rows p t (tR o.1) x4 (iR (pk rows p o j)) (iR j))=.ok ⟨.shr,_,.int (o.1.getD j 0)⟩:=aVz (k:=.shr) (fr:=true) (k':=.shr) (fr':=true) (i:=j) rfl rfl (aMr (by rw[O.ln];exact h))
 rw[toI v5]at a2;have a3:=aVz (f:=vE 1) (ρ:=mE rows p t (tR o.1) x4 (iR (pk rows p o j)) (iR j)) (k:=.shr) (fr:=false||(D.tup (li p)).imm) rfl a2 (aMr v4);rw[toI v3]at a3;have a4:=mR a1 a3 (aMr (by omega))
 have b1:(pk rows p o j).natAbs<2^1000:=iI (Ah (aVs M O j (by omega)) (Ar (by decide) (Ah (Fy _ (by omega)) M.hB)))
 have b2:(vk rows p o j).natAbs<2^1000:=iI (Ah v6 (Ar (by decide) (Ah (by have:B*1<=B*p.length:=Fy _ (by omega);omega) M.hB)))
 have a5:=aV (C:=CM) (G:=fun i j=>i*j) (f:=vE 5) (k:=.shr) (fr:=true) (i:=pk rows p o j) rfl a4 (eP b1 b2);refine(set_shr (i:=5) a5).trans ?_
 rw[aQu M O h];rfl
theorem aWp {m B:Nat}{rows:List (List Int)}{p:List Int}(M:Mn m B rows p){o:Tm}(O:Oo p.length o)(t:Int)(x4:Option Res):∀ (r j:Nat) (x6:Option Res),j+r=p.length ->
 ∃ y6,fN (.nm 6) nb' true ((Eo j r).map fun (i:Nat)=>.int (i:Int)) (mE rows p t (tR o.1) x4 (iR (pk rows p o j)) x6)=.nx (mE rows p t (tR o.1) x4 (iR (pk rows p o (j+r))) y6):=by
 intro r;induction r with
 | zero=>intro j x6 _;exact⟨x6,rfl⟩
 | succ r ih =>
  intro j x6 h;obtain⟨y6,e⟩:=ih (j+1) (iR j) (by omega)
  refine⟨y6,?_⟩
  have bd:Tg.bind true (.nm 6) (.int (j:Int)) (mE rows p t (tR o.1) x4 (iR (pk rows p o j)) x6)=.ok (mE rows p t (tR o.1) x4 (iR (pk rows p o j)) (iR j)):=rfl;rw[Go,Ap];refine(kT bd (aD5 M O t x4 (by omega))).trans (e.trans ?_)
  rw[show j+1+r=j+(r+1) by omega]
theorem aUv {m B:Nat}{rows:List (List Int)}{p:List Int}(M:Mn m B rows p){o:Tm}(O:Oo p.length o)(t:Int)(x5 x6:Option Res) :
 ∃ y6,nl (mE rows p t (tR o.1) (iR o.2) x5 x6)=.nx (mE rows p (t+o.2*prd rows (jF p o.1)) (tR o.1) (iR o.2) (iR (o.2*prd rows (jF p o.1))) y6):=by
 obtain⟨y6,e⟩:=aWp M O t (iR o.2) p.length 0 x6 (by omega)
 have p0:pk rows p o 0=o.2:=by unfold pk;simp[prd]
 have pn:pk rows p o (0+p.length)=o.2*prd rows (jF p o.1):=by
  unfold pk;rw[Cv,Du (by rw[M.ln];exact Af _),Du (by unfold jF;rw[Ac,O.ln];exact Af _)]
 rw[p0,pn]at e;refine⟨y6,?_⟩
 have e1:aO 5 (vE 4) (mE rows p t (tR o.1) (iR o.2) x5 x6)=.nx (mE rows p t (tR o.1) (iR o.2) (iR o.2) x6):=rfl
 have l1:bX (vE 1) (mE rows p t (tR o.1) (iR o.2) (iR o.2) x6)=.ok ⟨.shr,true,.int (p.length:Nat)⟩:=by
  show (R.ok (sc (.int ((li p).length:Nat))):R Res)=_
  rw[Ac];rfl
 have e2:cB (cV (bX (vE 1))) (.nm 6) nb' (mE rows p t (tR o.1) (iR o.2) (iR o.2) x6)=.nx (mE rows p t (tR o.1) (iR o.2) (iR (o.2*prd rows (jF p o.1))) y6):=by
  refine(eB (jS l1 (by have:=M.l5;omega))).trans ?_
  rw[Cz];exact e
 exact(aM e1).trans ((aM e2).trans (set_shr (aV (C:=C0) (G:=fun i j=>i+j) (k:=.shr) (fr:=true) (i:=t) (k':=.shr) (fr':=true) (j:=o.2*prd rows (jF p o.1)) rfl rfl rfl)))
theorem aQn {m B:Nat}{rows:List (List Int)}{p:List Int}(M:Mn m B rows p):∀ (os:List Tm) (t:Int) (x3 x4 x5 x6:Option Res),(∀ o∈os,Oo p.length o) ->
 ∃ y3 y4 y5 y6,fN (.tp [.nm 3,.nm 4]) nl true (os.map mkP) (mE rows p t x3 x4 x5 x6)=.nx (mE rows p (t+bK os fun o=>o.2*prd rows (jF p o.1)) y3 y4 y5 y6)
 | [],t,x3,x4,x5,x6,_=>⟨x3,x4,x5,x6,by simp only[bK,Dy,Gc];rfl⟩
 | o :: os,t,x3,x4,x5,x6,h=>by
  obtain⟨y6,e⟩:=aUv M (h o Ab) t x5 x6;obtain⟨z3,z4,z5,z6,ih⟩:=aQn M os (t+o.2*prd rows (jF p o.1)) (tR o.1) (iR o.2) (iR (o.2*prd rows (jF p o.1))) y6 (fun q hq=>h q (Ad _ hq));refine⟨z3,z4,z5,z6,?_⟩
  have bd:Tg.bind true (.tp [.nm 3,.nm 4]) (mkP o) (mE rows p t x3 x4 x5 x6)=.ok (mE rows p t (tR o.1) (iR o.2) x5 x6):=rfl;refine(kT bd e).trans (ih.trans ?_)
  simp only[bK,Int.add_assoc]
theorem aPf {φ:Φ}(hφ:∀ {n:Nat},n<=5->∃ k,(k=.shr\/k=.tmp)/\φ [.int n]=.ok ⟨k,true,aD (cT n)⟩){m B:Nat}{rows:List (List Int)}{p:List Int}(M:Mn m B rows p):cG 2 7 (aAl φ) [.lst (lil rows),.tup (li p)]=.ok (sc (.int (nC rows p))):=by
 obtain⟨y3,y4,y5,y6,e⟩:=aQn M (cT p.length) 0 none none none none (fun o ho=>aVu ho);rw[Gr]at e;have e1:aO 2 (cE (.int 0)) [some ⟨.shr,false,.lst (lil rows)⟩,some ⟨.shr,false,.tup (li p)⟩,none,none,none,none,none]=.nx (mE rows p 0 none none none none):=rfl;obtain⟨k,hk,ek⟩:=hφ (n:=p.length) M.l5
 have l1:bX (vE 1) (mE rows p 0 none none none none)=.ok ⟨.shr,true,.int (p.length:Nat)⟩:=by
  show (R.ok (sc (.int ((li p).length:Nat))):R Res)=_
  rw[Ac];rfl
 have c:=aAf (φ:=φ) (fs:=[bX (vE 1)]) (rs:=[⟨.shr,true,.int (p.length:Nat)⟩]) (aB l1 aK) ek
 have it:cW (aC φ [bX (vE 1)]) (mE rows p 0 none none none none)=.ok ⟨true,true,(cT p.length).map mkP⟩:=by
  refine(oI c).trans ?_
  rcases hk with z | z<;>rw[z]<;>rfl
 have e2:cB (cW (aC φ [bX (vE 1)])) (.tp [.nm 3,.nm 4]) nl (mE rows p 0 none none none none)=.nx (mE rows p (nC rows p) y3 y4 y5 y6):=(eB it).trans e;have g:aAl φ (stE 7 [.lst (lil rows),.tup (li p)])=.rt ⟨.shr,true,.int (nC rows p)⟩:=(aM e1).trans ((aM e2).trans (fA rfl));exact(cJ (np:=2) (n:=7) (s:=aAl φ) (ds:=[.lst (lil rows),.tup (li p)]) rfl g).trans rfl
end Od
namespace Od
open PySem L2 Mir Srt Sm
abbrev ab:FS:=(aP (aO 6 (cH (aT3 (nO (vE 5) (soO (aWt (cE (.int 1)))) (noO))) (aWd (gtE (bX (vE 5)) (cE (.int 0))))))
 (aO 4 (pG (vE 4) (bR (zM (vE 6) (vE 0)) 1 [5] (.nm 0) (bE (kL (vE 1) (dH [vE 0])))))))
end Od
namespace Od
open PySem L2 Mir Srt Sm
abbrev lb (φb:Φ):FS:=(aP (aO 6 (aEk (aC φb [vE 2,bR (pU (vE 5)) 1 [0] (.nm 0) (bE (bD (vE 1) (vE 0)))])))
 (mY 4 (bR (cW (vE 3)) 1 [6] (.nm 0) (bE (pD (vE 1) (vE 0) (cE (.int 0)))))))
abbrev hd (t:List (List Int))(s:Int)(x2:Option Res):Mir.Env:=[some ⟨.shr,false,.lst (lil t)⟩,some ⟨.shr,false,.int s⟩,x2,none,none,none,none]
end Od
namespace Od
open PySem L2 Mir Srt Sm
abbrev qR' (x:List (List Int)):Option Res:=some ⟨.own,true,.lst (lil x)⟩
end Od
namespace Od
open PySem L2 Mir Srt Sm
theorem aE0 {α:Type}{M:Nat}(f:α->Int):∀ l:List α,(∀ x∈l,(f x).natAbs<=M)->(bK l f).natAbs<=l.length*M
 | [],_=>by simp[bK]
 | x :: l,h=>by
  have h1:=h x Ab;have h2:=aE0 f l fun y hy=>h y (Ad _ hy);simp only[bK,As,Et];have:=Int.natAbs_add_le (f x) (bK l f)
  omega
structure Sq (m B:Nat)(t:List (List Int)):Prop where
 m5:m<=5
 ln:t.length=m
 sz:∀ r∈t,r.length=m
 nb:∀ r∈t,∀ x∈r,x.natAbs<=2^B
 hB:(B+6)*m+(B+3)<=890
section
variable {m B:Nat}{t:List (List Int)}
theorem Sq.e9 (T:Sq m B t){r:List Int}(hr:r∈t){x:Int}(hx:x∈r):x.natAbs<2^1000:=by
 have h:=T.hB;exact iI (Ah (T.nb r hr x hx) (Ar (by decide) (by omega)))
end
theorem aN7 {α:Type}{k:Nat}{l:List α}{x:α}(h:x∈cut k l):x∈l:=(Bf.mp h).elim List.mem_of_mem_take List.mem_of_mem_drop
theorem aRv {m:Nat}{rows:List (List Int)}(hm:∀ r∈rows,r.length=m){t:Tm}(h:t∈raw rows):t.1.length=rows.length/\∀ x∈t.1,0<=x/\x<(m:Int):=by
 rw[aEx rows.length rows rfl hm]at h;obtain⟨w,hw,e⟩:=Ak.mp h;rw[←e];exact jI.mp hw
end Od
namespace Od
open PySem L2 Mir Srt Sm
abbrev sgE (f:FE):FE:=eM (cE (.int 1)) (bN (cE (.int 2)) (cA f (cE (.int 2))))
theorem aC6 {f:FE}{ρ:Mir.Env}{k:Kd}{fr:Bool}{x:Nat}(h:f ρ=.ok ⟨k,fr,.int (x:Nat)⟩):sgE f ρ=.ok ⟨.shr,true,.int (sgn x)⟩:=by
 have h1:cA f (cE (.int 2)) ρ=.ok ⟨.shr,true,.int ((x:Int)%2)⟩:=aV h (k':=.shr) (fr':=true) (j:=2) rfl (gA (by decide))
 have h2:bN (cE (.int 2)) (cA f (cE (.int 2))) ρ=.ok ⟨.shr,true,.int (2*((x:Int)%2))⟩:=aV (k:=.shr) (fr:=true) (i:=2) rfl h1 (eP (by decide) (Cy (show ((x:Int)%2).natAbs<=2 by omega) (by decide)))
 exact aV (C:=C0) (G:=fun i j=>i-j) (k:=.shr) (fr:=true) (i:=1) rfl h2 rfl
theorem aQp {f g:FE}{ρ:Mir.Env}{k k':Kd}{fr fr':Bool}{a b:Nat}(h1:f ρ=.ok ⟨k,fr,.int a⟩)(h2:g ρ=.ok ⟨k',fr',.int b⟩):cH f g ρ=.ok ⟨.shr,true,.int ((a+b:Nat):Int)⟩ :=
 (aV (C:=C0) (G:=fun i j=>i+j) h1 h2 rfl).trans (by rw[Fv];rfl)
theorem aLz {f:FE}{ρ:Mir.Env}{k:Kd}{fr:Bool}{n:Nat}(h:f ρ=.ok ⟨k,fr,.int (n:Nat)⟩)(hn:n<=5):rJ f ρ=.ok ⟨.shr,true,.tup (li (cD n))⟩:=by
 have c:(0:Int)<=(n:Int)/\(n:Int)<=1000:=by omega
 simp only[rJ,h,R.ok_bind,asI,if_pos c,Br,aMd];unfold li cD;rw[Bb];rfl
end Od
namespace Od
open PySem L2 Mir Srt Sm
structure L9 (m:Nat)(b:List (List Int)):Prop where
 m1:1<=m
 m5:m<=5
 ln:b.length=m
 sz:∀ r∈b,r.length=m
 nb:∀ r∈b,∀ x∈r,x.natAbs<2^1000
theorem aE6 {α:Type}(f:α->Int):∀ l:List α,(l.map f).sum=bK l f
 | []=>rfl
 | x :: l=>by simp only[Ap,List.sum_cons,bK,aE6 f l]
theorem Sq.l9 {m B:Nat}{t:List (List Int)}(T:Sq m B t)(m1:1<=m):L9 m t:=⟨m1,T.m5,T.ln,T.sz,fun r hr x hx=>T.e9 hr hx⟩
end Od
namespace Od
open PySem L2 Mir Srt Sm
structure G (m L B:Nat)(S:List Tm):Prop where
 i:Sm.In m L S
 nb:Nb B S
section
variable {m L K B C:Nat}{a b S:List Tm}
theorem aS1 {ts:List Tm}(h:∀ t∈ts,∀ x∈t.1,0<=x/\x<(m:Int)):∀ p∈aN ts,∀ x∈p.1,0<=x/\x<(m:Int):=fun p hp x hx=>by
 obtain⟨t,ht,k,_⟩:=uL p hp;rw[←k]at hx;exact h t ht x ((eE t).mem_iff.mp hx)
theorem aCg {ts:List Tm}{c:Nat}(sz:∀ t∈ts,t.1.length=L)(rg:∀ t∈ts,∀ x∈t.1,0<=x/\x<(m:Int))(ln:ts.length<=2^c)(nb:Nb B ts)(hB:B+c<=240)(hT:L<=20)(m1:1<=m)(m5:m<=5):G m L (B+c) (aN ts):=by
 have s:=Five.sumS (T:=L) (ts:=ts) ⟨sz,fun t ht x hx=>by have:=rg t ht x hx;omega⟩ ln nb hB hT
 exact⟨⟨s,lX ts,s.nb,aS1 rg,m1,m5⟩,aD2 ln nb⟩
theorem G.inM (h:G m L B S):InM m S:=fun t ht=>uF (yO (h.i.td.up t ht) (h.i.td.nd t ht)) (h.i.rg t ht)
theorem G.in5 (h:G m L B S):In5 S:=h.inM.i5 (by have:=h.i.m5;omega)
theorem G.deg (h:G m L B S):Deg L S:=h.i.sm.sz
theorem G.le (h:G m L B S)(c:B<=C):G m L C S:=⟨h.i,fun t ht=>Ah (h.nb t ht) (Ar (by decide) c)⟩
theorem aUa (hL:L<=20)(m1:1<=m)(m5:m<=5)(B:Nat):G m L B []:=⟨⟨aGn hL,aKz,fun t ht=>(by cases ht),fun t ht=>(by cases ht),m1,m5⟩,fun t ht=>(by cases ht)⟩
theorem G.prod (ha:G m L B a)(hb:G m K C b)(hT:L+K<=20)(hB:B+C+9<=240):G m (L+K) (B+C+9) (aN (bI a b)):=by
 refine aCg (Five.prod ha.i.sm.five hb.i.sm.five).sz (fun t ht x hx=>?_) ?_ (aFg ha.nb hb.nb) hB hT ha.i.m1 ha.i.m5
 · obtain⟨u,hu,q⟩:=Bz.mp ht
   obtain⟨v,hv,rfl⟩:=Ak.mp q;exact(Bf.mp hx).elim (ha.i.rg u hu x) (hb.i.rg v hv x)
 · rw[aB4]
   exact Ah (Bg ha.i.sm.ln hb.i.sm.ln) (by decide)
theorem G.tim (ha:G m L B a){k:Int}(hk:k.natAbs<=1)(hB:B+5<=240):G m L (B+5) (aN (jP a k)):=by
 have l1:=ha.i.sm.ln
 have mem:∀ u∈jP a k,∃ t∈a,u=(t.1,t.2*k):=fun u hu=>by
  obtain⟨t,ht,e⟩:=Ak.mp hu;exact⟨t,ht,e.symm⟩
 refine aCg (fun u hu=>?_) (fun u hu=>?_) (by unfold jP;rw[Ac];exact Ah l1 (by decide)) (fun u hu=>?_) hB ha.i.sm.hL ha.i.m1 ha.i.m5
 · obtain⟨t,ht,rfl⟩:=mem u hu;exact ha.i.sm.sz t ht
 · obtain⟨t,ht,rfl⟩:=mem u hu;exact ha.i.rg t ht
 · obtain⟨t,ht,rfl⟩:=mem u hu
   show (t.2*k).natAbs<=_
   rw[Ct];exact Ah (Bg (ha.nb t ht) hk) (by omega)
structure Rw (m:Nat)(r:List Int):Prop where
 ln:r.length=m
 nb:∀ x∈r,x.natAbs<=9
theorem Rw.at {r:List Int}(h:Rw m r)(k:Nat):(r.getD k 0).natAbs<=2^4:=by
 by_cases z:k<r.length
 · exact Ah (h.nb _ (Mir.eV z)) (by decide)
 · rw[Al,Bx (by omega)];decide
theorem G.hook {r:List Int}(hr:Rw m r)(ha:G m L B a)(hB:B+4+9<=240):G m (L-1) (B+4+9) (aN (hook r a)):=by
 have l1:=ha.i.sm.ln;have hL:=ha.i.sm.hL;refine aCg (fun u hu=>?_) (fun u hu x hx=>?_) ?_ (fun u hu=>?_) hB (by omega) ha.i.m1 ha.i.m5
 · obtain⟨t,ht,j,hj,rfl⟩:=mM hu
   have:=ha.i.sm.sz t ht
   show (cut j t.1).length=_
   rw[aMi hj,this]
 · obtain⟨t,ht,j,hj,rfl⟩:=mM hu
   exact ha.i.rg t ht x (aN7 hx)
 · rw[nL r a L ha.i.sm.sz]
   exact Ah (Bg l1 hL) (by decide)
 · obtain⟨t,ht,j,hj,rfl⟩:=mM hu
   show (t.2*sgn j*r.getD (t.1.getD j 0).toNat 0).natAbs<=_
   rw[Ct,Ct,Fe];refine Bg ?_ (hr.at _)
   have:=Bg (ha.nb t ht) (lP j)
   rw[Gy]at this;exact this
theorem G.over (ha:G m L B a)(hB:B+5<=240):G m (m-L) (B+5) (aN (fR m a)):=by
 have l1:=ha.i.sm.ln;have m5:=ha.i.m5
 have mem:∀ u∈fR m a,∃ t∈a,u=ovT m t:=fun u hu=>by
  obtain⟨t,ht,e⟩:=Ak.mp hu;exact⟨t,ht,e.symm⟩
 refine aCg (fun u hu=>?_) (fun u hu x hx=>?_) (by unfold fR;rw[Ac];exact Ah l1 (by decide)) (fun u hu=>?_) hB (by omega) ha.i.m1 ha.i.m5
 · obtain⟨t,ht,rfl⟩:=mem u hu
   show (bP m t.1).length=_
   rw[xG (ha.i.td.nd t ht) (ha.i.rg t ht),ha.i.sm.sz t ht]
 · obtain⟨t,ht,rfl⟩:=mem u hu
   exact(jG.mp hx).1
 · obtain⟨t,ht,rfl⟩:=mem u hu
   show (t.2*sgn _).natAbs<=_
   rw[Ct];have:=Bg (ha.nb t ht) (lP (cS t.1 (bP m t.1)))
   rw[Gy]at this;exact this
theorem G.wgt (ha:G m L B a)(hb:G m L C b):wgt a b=lin a fun k=>mQ b k:=by
 unfold Sm.wgt;rw[aE6,kD];refine aZ fun t ht=>?_
 have q:=ha.in5.vk ht
 have e:look b t.1=mQ b t.1:=by
  rw[wP hb.i.td.ks];unfold mQ;exact(hb.i.td.lin _).symm
 rw[q.1,q.2,e]
end
theorem aQc {row:List Int}{s:FS}{S:List Tm}(hl:∀ t∈S,t.1.length<=100)(h:∀ t∈S,¬ Far row t) :
 cG 2 4 (cB (cW (vE 1)) (.tp [.nm 2,.nm 3]) (ifS (bT (aH2 (bR (pU (vE 2)) 1 [0] (.nm 0) (bE (geE (vE 0) (bX (vE 1))))))) s eC)) [.lst (li row),aD S]=.ok (sc .non):=by
 have go:∀ (T:List Tm),(∀ t∈T,t.1.length<=100)->(∀ t∈T,¬ Far row t)->∀ x2 x3:Option Res,∃ y2 y3,fN (.tp [.nm 2,.nm 3]) (ifS (bT (aH2 (bR (pU (vE 2)) 1 [0] (.nm 0) (bE (geE (vE 0) (bX (vE 1))))))) s eC) false (T.map mkP) (rE row (aD S) x2 x3)=.nx (rE row (aD S) y2 y3):=by
  intro T;induction T with
  | nil=>intro _ _ x2 x3;exact⟨x2,x3,rfl⟩
  | cons t T ih =>
   intro hl h x2 x3;have bd:Tg.bind false (.tp [.nm 2,.nm 3]) (mkP t) (rE row (aD S) x2 x3)=.ok (rE row (aD S) (some ⟨.shr,false,.tup (li t.1)⟩) (some ⟨.shr,false,.int t.2⟩)):=rfl;obtain⟨y2,y3,e⟩:=ih (fun u hu=>hl u (Ad _ hu)) (fun u hu=>h u (Ad _ hu)) (some ⟨.shr,false,.tup (li t.1)⟩) (some ⟨.shr,false,.int t.2⟩);have c:=aWi row (aD S) t (hl t Ab)
   have f:(t.1.any fun x=>decide ((row.length:Int)<=x))=false:=by
    rw[List.any_eq_false];intro x hx q;exact h t Ab ⟨x,hx,of_decide_eq_true q⟩
   rw[f]at c;exact⟨y2,y3,(kT (r:=T.map mkP) bd ((nP c).trans rfl)).trans e⟩
 obtain⟨y2,y3,e⟩:=go S hl h none none;exact aA6 (ρ:=rE row (aD S) y2 y3) rfl ((eB (fr:=false) (ds:=S.map mkP) rfl).trans e)
theorem aMq {φr φs:Φ}(hs:pM φs){row:List Int}(hr:RowOk row){L:Nat}{S:List Tm}(hS:Sum L S)(nf:∀ t∈S,¬ Far row t)(rc:φr [.lst (li row),aD S]=.ok (sc .non)):cG 2 8 (vI φr φs) [.lst (li row),aD S]=.ok ⟨.tmp,true,aD (aN (hook row S))⟩:=by
 have hL:=hS.hL;have hn:=hS.ln;have e0:jK (aC φr [vE 0,vE 1]) [some ⟨.shr,false,.lst (li row)⟩,some ⟨.shr,false,aD S⟩,none,none,none,none,none,none]=.nx [some ⟨.shr,false,.lst (li row)⟩,some ⟨.shr,false,aD S⟩,none,none,none,none,none,none]:=qE (dJ (rs:=[⟨.shr,false,.lst (li row)⟩,⟨.shr,false,aD S⟩]) (aB rfl (aB rfl aK)) rc);have e1:aO 2 (cN []) [some ⟨.shr,false,.lst (li row)⟩,some ⟨.shr,false,aD S⟩,none,none,none,none,none,none]=.nx (hE row (aD S) [] none none none none none):=rfl
 obtain⟨y3,y4,y5,y6,y7,l⟩:=aF6 hr (aD S) hL S (fun t ht=>⟨hS.sz t ht,hS.nb t ht,fun x hx=>⟨(hS.rg t ht x hx).1,by
  rcases Int.lt_or_le x row.length with q | q
  · exact q
  · exact absurd ⟨x,hx,q⟩ (nf t ht)⟩⟩) [] none none none none none (by rw[Bp];have:=Bg hn hL;omega)
 rw[Dh]at l;have e2:cB (cW (vE 1)) (.tp [.nm 3,.nm 4]) (cB (uO (vE 3)) (.tp [.nm 5,.nm 6]) hkb) (hE row (aD S) [] none none none none none)=.nx (hE row (aD S) (hook row S) y3 y4 y5 y6 y7):=(eB (fr:=false) (ds:=S.map mkP) rfl).trans l;have e3:aC φs [vE 2] (hE row (aD S) (hook row S) y3 y4 y5 y6 y7)=.ok ⟨.tmp,true,aD (aN (hook row S))⟩:=aU (rs:=[⟨.own,true,aD (hook row S)⟩]) (aB rfl aK) (hs _ (aLv hr hS));exact(cJ rfl ((aM e0).trans ((aM e1).trans ((aM e2).trans (iS e3))))).trans rfl
theorem Rw.ok {m:Nat}(m5:m<=5){r:List Int}(h:Rw m r):RowOk r:=⟨by rw[h.ln];omega,fun x hx=>Ah (h.nb x hx) (by decide)⟩
theorem Rw.far {m L B:Nat}{r:List Int}(h:Rw m r){S:List Tm}(g:G m L B S):∀ t∈S,¬ Far r t:=fun t ht ⟨x,hx,q⟩=>by
 have:=g.i.rg t ht x hx
 rw[h.ln]at q;omega
theorem aGx {m:Nat}(hm:m<6)(w:Int):aN [(cD m,w)]=if w=0 then [] else [(cD m,w)]:=by
 have z:=oG _ (uA m hm _ (uF (m:=m) (aDl m hm) fun x hx=>fK.mp hx));by_cases q:w=0
 · rw[if_pos q,q]
   rw[←oE];refine iB fun g=>?_
   show val (cD m,0)*_+0=0
   rw[iK,Eu,Cq];rfl
 · rw[if_neg q]
   refine Told.same ⟨?_,?_,?_,?_,?_⟩
   all_goals first
    | (intro t ht;rw[Aq.mp ht];first | exact aT1 (aDl m hm) | exact nF m | exact q)
    | simp
end Od
namespace N63
open PySem L2 Mir Srt Sm Od
theorem aKy (p:List Int)(hp:p.length<64):fP [.tup (li p)]=.ok (sc (.int (trn p))):=aR0 p (by omega)
theorem mK:pM dC:=fun ts F=>aLf (φ:=fP) aKy F
theorem aRe:pM eU:=fun ts F=>aEb F
theorem aLn {m:Int}(h:(decide (m<1)||decide (5<m))=false):cY [.int m]=.ok (sc .non):=by
 have t:orT (bT (ltE (vE 0) (cE (.int 1)))) (bT (gtE (vE 0) (cE (.int 5)))) [some ⟨.shr,false,.int m⟩]=.ok (decide (m<1)||decide (5<m)):=aV4 m;rw[h]at t;exact aA6 (ρ:=[some ⟨.shr,false,.int m⟩]) rfl ((nP t).trans rfl)
section
variable {m L K B C:Nat}{a b:List Tm}{r s:List Int}
theorem aT0 (ha:Sum L a)(hb:Sum K b):bJ [aD a,aD b]=.ok ⟨.tmp,true,aD (aN (bI a b))⟩:=aSk mK ha hb
theorem aJ6 (ha:G m L B a)(hb:G m K C b):bJ [aD a,aD b]=.ok ⟨.tmp,true,aD (aN (bI a b))⟩:=aT0 ha.i.sm hb.i.sm
theorem aFf (ha:G m L B a)(hb:G m L C b):mU [aD a,aD b]=.ok ⟨.tmp,true,aD (aN (a++b))⟩:=aPz mK ha.i.sm hb.i.sm
theorem aFc (ha:G m L B a){k:Int}(hk:k.natAbs<=1):dU [aD a,.int k]=.ok ⟨.tmp,true,aD (aN (jP a k))⟩:=aNp mK ha.i.sm (Ah hk (by decide))
theorem vO (hr:Rw m r)(ha:G m L B a):bQ [.lst (li r),aD a]=.ok ⟨.tmp,true,aD (aN (hook r a))⟩ :=
 aMq (φr:=fZ) mK (hr.ok ha.i.m5) ha.i.sm (hr.far ha) (aQc (s:=wV) (fun t ht=>by have:=ha.i.sm.hL;rw[ha.i.sm.sz t ht];omega) (hr.far ha))
theorem aBu (ha:G m L B a):aX [.int m,aD a]=.ok ⟨.tmp,true,aD (aN (fR m a))⟩:=by
 rw[ha.i.over];exact aTc (φc:=cY) (φl:=lV) (φt:=fP) (φs:=dC) aLn (fun p=>aTk ha.i.m5 p) aKy mK ha.i
theorem aUz (ha:G m L B a)(hb:G m L C b):cP [aD a,aD b]=.ok (sc (.int (wgt a b))):=aMs ha.i.nb hb.i.nb hb.i.td.ks ha.i.sm.ln hb.i.sm.ln
theorem aKn (hr:Rw m r)(ha:G m L B a){z:Int}(hz:z=(L:Int)):cK [.lst (li r),aD a,.int z]=.ok ⟨.tmp,true,aD (aN (hook r a))⟩:=by
 have c:bT (eqE (vE 2) (cE (.int 0))) [some ⟨.shr,false,.lst (li r)⟩,some ⟨.shr,false,aD a⟩,some ⟨.shr,false,.int z⟩]=.ok (decide (z=0)):=iD (wD (k:=.shr) (fr:=true) (i:=z) rfl (k':=.shr) (fr':=true) (j:=0) rfl);by_cases q:z=0
 · rw[decide_eq_true q]at c
   have e:hook r a=[]:=by
    have hL:L=0:=by omega
    have:=nL r a L ha.i.sm.sz
    rw[hL,Nat.mul_zero]at this;exact Be.mp this
   rw[e,oE];exact(cJ (np:=3) (n:=3) (s:=oJ) (ds:=[.lst (li r),aD a,.int z]) (r:=⟨.tmp,true,.lst []⟩) rfl (uR ((nP c).trans rfl))).trans rfl
 · rw[decide_eq_false q]at c
   exact(cJ (np:=3) (n:=3) (s:=oJ) (ds:=[.lst (li r),aD a,.int z]) (r:=⟨.tmp,true,aD (aN (hook r a))⟩) rfl ((aM ((nP c).trans rfl)).trans (iS (aU (φ:=bQ) (rs:=[⟨.shr,false,.lst (li r)⟩,⟨.shr,false,aD a⟩]) (aB rfl (aB rfl aK)) (vO hr ha))))).trans rfl
theorem aVa (m5:m<=5)(w:Int):cI [.int m,.int w]=.ok ⟨.tmp,true,aD (aN [(cD m,w)])⟩:=by
 have c:bT (eqE (vE 1) (cE (.int 0))) [some ⟨.shr,false,.int m⟩,some ⟨.shr,false,.int w⟩]=.ok (decide (w=0)):=iD (wD (k:=.shr) (fr:=true) (i:=w) rfl (k':=.shr) (fr':=true) (j:=0) rfl);rw[aGx (by omega)]
 by_cases q:w=0
 · rw[decide_eq_true q]at c
   rw[if_pos q];exact(cJ (np:=2) (n:=2) (s:=gK) (ds:=[.int m,.int w]) (r:=⟨.tmp,true,.lst []⟩) rfl (uR ((nP c).trans rfl))).trans rfl
 · rw[decide_eq_false q]at c
   rw[if_neg q];have t:rJ (vE 0) [some ⟨.shr,false,.int m⟩,some ⟨.shr,false,.int w⟩]=.ok ⟨.shr,true,.tup (li (cD m))⟩:=aLz (k:=.shr) (fr:=true) rfl m5;have p:dH [rJ (vE 0),vE 1] [some ⟨.shr,false,.int m⟩,some ⟨.shr,false,.int w⟩]=.ok ⟨.shr,true,mkP (cD m,w)⟩:=(gX t (k':=.shr) (fr':=true) (d':=.int w) rfl (by decide) (by decide)).trans rfl
   have l:cN [dH [rJ (vE 0),vE 1]] [some ⟨.shr,false,.int m⟩,some ⟨.shr,false,.int w⟩]=.ok ⟨.tmp,true,aD [(cD m,w)]⟩:=by
    have hz:([mkP (cD m,w)]:List D).length<=sizeLine:=by show 1<=sizeLine;decide
    have ev:=aB p aK;simp only[cN,ev,R.ok_bind,gives,Res.give,reduceCtorEq,if_false];exact if_pos hz
   exact(cJ (np:=2) (n:=2) (s:=gK) (ds:=[.int m,.int w]) (r:=⟨.tmp,true,aD [(cD m,w)]⟩) rfl ((aM ((nP c).trans rfl)).trans (iS l))).trans rfl
end
theorem aJi {f g:FE}{ρ:Mir.Env}{k k':Kd}{fr fr':Bool}{S:List Tm}(h1:f ρ=.ok ⟨k,fr,aD S⟩)(h2:g ρ=.ok ⟨k',fr',aD S⟩):eqE f g ρ=.ok (sc (.bl true)):=aVe h1 h2 (aC5 6 (aK0 S) (by decide))
abbrev hE' (r0 r1:List Int)(a b:List Tm)(z y:Nat)(x4 x5 x6 x7:Option Res):Mir.Env:=[some ⟨.shr,false,.lst (lil [r0,r1])⟩,some ⟨.shr,false,aD a⟩,some ⟨.shr,false,aD b⟩,some ⟨.shr,false,.lst (li [(z:Int),(y:Int)])⟩,x4,x5,x6,x7]
theorem aMe {m z y:Nat}{r0 r1:List Int}{a b:List Tm}(h0:Rw m r0)(h1:Rw m r1)(ha:G m z 40 a)(hb:G m y 40 b)(z1:1<=z)(z5:z<=5)(y5:y<=5):cO [.lst (lil [r0,r1]),aD a,aD b,.lst (li [(z:Int),(y:Int)])]=.ok (sc (.bl true)):=by
 have m1:=ha.i.m1;have m5:=ha.i.m5;have R0:∀ x4 x5 x6 x7,bD (vE 0) (cE (.int 0)) (hE' r0 r1 a b z y x4 x5 x6 x7)=.ok ⟨.shr,_,.lst (li r0)⟩:=fun _ _ _ _=>mR (k:=.shr) (fr:=false||(D.lst (lil [r0,r1])).imm) (k':=.shr) (fr':=true) (i:=0) (ds:=lil [r0,r1]) rfl rfl rfl;have R1:∀ x4 x5 x6 x7,bD (vE 0) (cE (.int 1)) (hE' r0 r1 a b z y x4 x5 x6 x7)=.ok ⟨.shr,_,.lst (li r1)⟩:=fun _ _ _ _=>mR (k:=.shr) (fr:=false||(D.lst (lil [r0,r1])).imm) (k':=.shr) (fr':=true) (i:=1) (ds:=lil [r0,r1]) rfl rfl rfl;have Z0:∀ x4 x5 x6 x7,bD (vE 3) (cE (.int 0)) (hE' r0 r1 a b z y x4 x5 x6 x7)=.ok ⟨.shr,true,.int (z:Nat)⟩:=fun _ _ _ _=>mX (k:=.shr) (fr:=false||(D.lst (li [(z:Int),(y:Int)])).imm) (k':=.shr) (fr':=true) (i:=0) (ds:=li [(z:Int),(y:Int)]) rfl rfl rfl
 have Z1:∀ x4 x5 x6 x7,bD (vE 3) (cE (.int 1)) (hE' r0 r1 a b z y x4 x5 x6 x7)=.ok ⟨.shr,true,.int (y:Nat)⟩:=fun _ _ _ _=>mX (k:=.shr) (fr:=false||(D.lst (li [(z:Int),(y:Int)])).imm) (k':=.shr) (fr':=true) (i:=1) (ds:=li [(z:Int),(y:Int)]) rfl rfl rfl;have gh:=G.hook h0 ha (by decide)
 have gl:=gh.prod hb (by omega) (by decide)
 have gk:=G.hook h0 hb (by decide)
 have gp:=ha.prod hb (by omega) (by decide)
 have e1:aO 4 (sgE (bD (vE 3) (cE (.int 0)))) (hE' r0 r1 a b z y none none none none)=.nx (hE' r0 r1 a b z y (iR (sgn z)) none none none):=set_shr (Od.aC6 (Z0 _ _ _ _))
 have e2:aO 5 (aC bJ [aC cK [bD (vE 0) (cE (.int 0)),vE 1,bD (vE 3) (cE (.int 0))],vE 2]) (hE' r0 r1 a b z y (iR (sgn z)) none none none)=.nx (hE' r0 r1 a b z y (iR (sgn z)) (oR (aN (bI (aN (hook r0 a)) b))) none none) :=
  eD (aU (φ:=bJ) (rs:=[⟨.tmp,true,aD (aN (hook r0 a))⟩,⟨.shr,false||(aD b).imm,aD b⟩]) (aB (aU (φ:=cK) (aB (R0 _ _ _ _) (aB (r:=⟨.shr,false||(aD a).imm,aD a⟩) rfl (aB (Z0 _ _ _ _) aK))) (aKn h0 ha rfl)) (aB rfl aK)) (aJ6 gh hb))
 have e3:aO 6 (aC bJ [vE 1,aC cK [bD (vE 0) (cE (.int 0)),vE 2,bD (vE 3) (cE (.int 1))]]) (hE' r0 r1 a b z y (iR (sgn z)) (oR (aN (bI (aN (hook r0 a)) b))) none none)=.nx (hE' r0 r1 a b z y (iR (sgn z)) (oR (aN (bI (aN (hook r0 a)) b))) (oR (aN (bI a (aN (hook r0 b))))) none) :=
  eD (aU (φ:=bJ) (rs:=[⟨.shr,false||(aD a).imm,aD a⟩,⟨.tmp,true,aD (aN (hook r0 b))⟩]) (aB rfl (aB (aU (φ:=cK) (aB (R0 _ _ _ _) (aB (r:=⟨.shr,false||(aD b).imm,aD b⟩) rfl (aB (Z1 _ _ _ _) aK))) (aKn h0 hb rfl)) aK)) (aJ6 ha gk))
 have gr:G m (z-1+y) 106 (aN (bI a (aN (hook r0 b)))):=by
  by_cases q:y=0
  · have e:hook r0 b=[]:=by
     have:=nL r0 b y hb.i.sm.sz
     rw[q,Nat.mul_zero]at this;exact Be.mp this
    rw[e,oE,show bI a []=[] by unfold bI;simp,oE]
    exact aUa (by omega) m1 m5 _
  · have:=(ha.prod gk (by omega) (by decide)).le (C:=106) (by decide)
    rw[show z+(y-1)=z-1+y by omega]at this
    exact this
 have gt:=gr.tim (k:=sgn z) (lP z) (by decide)
 have ht:=aFc gr (k:=sgn z) (lP z);have hp:=aId ha.in5 hb.in5 ha.deg r0;have hl:=aJ6 ha hb;have hh:=aKn h0 gp (z:=(z:Int)+(y:Int)) (by rw[Fv])
 have had:=aFf (gl.le (C:=111) (by decide)) gt
 rw[←hp]at had;generalize aN (bI a (aN (hook r0 b)))=Rr at *
 generalize aN (bI (aN (hook r0 a)) b)=Ll at *
 generalize hq:aN (hook r0 (aN (bI a b)))=Q at *
 have e4:ifS (bT (neE (aC cK [bD (vE 0) (cE (.int 0)),aC bJ [vE 1,vE 2],cH (bD (vE 3) (cE (.int 0))) (bD (vE 3) (cE (.int 1)))]) (aC mU [vE 5,aC dU [vE 6,vE 4]]))) (bM (cE (.bl false))) eC (hE' r0 r1 a b z y (iR (sgn z)) (oR Ll) (oR Rr) none)=.nx (hE' r0 r1 a b z y (iR (sgn z)) (oR Ll) (oR Rr) none):=by
  refine tY (k':=.tmp) (fr':=true) (S:=Q) (aU (φ:=cK) (aB (R0 _ _ _ _) (aB (aU (φ:=bJ) (rs:=[⟨.shr,false||(aD a).imm,aD a⟩,⟨.shr,false||(aD b).imm,aD b⟩]) (aB rfl (aB rfl aK)) hl) (aB (aV (C:=C0) (G:=fun i j=>i+j) (Z0 _ _ _ _) (Z1 _ _ _ _) rfl) aK))) hh) ?_
  exact aU (φ:=mU) (rs:=[⟨.own,true,aD Ll⟩,⟨.tmp,true,aD (aN (jP Rr (sgn z)))⟩]) (aB rfl (aB (aU (φ:=dU) (rs:=[⟨.own,true,aD Rr⟩,⟨.shr,true,.int (sgn z)⟩]) (aB rfl (aB rfl aK)) ht) aK)) had
 have e5:aO 7 (aC bQ [bD (vE 0) (cE (.int 0)),vE 1]) (hE' r0 r1 a b z y (iR (sgn z)) (oR Ll) (oR Rr) none)=.nx (hE' r0 r1 a b z y (iR (sgn z)) (oR Ll) (oR Rr) (oR (aN (hook r0 a)))) :=
  eD (aU (φ:=bQ) (aB (R0 _ _ _ _) (aB (r:=⟨.shr,false||(aD a).imm,aD a⟩) rfl aK)) (vO h0 ha))
 have c6:bT (ltE (bD (vE 3) (cE (.int 0))) (cE (.int 2))) (hE' r0 r1 a b z y (iR (sgn z)) (oR Ll) (oR Rr) (oR (aN (hook r0 a))))=.ok (decide ((z:Int)<2)):=iD (iY (G:=fun i j=>decide (i<j)) (Z0 _ _ _ _) (k':=.shr) (fr':=true) (j:=2) rfl);have tw:=aEl ha.in5 r0;have an:=aIf ha.in5 r0 r1;have k1:=vO h0 gh;have k2:=vO h1 gh;have g1:=G.hook h1 ha (by decide)
 have k3:=vO h1 ha;have k4:=vO h0 g1;have k5:=aFc (G.hook h0 g1 (by decide)) (k:=-1) (by decide)
 rw[tw]at k1;rw[←an]at k5
 have e7:ifS (bT (neE (aC bQ [bD (vE 0) (cE (.int 0)),vE 7]) (cN []))) (bM (cE (.bl false))) eC (hE' r0 r1 a b z y (iR (sgn z)) (oR Ll) (oR Rr) (oR (aN (hook r0 a))))=.nx (hE' r0 r1 a b z y (iR (sgn z)) (oR Ll) (oR Rr) (oR (aN (hook r0 a)))) :=
  tY (S:=[]) (aU (φ:=bQ) (aB (R0 _ _ _ _) (aB (r:=⟨.own,true,aD (aN (hook r0 a))⟩) rfl aK)) k1) (k':=.tmp) (fr':=true) rfl
 have e8:bM (eqE (aC bQ [bD (vE 0) (cE (.int 1)),vE 7]) (aC dU [aC bQ [bD (vE 0) (cE (.int 0)),aC bQ [bD (vE 0) (cE (.int 1)),vE 1]],eM (cE (.int 0)) (cE (.int 1))])) (hE' r0 r1 a b z y (iR (sgn z)) (oR Ll) (oR Rr) (oR (aN (hook r0 a))))=.rt ⟨.shr,true,.bl true⟩:=by
  refine fA (aJi (k':=.tmp) (fr':=true) (S:=aN (hook r1 (aN (hook r0 a)))) (aU (φ:=bQ) (aB (R1 _ _ _ _) (aB (r:=⟨.own,true,aD (aN (hook r0 a))⟩) rfl aK)) k2) ?_)
  exact aU (φ:=dU) (rs:=[⟨.tmp,true,aD (aN (hook r0 (aN (hook r1 a))))⟩,⟨.shr,true,.int (-1)⟩]) (aB (aU (φ:=bQ) (aB (R0 _ _ _ _) (aB (aU (φ:=bQ) (aB (R1 _ _ _ _) (aB (r:=⟨.shr,false||(aD a).imm,aD a⟩) rfl aK)) k3) aK)) k4) (aB rfl aK)) k5
 have e:hJ (hE' r0 r1 a b z y none none none none)=.rt ⟨.shr,true,.bl true⟩:=by
  refine(aM e1).trans ((aM e2).trans ((aM e3).trans ((aM e4).trans ((aM e5).trans ?_))))
  by_cases q:(z:Int)<2
  · rw[decide_eq_true q]at c6
    exact uR ((nP c6).trans rfl)
  · rw[decide_eq_false q]at c6
    exact(aM ((nP c6).trans rfl)).trans ((aM e7).trans e8)
 exact(cJ (np:=4) (n:=8) (s:=hJ) (ds:=[.lst (lil [r0,r1]),aD a,aD b,.lst (li [(z:Int),(y:Int)])]) rfl e).trans rfl
abbrev tE' (m:Nat)(a b:List Tm)(z:Nat)(x4 x5:Option Res):Mir.Env:=[some ⟨.shr,false,.int m⟩,some ⟨.shr,false,aD a⟩,some ⟨.shr,false,aD b⟩,some ⟨.shr,false,.int z⟩,x4,x5]
theorem aJq {m z:Nat}{a b:List Tm}(ha:G m z 40 a)(hb:G m z 40 b)(zm:z<=m):cQ [.int m,aD a,aD b,.int z]=.ok (sc (.bl true)):=by
 have m5:=ha.i.m5;have d1:eM (vE 0) (vE 3) (tE' m a b z none none)=.ok ⟨.shr,true,.int ((m-z:Nat):Int)⟩:=(aV (C:=C0) (G:=fun i j=>i-j) (k:=.shr) (fr:=true) (i:=(m:Int)) (k':=.shr) (fr':=true) (j:=(z:Int)) rfl rfl rfl).trans (by rw[Int.natCast_sub zm];rfl)
 have d2:bN (vE 3) (eM (vE 0) (vE 3)) (tE' m a b z none none)=.ok ⟨.shr,true,.int ((z*(m-z):Nat):Int)⟩:=(aV (C:=CM) (G:=fun i j=>i*j) (k:=.shr) (fr:=true) (i:=(z:Int)) rfl d1 (eP (sm9 (by omega)) (sm9 (by omega)))).trans (by rw[Int.natCast_mul];rfl)
 have e1:aO 4 (sgE (bN (vE 3) (eM (vE 0) (vE 3)))) (tE' m a b z none none)=.nx (tE' m a b z (iR (sgn (z*(m-z)))) none):=set_shr (Od.aC6 d2);have go:=ha.over (by decide)
 have oo:=aHw (by omega) ha.inM ha.deg
 have k1:=aBu go;have k2:=aFc ha (k:=sgn (z*(m-z))) (lP _);rw[oo]at k1
 have e2:ifS (bT (neE (aC aX [vE 0,aC aX [vE 0,vE 1]]) (aC dU [vE 1,vE 4]))) (bM (cE (.bl false))) eC (tE' m a b z (iR (sgn (z*(m-z)))) none)=.nx (tE' m a b z (iR (sgn (z*(m-z)))) none) :=
  tY (S:=aN (jP a (sgn (z*(m-z))))) (aU (φ:=aX) (rs:=[⟨.shr,true,.int m⟩,⟨.tmp,true,aD (aN (fR m a))⟩]) (aB rfl (aB (aU (φ:=aX) (rs:=[⟨.shr,true,.int m⟩,⟨.shr,false||(aD a).imm,aD a⟩]) (aB rfl (aB rfl aK)) (aBu ha)) aK)) k1)
   (aU (φ:=dU) (rs:=[⟨.shr,false||(aD a).imm,aD a⟩,⟨.shr,true,.int (sgn (z*(m-z)))⟩]) (aB rfl (aB rfl aK)) k2)
 have e3:aO 5 (aC cP [vE 1,vE 2]) (tE' m a b z (iR (sgn (z*(m-z)))) none)=.nx (tE' m a b z (iR (sgn (z*(m-z)))) (iR (wgt a b))):=set_shr (dJ (rs:=[⟨.shr,false||(aD a).imm,aD a⟩,⟨.shr,false||(aD b).imm,aD b⟩]) (aB rfl (aB rfl aK)) (aUz ha hb));have po:=aH0 (by omega) ha.inM hb.inM ha.deg hb.deg
 have k3:=aJ6 ha (hb.over (by decide))
 rw[po,←ha.wgt hb]at k3
 have e4:bM (eqE (aC bJ [vE 1,aC aX [vE 0,vE 2]]) (aC cI [vE 0,vE 5])) (tE' m a b z (iR (sgn (z*(m-z)))) (iR (wgt a b)))=.rt ⟨.shr,true,.bl true⟩ :=
  fA (aJi (S:=aN [(cD m,wgt a b)]) (aU (φ:=bJ) (rs:=[⟨.shr,false||(aD a).imm,aD a⟩,⟨.tmp,true,aD (aN (fR m b))⟩]) (aB rfl (aB (aU (φ:=aX) (rs:=[⟨.shr,true,.int m⟩,⟨.shr,false||(aD b).imm,aD b⟩]) (aB rfl (aB rfl aK)) (aBu hb)) aK)) k3)
   (aU (φ:=cI) (rs:=[⟨.shr,true,.int m⟩,⟨.shr,true,.int (wgt a b)⟩]) (aB rfl (aB rfl aK)) (aVa m5 _)))
 have e:gZ (tE' m a b z none none)=.rt ⟨.shr,true,.bl true⟩:=(aM e1).trans ((aM e2).trans ((aM e3).trans e4));exact(cJ (np:=4) (n:=6) (s:=gZ) (ds:=[.int m,aD a,aD b,.int z]) rfl e).trans rfl
end N63
namespace N63
open PySem L2 Mir Srt Sm Od
theorem aEh {m:Nat}{rows:List (List Int)}(R:Rows m rows):eJ [.int m,.lst (lil rows)]=.ok ⟨.tmp,true,aD (box rows)⟩ :=
 aU8 (φr:=gV) (φp:=bJ) (φs:=dC) (fun R=>aLx (φc:=cY) aLn R.m1 R.m5 R.sz) mK aT0 R
theorem aVc {m B:Nat}{rows:List (List Int)}{p:List Int}(M:Mn m B rows p):fQ [.lst (lil rows),.tup (li p)]=.ok (sc (.int (nC rows p))):=aPf (φ:=fY) aKk M
theorem s9 {x:Int}(h:x.natAbs<=9):x.natAbs<2^1000:=Cy h (Av (show 9<2^4 by decide) (Ar (by decide) (by decide)))
theorem aVg {m:Nat}(m5:m<=5){r s:List Int}(hr:Rw m r)(hs:Rw m s):gQ [.lst (li r),.lst (li s)]=.ok (sc (.int (wt r s))):=by
 have a:eX [.lst (li r),.lst (li s)]=.ok (sc .non):=aP3 (s:=wV) (xs:=li r) (ys:=li s) (by rw[Ac,Ac,hr.ln,hs.ln])
 have p:pA [.lst (li r),.lst (li s)]=.ok ⟨.tmp,false,.lst (yI (li r) (li s))⟩:=aNy (φ:=eX) a;exact aHy (φ:=pA) p (fun x hx y hy=>eP (s9 (hr.nb x hx)) (s9 (hs.nb y hy))) (by rw[hr.ln,sizeLine_eq];omega)
theorem aMo {m:Nat}{r s:List Int}(hr:r.length=m)(hs:s.length=m):wt r s=bK (cD m) fun x=>r.getD x.toNat 0*s.getD x.toNat 0:=by
 unfold wt cD;rw[aE6,fL]
 have e:r.zip s=(Ao m).map fun i=>(r.getD i 0,s.getD i 0):=by
  refine Fm (by simp[hr,hs]) fun i h1 h2=>?_
  have hi:i<m:=by simpa using h2
  simp[Al,hr,hs,hi]
 rw[e,fL];exact aZ fun i _=>by simp
theorem aVv {m:Nat}(m5:m<=5){r s:List Int}(hr:Rw m r)(hs:Rw m s):(wt r s).natAbs<=2^9:=by
 rw[aMo hr.ln hs.ln]
 have at9:∀ {q:List Int},Rw m q->∀ k,(q.getD k 0).natAbs<=9:=fun {q} h k=>by
  by_cases z:k<q.length
  · exact h.nb _ (Mir.eV z)
  · rw[Al,Bx (by omega)];decide
 refine Ah (aE0 (M:=81) _ _ fun x _=>?_) ?_
 · rw[Ct]
   exact Bg (at9 hr _) (at9 hs _)
 · rw[lZ]
   exact Ah (Fq 81 m5) (by decide)
def pV (l r:List (List Int)):List (List Int):=l.map fun x=>r.map fun y=>wt x y
theorem zW {m:Nat}(m1:1<=m)(m5:m<=5){l:List (List Int)}(hl:l.length<=3)(h:∀ r∈l,Rw m r):Rows m l:=⟨m1,m5,by omega,fun r hr=>(h r hr).ln,fun r hr x hx=>Ah ((h r hr).nb x hx) (by decide)⟩
theorem aNo {m n:Nat}(m1:1<=m)(m5:m<=5)(hn:n<=3){l r:List (List Int)}(hl:l.length=n)(hr:r.length=n)(Hl:∀ x∈l,Rw m x)(Hr:∀ x∈r,Rw m x):wgt (box l) (box r)=nC (pV l r) (cD n):=by
 have i5:In5 (box l):=aAg fun t ht x hx=>by
  have:=(aRv (m:=m) (fun q hq=>(Hl q hq).ln) ht).2 x hx
  omega
 have e1:wgt (box l) (box r)=lin (raw l) fun k=>mQ (raw r) k:=by
  unfold wgt;rw[aE6,←cZ (raw l),kD];refine aZ fun t ht=>?_
  have q:=i5.vk ht
  have e:look (box r) t.1=mQ (raw r) t.1:=by
   unfold box;rw[wP (jY _),sN];rfl
  rw[q.1,q.2,e]
 rw[e1];refine aUd (m:=m) (n:=n) (by omega) (by omega) hl hr (fun x hx=>(Hl x hx).ln) (fun x hx=>(Hr x hx).ln) (by unfold pV;rw[Ac,hl]) fun i j hi hj=>?_
 have a1:l.getD i []∈l:=Mir.eV (by omega)
 have a2:r.getD j []∈r:=Mir.eV (by omega)
 have e:en (pV l r) i j=wt (l.getD i []) (r.getD j []):=by
  unfold en pV;simp[Al,show i<l.length by omega,show j<r.length by omega]
 rw[e,aMo (Hl _ a1).ln (Hr _ a2).ln];rfl
abbrev rE' (m:Nat)(l r:List (List Int))(x3:Option Res):Mir.Env:=[some ⟨.shr,false,.int m⟩,some ⟨.shr,false,.lst (lil l)⟩,some ⟨.shr,false,.lst (lil r)⟩,x3]
theorem aN5 {m n:Nat}(m1:1<=m)(m5:m<=5)(hn:n<=3){l r:List (List Int)}(hl:l.length=n)(hr:r.length=n)(Hl:∀ x∈l,Rw m x)(Hr:∀ x∈r,Rw m x):dO [.int m,.lst (lil l),.lst (lil r)]=.ok (sc (.bl true)):=by
 have e1:aO 3 (bR (cW (vE 1)) 1 [2] (.nm 0) (bE (bR (cW (vE 1)) 1 [0] (.nm 0) (bE (aC gQ [vE 1,vE 0]))))) (rE' m l r none)=.nx (rE' m l r (qR' (pV l r))):=by
  have c:bR (cW (vE 1)) 1 [2] (.nm 0) (bE (bR (cW (vE 1)) 1 [0] (.nm 0) (bE (aC gQ [vE 1,vE 0])))) (rE' m l r none)=.ok ⟨.tmp,true,.lst (l.map fun x=>.lst (r.map fun y=>.int (wt x y)))⟩:=by
   refine jT (inj:=fun x=>D.lst (li x)) (out:=fun x=>D.lst (r.map fun y=>.int (wt x y))) (xs:=l) (oI (k:=.shr) (fr:=false||(D.lst (lil l)).imm) (ds:=lil l) rfl) (fun x hx=>⟨[some ⟨.shr,false||(D.lst (lil l)).imm,.lst (li x)⟩,some ⟨.shr,false,.lst (lil r)⟩],.tmp,rfl,qX ?_,by decide⟩) (by rw[hl,sizeLine_eq];omega)
   exact jT (inj:=fun y=>D.lst (li y)) (out:=fun y=>D.int (wt x y)) (xs:=r) (oI (k:=.shr) (fr:=false||(D.lst (lil r)).imm) (ds:=lil r) rfl) (fun y hy=>⟨[some ⟨.shr,false||(D.lst (lil r)).imm,.lst (li y)⟩,some ⟨.shr,false||(D.lst (lil l)).imm,.lst (li x)⟩],.shr,rfl,qX (dJ (φ:=gQ) (rs:=[⟨.shr,(false||(D.lst (lil l)).imm)||(D.lst (li x)).imm,.lst (li x)⟩,⟨.shr,(false||(D.lst (lil r)).imm)||(D.lst (li y)).imm,.lst (li y)⟩]) (aB rfl (aB rfl aK)) (aVg m5 (Hl x hx) (Hr y hy))),by decide⟩) (by rw[hr,sizeLine_eq];omega)
  refine(eD c).trans ?_
  have q:lil (pV l r)=l.map fun x=>D.lst (r.map fun y=>.int (wt x y)):=by
   unfold lil pV li;rw[Bb];refine Bq fun x _=>?_
   simp only[Function.comp,Bb];rfl
  rw[←q];rfl
 have Rl:=zW m1 m5 (by omega) Hl
 have Rr:=zW m1 m5 (by omega) Hr
 have sl:=(wJ _ l rfl Rl).1;have sr:=(wJ _ r rfl Rr).1;have b1:aC eJ [vE 0,vE 1] (rE' m l r (qR' (pV l r)))=.ok ⟨.tmp,true,aD (box l)⟩:=aU (rs:=[⟨.shr,true,.int m⟩,⟨.shr,false||(D.lst (lil l)).imm,.lst (lil l)⟩]) (aB rfl (aB rfl aK)) (aEh Rl);have b2:aC eJ [vE 0,vE 2] (rE' m l r (qR' (pV l r)))=.ok ⟨.tmp,true,aD (box r)⟩:=aU (rs:=[⟨.shr,true,.int m⟩,⟨.shr,false||(D.lst (lil r)).imm,.lst (lil r)⟩]) (aB rfl (aB rfl aK)) (aEh Rr);have w:=dJ (φ:=cP) (aB b1 (aB b2 aK)) (aMs sl.nb sr.nb (lX (raw r)).ks sl.ln sr.ln)
 have M:Mn n 9 (pV l r) (cD n):=by
  refine⟨by unfold pV;rw[Ac,hl,lZ],by rw[lZ];omega,fun q hq=>?_,fun q hq x hx=>?_,fun x hx=>fK.mp hx,by rw[lZ];omega⟩
  · obtain⟨x,_,rfl⟩:=Ak.mp hq
    rw[Ac,hr]
  · obtain⟨y,hy,rfl⟩:=Ak.mp hq
    obtain⟨v,hv,rfl⟩:=Ak.mp hx;exact aVv m5 (Hl y hy) (Hr v hv)
 have ln:bX (vE 1) (rE' m l r (qR' (pV l r)))=.ok ⟨.shr,true,.int (n:Nat)⟩:=by
  refine(lE (k:=.shr) (fr:=false||(D.lst (lil l)).imm) (ds:=lil l) rfl).trans ?_
  rw[Ac,hl];rfl
 have d:aC fQ [vE 3,rJ (bX (vE 1))] (rE' m l r (qR' (pV l r)))=.ok ⟨.shr,true,.int (nC (pV l r) (cD n))⟩:=dJ (rs:=[⟨.own,true,.lst (lil (pV l r))⟩,⟨.shr,true,.tup (li (cD n))⟩]) (aB rfl (aB (aLz ln (by omega)) aK)) (aVc M)
 rw[aNo m1 m5 hn hl hr Hl Hr]at w;have q:=wD w d;rw[decide_eq_true rfl]at q;have e:iN (rE' m l r none)=.rt ⟨.shr,true,.bl true⟩:=(aM e1).trans (fA q);exact(cJ (np:=3) (n:=4) (s:=iN) (ds:=[.int m,.lst (lil l),.lst (lil r)]) rfl e).trans rfl
theorem wH {m z:Nat}{f:Int}(hf:f.natAbs<=100)(m1:1<=m)(hm:m<=5)(hz:z<=m){cs:List Int}(hl:cs.length<=20):∃ S:List Tm,G m z 40 S/\bV [.lst (li cs),.int m,.int z,.int f]=.ok ⟨.tmp,true,aD S⟩:=by
 obtain⟨S,a,b,c,d,e⟩:=aP5 (φd:=dZ) (φc:=gC) aRe (fun c=>aOk c m z hm hz) (fun c=>aKi (φ:=gW) (fun c k m hk hm=>aPu c k m hk hm) c f hf m z hm hz) hm (by omega) hl
 exact⟨S,⟨⟨a,b,fun t ht=>Ah (c t ht) (Ar (by decide) (by decide)),d,m1,hm⟩,c⟩,e⟩
theorem aBa (ns:List Int)(k:Nat)(r:List (Option Res)):aC bY [vE 0,cE (.int k)] (S0 ns :: r)=.ok ⟨.shr,true,.int (fE ns k)⟩:=aO8 (φ:=bY) (fun ns k=>aTo ns k) ns k r
theorem aEc (ns:List Int){st m:Nat}(hk:st+m<1000):∃ L:List Int,Rw m L/\aY [.lst (li ns),.int st,.int m,.int 9]=.ok ⟨.tmp,true,.lst (li L)⟩:=by
 obtain⟨L,h1,h2,h3⟩:=aD3 ns st m 9 (by decide) (by decide) (aWh (by omega)) (by rw[sizeLine_eq];omega)
 exact⟨L,⟨h1,h2⟩,h3⟩
abbrev G1 (ns:List Int)(x1 x2 x3 x4 x5 x6 x7 x8 x9 x10:Option Res):Mir.Env:=[S0 ns,x1,x2,x3,x4,x5,x6,x7,x8,x9,x10]
theorem mH {ns:List Int}{r:List (Option Res)}{lo hi:Nat}{v:Int}(h:hi-lo<=10):pG (tP (vE 0) (soO (cE (.int lo))) (soO (cE (.int hi)))) (cN [cE (.int v)]) (S0 ns :: r)=.ok ⟨.tmp,false&&true,.lst (li (tV ns (some (lo:Int)) (some (hi:Int))++[v]))⟩/\(tV ns (some (lo:Int)) (some (hi:Int))++[v]).length<=20:=by
 have c:=aNu ns lo hi;have s:=aRi (ns:=ns) (r:=r) (lo:=soO (cE (.int lo))) (hi:=soO (cE (.int hi))) (a:=some (lo:Int)) (b:=some (hi:Int)) rfl rfl;have l9:cN [cE (.int v)] (S0 ns :: r)=.ok ⟨.tmp,true,.lst (li [v])⟩:=rfl;have hz:(li (tV ns (some (lo:Int)) (some (hi:Int)))).length+(li [v]).length<=sizeLine:=by rw[Ac,Ac,Bl,sizeLine_eq];omega
 refine⟨?_,by rw[Ai,Bl];omega⟩
 simp only[pG,s,l9,R.ok_bind,asL,if_pos hz,li,Bk]
theorem aKc (ns:List Int){m c:Nat}(m5:m<=5)(hc:c<4){st:Nat}(hs:st<=30){ρ:Mir.Env}(h0:ρ[0]?=some (S0 ns))(h1:ρ[1]?=some (iR m))(h8:vE 8 ρ=.ok ⟨.shr,true,.int c⟩) :
 ∃ l:List (List Int),l.length=c/\(∀ x∈l,Rw m x)/\bR (cV (vE 8)) 1 [0,1] (.nm 0) (bE (aC aY [vE 1,cH (cE (.int st)) (bN (vE 2) (vE 0)),vE 2,cE (.int 9)])) ρ=.ok ⟨.tmp,true,.lst (lil l)⟩:=by
 have ex:∀ k:Nat,∃ L:List Int,k<4->Rw m L/\aY [.lst (li ns),.int ((st+m*k:Nat):Int),.int m,.int 9]=.ok ⟨.tmp,true,.lst (li L)⟩:=fun k=>by
  by_cases z:k<4
  · have:m*k<=5*4:=Bg m5 (by omega)
    obtain⟨L,h⟩:=aEc ns (st:=st+m*k) (m:=m) (by omega)
    exact⟨L,fun _=>h⟩
  · exact⟨[],fun q=>absurd q z⟩
 obtain⟨f,hf⟩:=Classical.axiomOfChoice ex;refine⟨(Ao c).map f,by simp,fun x hx=>?_,?_⟩
 · obtain⟨k,hk,rfl⟩:=Ak.mp hx
   exact(hf k (by have:=Bi.mp hk;omega)).1
 · have ce:eF 1 [0,1] ρ=[none,S0 ns,iR m]:=by simp[eF,h0,h1]
   have e:=jT (inj:=fun (k:Nat)=>D.int (k:Int)) (out:=fun k=>D.lst (li (f k))) (xs:=Ao c) (tg:=.nm 0) (k:=1) (fs:=[0,1]) (b:=bE (aC aY [vE 1,cH (cE (.int st)) (bN (vE 2) (vE 0)),vE 2,cE (.int 9)])) (jS h8 (by omega))
    (fun k hk=>⟨[iR k,S0 ns,iR m],.tmp,by rw[ce];rfl,qX (by
     have hk:=Bi.mp hk;have mu:bN (vE 2) (vE 0) [iR k,S0 ns,iR m]=.ok ⟨.shr,true,.int ((m*k:Nat):Int)⟩:=(aV (C:=CM) (G:=fun i j=>i*j) (k:=.shr) (fr:=true) (i:=(m:Int)) (k':=.shr) (fr':=true) (j:=(k:Int)) rfl rfl (eP (sm9 (by omega)) (sm9 (by omega)))).trans (by rw[Int.natCast_mul];rfl)
     exact aU (φ:=aY) (rs:=[⟨.shr,false,.lst (li ns)⟩,⟨.shr,true,.int ((st+m*k:Nat):Int)⟩,⟨.shr,true,.int m⟩,⟨.shr,true,.int 9⟩]) (aB rfl (aB (aQp (k:=.shr) (fr:=true) rfl mu) (aB rfl (aB rfl aK)))) (hf k (by omega)).2),by decide⟩) (by rw[Eb,sizeLine_eq];omega)
   rw[e];unfold lil;rw[Bb];rfl
abbrev zyR (z y:Nat):Option Res:=some ⟨.own,true,.lst (li [(z:Int),(y:Int)])⟩
theorem law_ok (ns:List Int):zE [.lst (ns.map .int)]=.ok (sc (.bl true)):=by
 have c0:=vF ns 0;have c1:=vF ns 1;have c2:=vF ns 2;obtain⟨m,hm⟩:=Dr (show 0<=1+fE ns 0%5 by omega)
 have m5:m<=5:=by omega
 have m1:1<=m:=by omega
 have z0:=Cj (fE ns 1) (show (m:Int)≠0 by omega)
 have z1:=Bu (fE ns 1) (show 0<(m:Int) by omega)
 obtain⟨z,hz⟩:=Dr (show 0<=1+fE ns 1%(m:Int) by omega)
 have y0:=Cj (fE ns 2) (show ((m:Int)+1)≠0 by omega)
 have y1:=Bu (fE ns 2) (show 0<(m:Int)+1 by omega)
 obtain⟨y,hy⟩:=Dr y0;have zm:z<=m:=by omega
 have z1':1<=z:=by omega
 have ym:y<=m:=by omega
 obtain⟨c,hc⟩:=Dr (show 0<=fE ns 2/6%4 by omega)
 have c4:c<4:=by omega
 have e1:aO 1 (cH (cE (.int 1)) (cA (aC bY [vE 0,cE (.int 0)]) (cE (.int 5)))) (G1 ns none none none none none none none none none none)=.nx (G1 ns (iR m) none none none none none none none none none):=by
  rw[←hm];exact set_shr (aV (k:=.shr) (fr:=true) (i:=1) rfl (aV (aBa ns 0 _) (k':=.shr) (fr':=true) (j:=5) rfl (gA (by decide))) rfl)
 have e2:aO 2 (cN [cH (cE (.int 1)) (cA (aC bY [vE 0,cE (.int 1)]) (vE 1)),cA (aC bY [vE 0,cE (.int 2)]) (cH (vE 1) (cE (.int 1)))]) (G1 ns (iR m) none none none none none none none none none)=.nx (G1 ns (iR m) (zyR z y) none none none none none none none none):=by
  unfold zyR;rw[←hz,←hy];have g1:cH (cE (.int 1)) (cA (aC bY [vE 0,cE (.int 1)]) (vE 1)) (G1 ns (iR m) none none none none none none none none none)=.ok ⟨.shr,true,.int (1+fE ns 1%(m:Int))⟩:=aV (k:=.shr) (fr:=true) (i:=1) rfl (aV (aBa ns 1 _) (k':=.shr) (fr':=true) (j:=(m:Int)) rfl (gA (by omega))) rfl
  have g2:cA (aC bY [vE 0,cE (.int 2)]) (cH (vE 1) (cE (.int 1))) (G1 ns (iR m) none none none none none none none none none)=.ok ⟨.shr,true,.int (fE ns 2%((m:Int)+1))⟩:=aV (aBa ns 2 _) (aV (k:=.shr) (fr:=true) (i:=(m:Int)) (k':=.shr) (fr':=true) (j:=1) rfl rfl rfl) (gA (by omega))
  refine eD ?_
  have hzz:([D.int (1+fE ns 1%(m:Int)),.int (fE ns 2%((m:Int)+1))]:List D).length<=sizeLine:=by show 2<=sizeLine;decide
  have ev:=aB g1 (aB g2 aK);simp only[cN,ev,R.ok_bind,gives,Res.give,reduceCtorEq,if_false];exact if_pos hzz
 have sz0:∀ x3 x4 x5 x6 x7 x8 x9 x10,bD (vE 2) (cE (.int 0)) (G1 ns (iR m) (zyR z y) x3 x4 x5 x6 x7 x8 x9 x10)=.ok ⟨.shr,true,.int z⟩:=fun _ _ _ _ _ _ _ _=>mX (k:=.own) (fr:=true) (k':=.shr) (fr':=true) (i:=0) (ds:=li [(z:Int),(y:Int)]) rfl rfl rfl;have sz1:∀ x3 x4 x5 x6 x7 x8 x9 x10,bD (vE 2) (cE (.int 1)) (G1 ns (iR m) (zyR z y) x3 x4 x5 x6 x7 x8 x9 x10)=.ok ⟨.shr,true,.int y⟩:=fun _ _ _ _ _ _ _ _=>mX (k:=.own) (fr:=true) (k':=.shr) (fr':=true) (i:=1) (ds:=li [(z:Int),(y:Int)]) rfl rfl rfl;obtain⟨a,ga,ea⟩:=wH (m:=m) (z:=z) (f:=3) (by decide) m1 m5 zm (mH (ns:=ns) (r:=[]) (lo:=3) (hi:=13) (v:=5) (by decide)).2
 have e3:aO 3 (aC bV [pG (tP (vE 0) (soO (cE (.int 3))) (soO (cE (.int 13)))) (cN [cE (.int 5)]),vE 1,bD (vE 2) (cE (.int 0)),cE (.int 3)]) (G1 ns (iR m) (zyR z y) none none none none none none none none)=.nx (G1 ns (iR m) (zyR z y) (oR a) none none none none none none none) :=
  eD (aU (rs:=[⟨.tmp,false&&true,.lst (li (tV ns (some ((3:Nat):Int)) (some ((13:Nat):Int))++[5]))⟩,⟨.shr,true,.int m⟩,⟨.shr,true,.int z⟩,⟨.shr,true,.int 3⟩]) (aB (mH (lo:=3) (hi:=13) (by decide)).1 (aB rfl (aB (sz0 _ _ _ _ _ _ _ _) (aB rfl aK)))) ea)
 obtain⟨b,gb,eb⟩:=wH (m:=m) (z:=y) (f:=13) (by decide) m1 m5 ym (mH (ns:=ns) (r:=[]) (lo:=13) (hi:=23) (v:=6) (by decide)).2
 have e4:aO 4 (aC bV [pG (tP (vE 0) (soO (cE (.int 13))) (soO (cE (.int 23)))) (cN [cE (.int 6)]),vE 1,bD (vE 2) (cE (.int 1)),cE (.int 13)]) (G1 ns (iR m) (zyR z y) (oR a) none none none none none none none)=.nx (G1 ns (iR m) (zyR z y) (oR a) (oR b) none none none none none none) :=
  eD (aU (rs:=[⟨.tmp,false&&true,.lst (li (tV ns (some ((13:Nat):Int)) (some ((23:Nat):Int))++[6]))⟩,⟨.shr,true,.int m⟩,⟨.shr,true,.int y⟩,⟨.shr,true,.int 13⟩]) (aB (mH (lo:=13) (hi:=23) (by decide)).1 (aB rfl (aB (sz1 _ _ _ _ _ _ _ _) (aB rfl aK)))) eb)
 obtain⟨d,gd,ed⟩:=wH (m:=m) (z:=z) (f:=23) (by decide) m1 m5 zm (mH (ns:=ns) (r:=[]) (lo:=23) (hi:=33) (v:=9) (by decide)).2
 have e5:aO 5 (aC bV [pG (tP (vE 0) (soO (cE (.int 23))) (soO (cE (.int 33)))) (cN [cE (.int 9)]),vE 1,bD (vE 2) (cE (.int 0)),cE (.int 23)]) (G1 ns (iR m) (zyR z y) (oR a) (oR b) none none none none none none)=.nx (G1 ns (iR m) (zyR z y) (oR a) (oR b) (oR d) none none none none none) :=
  eD (aU (rs:=[⟨.tmp,false&&true,.lst (li (tV ns (some ((23:Nat):Int)) (some ((33:Nat):Int))++[9]))⟩,⟨.shr,true,.int m⟩,⟨.shr,true,.int z⟩,⟨.shr,true,.int 23⟩]) (aB (mH (lo:=23) (hi:=33) (by decide)).1 (aB rfl (aB (sz0 _ _ _ _ _ _ _ _) (aB rfl aK)))) ed)
 obtain⟨r0,h0,f0⟩:=aEc ns (st:=3) (m:=m) (by omega)
 obtain⟨r1,h1,f1⟩:=aEc ns (st:=3+m) (m:=m) (by omega)
 have e6:aO 6 (cN [aC aY [vE 0,cE (.int 3),vE 1,cE (.int 9)],aC aY [vE 0,cH (cE (.int 3)) (vE 1),vE 1,cE (.int 9)]]) (G1 ns (iR m) (zyR z y) (oR a) (oR b) (oR d) none none none none none)=.nx (G1 ns (iR m) (zyR z y) (oR a) (oR b) (oR d) (qR' [r0,r1]) none none none none):=by
  have n0:aC aY [vE 0,cE (.int 3),vE 1,cE (.int 9)] (G1 ns (iR m) (zyR z y) (oR a) (oR b) (oR d) none none none none none)=.ok ⟨.tmp,true,.lst (li r0)⟩:=aU (rs:=[⟨.shr,false,.lst (li ns)⟩,⟨.shr,true,.int 3⟩,⟨.shr,true,.int m⟩,⟨.shr,true,.int 9⟩]) (aB rfl (aB rfl (aB rfl (aB rfl aK)))) f0;have n1:aC aY [vE 0,cH (cE (.int 3)) (vE 1),vE 1,cE (.int 9)] (G1 ns (iR m) (zyR z y) (oR a) (oR b) (oR d) none none none none none)=.ok ⟨.tmp,true,.lst (li r1)⟩:=aU (rs:=[⟨.shr,false,.lst (li ns)⟩,⟨.shr,true,.int ((3+m:Nat):Int)⟩,⟨.shr,true,.int m⟩,⟨.shr,true,.int 9⟩]) (aB rfl (aB (aQp (a:=3) (k:=.shr) (fr:=true) (k':=.shr) (fr':=true) rfl rfl) (aB rfl (aB rfl aK)))) f1
  refine eD ?_
  have hzz:([D.lst (li r0),.lst (li r1)]:List D).length<=sizeLine:=by show 2<=sizeLine;decide
  have ev:=aB n0 (aB n1 aK);simp only[cN,ev,R.ok_bind,gives,Res.give,reduceCtorEq,if_false];exact if_pos hzz
 have e7:ifS (orT (aAj (bT (aC cO [vE 6,vE 3,vE 4,vE 2]))) (aAj (bT (aC cQ [vE 1,vE 3,vE 5,bD (vE 2) (cE (.int 0))])))) (bM (cE (.bl false))) eC (G1 ns (iR m) (zyR z y) (oR a) (oR b) (oR d) (qR' [r0,r1]) none none none none)=.nx (G1 ns (iR m) (zyR z y) (oR a) (oR b) (oR d) (qR' [r0,r1]) none none none none):=by
  have k1:aAj (bT (aC cO [vE 6,vE 3,vE 4,vE 2])) (G1 ns (iR m) (zyR z y) (oR a) (oR b) (oR d) (qR' [r0,r1]) none none none none)=.ok (!true):=aF2 (iD (dJ (rs:=[⟨.own,true,.lst (lil [r0,r1])⟩,⟨.own,true,aD a⟩,⟨.own,true,aD b⟩,⟨.own,true,.lst (li [(z:Int),(y:Int)])⟩]) (aB rfl (aB rfl (aB rfl (aB rfl aK)))) (aMe h0 h1 ga gb z1' (by omega) (by omega))))
  have k2:aAj (bT (aC cQ [vE 1,vE 3,vE 5,bD (vE 2) (cE (.int 0))])) (G1 ns (iR m) (zyR z y) (oR a) (oR b) (oR d) (qR' [r0,r1]) none none none none)=.ok (!true):=aF2 (iD (dJ (rs:=[⟨.shr,true,.int m⟩,⟨.own,true,aD a⟩,⟨.own,true,aD d⟩,⟨.shr,true,.int z⟩]) (aB rfl (aB rfl (aB rfl (aB (sz0 _ _ _ _ _ _ _ _) aK)))) (aJq ga gd zm)));exact(nP ((aKl k1 fun _=>k2).trans rfl)).trans rfl
 have gx:G m 1 (4+3) (aN (dX r0)):=aCg (uC r0) (fun t ht x hx=>by
  rw[kH]at ht;obtain⟨w,hw,rfl⟩:=Ak.mp ht;rw[Aq.mp hx];have:=fK.mp hw
  rw[h0.ln]at this
  exact this) (by rw[rB,h0.ln];exact Ah m5 (by decide)) (uD fun x hx=>Ah (h0.nb x hx) (by decide)) (by decide) (by decide) m1 m5
 have go:=ga.over (by decide)
 have gn:=go.prod gx (by omega) (by decide)
 have bx:eJ [.int m,.lst (lil [r0])]=.ok ⟨.tmp,true,aD (aN (dX r0))⟩:=by
  have q:=aEh (zW m1 m5 (l:=[r0]) (by simp) fun r hr=>by rw[Aq.mp hr];exact h0)
  rw[show box [r0]=aN (dX r0) by unfold box;rw[aNc]]at q
  exact q
 have R0:∀ x7 x8 x9 x10,bD (vE 6) (cE (.int 0)) (G1 ns (iR m) (zyR z y) (oR a) (oR b) (oR d) (qR' [r0,r1]) x7 x8 x9 x10)=.ok ⟨.shr,true,.lst (li r0)⟩:=fun _ _ _ _=>mR (k:=.own) (fr:=true) (k':=.shr) (fr':=true) (i:=0) (ds:=lil [r0,r1]) rfl rfl rfl;have pn:=aJ6 go gx
 have e8:aO 7 (aC bJ [aC aX [vE 1,vE 3],aC eJ [vE 1,cN [bD (vE 6) (cE (.int 0))]]]) (G1 ns (iR m) (zyR z y) (oR a) (oR b) (oR d) (qR' [r0,r1]) none none none none)=.nx (G1 ns (iR m) (zyR z y) (oR a) (oR b) (oR d) (qR' [r0,r1]) (oR (aN (bI (aN (fR m a)) (aN (dX r0))))) none none none):=by
  have l1:cN [bD (vE 6) (cE (.int 0))] (G1 ns (iR m) (zyR z y) (oR a) (oR b) (oR d) (qR' [r0,r1]) none none none none)=.ok ⟨.tmp,true,.lst (lil [r0])⟩:=by
   have hzz:([D.lst (li r0)]:List D).length<=sizeLine:=by show 1<=sizeLine;decide
   have ev:=aB (R0 none none none none) aK;simp only[cN,ev,R.ok_bind,gives,Res.give,reduceCtorEq,if_false];exact if_pos hzz
  exact eD (aU (φ:=bJ) (rs:=[⟨.tmp,true,aD (aN (fR m a))⟩,⟨.tmp,true,aD (aN (dX r0))⟩]) (aB (aU (φ:=aX) (rs:=[⟨.shr,true,.int m⟩,⟨.own,true,aD a⟩]) (aB rfl (aB rfl aK)) (aBu ga)) (aB (aU (φ:=eJ) (rs:=[⟨.shr,true,.int m⟩,⟨.tmp,true,.lst (lil [r0])⟩]) (aB rfl (aB l1 aK)) bx) aK)) pn)
 have tn:=aFc gn (k:=sgn (m-1)) (lP _);rw[←aHg (by omega) ga.inM h0.ln]at tn
 have hk:=vO h0 ga;have oh:=aBu (G.hook h0 ga (by decide))
 generalize aN (bI (aN (fR m a)) (aN (dX r0)))=Nr at *
 have e9:ifS (bT (neE (aC aX [vE 1,aC bQ [bD (vE 6) (cE (.int 0)),vE 3]]) (aC dU [vE 7,sgE (eM (vE 1) (cE (.int 1)))]))) (bM (cE (.bl false))) eC (G1 ns (iR m) (zyR z y) (oR a) (oR b) (oR d) (qR' [r0,r1]) (oR Nr) none none none)=.nx (G1 ns (iR m) (zyR z y) (oR a) (oR b) (oR d) (qR' [r0,r1]) (oR Nr) none none none):=by
  have sb:eM (vE 1) (cE (.int 1)) (G1 ns (iR m) (zyR z y) (oR a) (oR b) (oR d) (qR' [r0,r1]) (oR Nr) none none none)=.ok ⟨.shr,true,.int ((m-1:Nat):Int)⟩:=(aV (C:=C0) (G:=fun i j=>i-j) (k:=.shr) (fr:=true) (i:=(m:Int)) (k':=.shr) (fr':=true) (j:=1) rfl rfl rfl).trans (by rw[Int.natCast_sub m1];rfl)
  refine tY (k':=.tmp) (fr':=true) (S:=aN (fR m (aN (hook r0 a)))) (aU (φ:=aX) (rs:=[⟨.shr,true,.int m⟩,⟨.tmp,true,aD (aN (hook r0 a))⟩]) (aB rfl (aB (aU (φ:=bQ) (rs:=[⟨.shr,true,.lst (li r0)⟩,⟨.own,true,aD a⟩]) (aB (R0 _ _ _ _) (aB rfl aK)) hk) aK)) oh) ?_
  exact aU (φ:=dU) (rs:=[⟨.own,true,aD Nr⟩,⟨.shr,true,.int (sgn (m-1))⟩]) (aB rfl (aB (Od.aC6 sb) aK)) tn
 have e10:aO 8 (cA (jR (aC bY [vE 0,cE (.int 2)]) (cE (.int 6))) (cE (.int 4))) (G1 ns (iR m) (zyR z y) (oR a) (oR b) (oR d) (qR' [r0,r1]) (oR Nr) none none none)=.nx (G1 ns (iR m) (zyR z y) (oR a) (oR b) (oR d) (qR' [r0,r1]) (oR Nr) (iR c) none none):=by
  rw[show iR (c:Int)=iR (fE ns 2/6%4) by rw[hc]]
  exact set_shr (aV (aV (aBa ns 2 _) (k':=.shr) (fr':=true) (j:=6) rfl (aLm (by decide) (by decide))) (k':=.shr) (fr':=true) (j:=4) rfl (gA (by decide)))
 obtain⟨l,l1,l2,l3⟩:=aKc ns m5 c4 (st:=3) (by decide) (ρ:=(G1 ns (iR m) (zyR z y) (oR a) (oR b) (oR d) (qR' [r0,r1]) (oR Nr) (iR c) none none)) rfl rfl rfl
 obtain⟨r,k1,k2,k3⟩:=aKc ns m5 c4 (st:=30) (by decide) (ρ:=(G1 ns (iR m) (zyR z y) (oR a) (oR b) (oR d) (qR' [r0,r1]) (oR Nr) (iR c) (qR' l) none)) rfl rfl rfl
 have e11:aO 9 (bR (cV (vE 8)) 1 [0,1] (.nm 0) (bE (aC aY [vE 1,cH (cE (.int 3)) (bN (vE 2) (vE 0)),vE 2,cE (.int 9)]))) (G1 ns (iR m) (zyR z y) (oR a) (oR b) (oR d) (qR' [r0,r1]) (oR Nr) (iR c) none none)=.nx (G1 ns (iR m) (zyR z y) (oR a) (oR b) (oR d) (qR' [r0,r1]) (oR Nr) (iR c) (qR' l) none):=eD l3;have e12:aO 10 (bR (cV (vE 8)) 1 [0,1] (.nm 0) (bE (aC aY [vE 1,cH (cE (.int 30)) (bN (vE 2) (vE 0)),vE 2,cE (.int 9)]))) (G1 ns (iR m) (zyR z y) (oR a) (oR b) (oR d) (qR' [r0,r1]) (oR Nr) (iR c) (qR' l) none)=.nx (G1 ns (iR m) (zyR z y) (oR a) (oR b) (oR d) (qR' [r0,r1]) (oR Nr) (iR c) (qR' l) (qR' r)):=eD k3
 have e13:bM (aC dO [vE 1,vE 9,vE 10]) (G1 ns (iR m) (zyR z y) (oR a) (oR b) (oR d) (qR' [r0,r1]) (oR Nr) (iR c) (qR' l) (qR' r))=.rt ⟨.shr,true,.bl true⟩:=fA (dJ (rs:=[⟨.shr,true,.int m⟩,⟨.own,true,.lst (lil l)⟩,⟨.own,true,.lst (lil r)⟩]) (aB rfl (aB rfl (aB rfl aK))) (aN5 m1 m5 (by omega) l1 k1 l2 k2))
 have e:aQt (G1 ns none none none none none none none none none none)=.rt ⟨.shr,true,.bl true⟩:=(aM e1).trans ((aM e2).trans ((aM e3).trans ((aM e4).trans ((aM e5).trans ((aM e6).trans ((aM e7).trans ((aM e8).trans ((aM e9).trans ((aM e10).trans ((aM e11).trans ((aM e12).trans e13)))))))))));exact(cJ rfl e).trans rfl
end N63
namespace Hd
open PySem PySem.W
section
variable (tb:String->Option Builtin)(p:Program)(w:World)(m:Nat)(an:Option Value)
noncomputable def one (ih:SharedT->Thread->Option SharedT)(s:SharedT)(t:Thread):Option SharedT :=
 @Bool.rec (fun _=>Option SharedT) (@Bool.rec (fun _=>Option SharedT) none (@Option.rec (SharedT×Thread) (fun _=>Option SharedT) none (fun r=>ih r.1 r.2) (stepT (denote tb) p w s t)) (stepOk m an t)) (some s) (through t)
noncomputable def run (n:Nat):SharedT->Thread->Option SharedT :=
 @Nat.rec (fun _=>SharedT->Thread->Option SharedT) (fun _ _=>none) (fun _ ih=>one tb p w m an ih) n
end
theorem aQa {tb:String->Option Builtin}{p:Program}{w:World}{m:Nat}{an:Option Value}(n:Nat):∀ {s s':SharedT} {t:Thread},run tb p w m an n s t=some s'->topRun tb p w m an n s.abs t=some s'.abs:=by
 induction n with
 | zero=>intro s s' t h;cases h
 | succ n ih =>
  intro s s' t h;have h1:one tb p w m an (run tb p w m an n) s t=some s':=h;unfold one at h1;unfold topRun;cases a:through t with
  | true=>rw[a]at h1;cases h1;rfl
  | false =>
   rw[a]at h1;cases b:stepOk m an t with
   | false=>rw[b]at h1;cases h1
   | true =>
    rw[b]at h1;cases c:stepT (denote tb) p w s t with
    | none=>rw[c]at h1;cases h1
    | some r =>
     rw[c]at h1;obtain⟨s1,t1⟩:=r;have d:=stepT_spec c;simp only[d];exact ih h1
noncomputable def aWy (P:Params):BT :=
 .node (boot_o_0 P) (.node (boot_o_1 P) (.node (boot_o_3 P) (.node (boot_o_7 P) .nil .nil) .nil) (.node (boot_o_5 P) (.node (boot_o_9 P) .nil .nil) .nil))
  (.node (boot_o_2 P) (.node (boot_o_4 P) (.node (boot_o_8 P) .nil .nil) .nil) (.node (boot_o_6 P) (.node (boot_o_10 P) .nil .nil) .nil))
noncomputable def aTz (w:World)(os:OsState):SharedT:=⟨aWy w.params,11,(boot_heap w.params).life,⟨[]⟩,boot_drawn,boot_toks,os⟩
theorem aK1 (w:World)(os:OsState):(aTz w os).abs=⟨boot_heap w.params,⟨[]⟩,boot_drawn,boot_toks,os⟩:=rfl
noncomputable def sz (w:World):Bool×Nat×Option Value:=((boot_heap w.params).isNs mainGlobals,(boot_heap w.params).objs.size,(boot_heap w.params).nsMap mainGlobals "__annotations__")
lay_quick Hd.sz
theorem aUn (w:World):sz w=(true,11,some (.ref 6)):=(congrFun PySem.W.Fast.te12317964393026182561 w).trans (by kernel_rfl)
section
variable (p q:Program)(Xt:Shared->Bool){α:Type}(Yf:Shared->α)(N:Nat)
noncomputable def aFx (w:World)(os:OsState):=(run treeTable p w 11 (some (.ref 6)) N (aTz w os) (topStub p)).map fun s =>
 ((staticsOk (importedModules p.main.body) (boot_heap w.params) s.abs.heap&&namesBound p s.abs.heap&&gensDone s.abs&&laidKept (boot_heap w.params) s.abs.heap),openSeen q [] (importedModules p.main.body) Xt true s.abs,Yf s.abs)
end
theorem left {p q:Program}{Xt:Shared->Bool}{α:Type}{Yf:Shared->α}{Ya:World->α}{N:Nat}(hb:∀ w:World,(fencedOpening treeTable p w N).map (fun s=>(s.heap,s.gens,s.drawn,s.toks))=some (boot_heap w.params,{ toList:=[] },boot_drawn,boot_toks))(hz:∀ w,sz w=(true,11,some (.ref 6)))
 (h:∀ w os,aFx p q Xt Yf N w os=some (true,openGood q [],Ya w)):LeftO p q [] Xt Yf Ya N:=fun w=>by
 obtain⟨s0,a,b⟩:=Fj.mp (hb w);obtain⟨s1,c,d⟩:=Fj.mp (h w s0.os);simp only[Prod.mk.injEq]at b d;have z:=hz w;simp only[sz,Prod.mk.injEq]at z;have e:=aQa N c;rw[aK1]at e
 have f:s0=⟨boot_heap w.params,{ toList:=[] },boot_drawn,boot_toks,s0.os⟩:=by
  obtain⟨x1,x2,x3,x4,x5⟩:=s0;obtain⟨b1,b2,b3,b4⟩:=b;dsimp only at b1 b2 b3 b4
  rw[b1,b2,b3,b4]
 unfold openEnds;rw[a,Gk,f];unfold topFrom;dsimp only
 rw[z.1,z.2.1,z.2.2,e];simp only[Gk,d.1];show some (_,_)=_
 rw[d.2.1,d.2.2]
end Hd
namespace H63
open PySem PySem.W
local macro_rules | `(tactic| o_head $H)=>`(tactic| (have _:=$H;assumption))
theorem kk (h:PySem.Challenge.rw_flatmeet_k63_whole_hooks_and_turning.row.Holds):PySem.Challenge.rw_flatmeet_k63_whole_hooks_and_turning.row.Holds:=by k_head
abbrev pr:Program:=PySem.Challenge.pw_flatmeet_k63_whole_hooks_and_turning
abbrev ad:List Addr:=[2,3,15,22,23,24,25,28,35,36,37,40,47,48,49,52,59,60,61,64,71,73,74,76,77,78,79,80,83,85,86,88,89,90,92,93,95,96,97,99,100,102,103,104,106,107,109,110,111,114,115,116,119,120,121,123,124,126,127,128,131,132,133,136,137,138,141,142,143,146,147,148,150,151,153,154,155,158,159,160,162,163,165,166,167,170,171,172,175,176,177,179,180,182,183,184,186,187,189,190,191,194,195,196,198,199,201,202,203,205,206,208,209,210,212,213,215,216,217,219,220,222,223,224,226,227,229,230,231,233,234,236,237,238,240,241,243,244,245,247,248,250,251,252,254,255,257,258,259,261,262,264,265,266,269,270,271,274,275]
theorem aFf (P:Params):ad=(kk.heap_1 P).map (·.1):=by kernel_rfl
noncomputable abbrev hk:Hook:=kHook kk.heap_1 ad aFf
def vw:Program:=view pr [1,2,3,4,5,7,8,9,10,11,13,14,15,16,17,18,20,21,22,23,24,26,28,29,30,31,32,33,34,35,36,37,38,39,40,41,42]
noncomputable def lk (w:World)(os:OsState):=Hd.aFx pr vw (fun s=>xlAt vw [] s&&recOk [] s) (fun s=>ad.map s.heap.get?) 4264 w os
noncomputable def gd (w:World)(os:OsState):=some (true,openGood vw [],(kk.heap_1 w.params).map fun p=>some p.2)
lay_quick H63.lk H63.gd
theorem same:PySem.W.Fast.tw2927394664139918535=PySem.W.Fast.tw1376821281589089706:=by kernel_rfl
theorem lo:LeftO pr vw [] (fun s=>xlAt vw [] s&&recOk [] s) hk.obs hk.val 4264:=Hd.left (boot_open rfl rfl fun s=>rfl) Hd.aUn fun w os=>congrFun (congrFun (PySem.W.Fast.te2927394664139918535.trans (same.trans PySem.W.Fast.te1376821281589089706.symm)) w) os
theorem go (hs:PySem.Challenge.rw_flatmeet_k63_whole_hooks_and_turning.row.wellSaid=true)(h:PySem.Challenge.rw_flatmeet_k63_whole_hooks_and_turning.row.promised){d:DefRec}{kw:List (Str×Expr)}(h1:defOf vw PySem.Challenge.rw_flatmeet_k63_whole_hooks_and_turning.row.name=some (d,kw))(h2:PySem.Challenge.rw_flatmeet_k63_whole_hooks_and_turning.row.prog.theDef PySem.Challenge.rw_flatmeet_k63_whole_hooks_and_turning.row.name=some (d.params,d.body,d.scope))(h3:kwWritten? d.params.kwonlyargs d.params.kw_defaults=some kw)
 (g:WalkO vw [] (XL vw []) (kHook kk.heap_1 ad aFf).says PySem.Challenge.rw_flatmeet_k63_whole_hooks_and_turning.row.toRowW d kw fun f vs=>call f vs):PySem.Challenge.rw_flatmeet_k63_whole_hooks_and_turning.row.Holds :=
 W.holds_open lo hk.of hk.keeps (fun s e=>xl_of s (Dm.mp e).1) XL.keeps h1 h2 h3 (fun s e=>recFacts_of (Dm.mp e).2) rfl hs (by decide +kernel) ⟨rfl,rfl,rfl,rfl,rfl,by decide +kernel⟩ h g
end H63
open PySem PySem.W PyProof.Rows
set_option maxRecDepth 100000 in
set_option maxHeartbeats 0 in
theorem PySem.Challenge.cw_flatmeet_k63_whole_hooks_and_turning_holds : PySem.Challenge.rw_flatmeet_k63_whole_hooks_and_turning.Holds := by
  w_on; o_law
  refine H63.go (by assumption) ?hw (by rfl) (by rfl) (by rfl) ?hc
  (case hw => w_witness2)
  k_fill
  refine N63.walk (l := PySem.Challenge.rw_flatmeet_k63_whole_hooks_and_turning) rfl rfl (fun ns _ => N63.law_ok ns) (fun w h Y => PySem.W.kIn_of Y) ?L ?F
  case L => intro P; kernel_rfl
  case F =>
    intro w mg fa h KX G hmg
    refine' N63.all_mk KX G hmg ⟨?n0, ?l0, ?c0, ?k0⟩ ⟨?n1, ?l1, ?c1, ?k1⟩ ⟨?n2, ?l2, ?c2, ?k2⟩ ⟨?n3, ?l3, ?c3, ?k3⟩ ⟨?n4, ?l4, ?c4, ?k4⟩ ⟨?n5, ?l5, ?c5, ?k5⟩ ⟨?n6, ?l6, ?c6, ?k6⟩ ⟨?n7, ?l7, ?c7, ?k7⟩ ⟨?n8, ?l8, ?c8, ?k8⟩ ⟨?n9, ?l9, ?c9, ?k9⟩ ⟨?n10, ?l10, ?c10, ?k10⟩ ⟨?n11, ?l11, ?c11, ?k11⟩ ⟨?n12, ?l12, ?c12, ?k12⟩ ⟨?n13, ?l13, ?c13, ?k13⟩ ⟨?n14, ?l14, ?c14, ?k14⟩ ⟨?n15, ?l15, ?c15, ?k15⟩ ⟨?n16, ?l16, ?c16, ?k16⟩ ⟨?n17, ?l17, ?c17, ?k17⟩ ⟨?n18, ?l18, ?c18, ?k18⟩ ⟨?n19, ?l19, ?c19, ?k19⟩ ⟨?n20, ?l20, ?c20, ?k20⟩ ⟨?n21, ?l21, ?c21, ?k21⟩ ⟨?n22, ?l22, ?c22, ?k22⟩ ⟨?n23, ?l23, ?c23, ?k23⟩ ⟨?n24, ?l24, ?c24, ?k24⟩ ⟨?n25, ?l25, ?c25, ?k25⟩ ⟨?n26, ?l26, ?c26, ?k26⟩ ⟨?n27, ?l27, ?c27, ?k27⟩ ⟨?n28, ?l28, ?c28, ?k28⟩ ⟨?n29, ?l29, ?c29, ?k29⟩ ⟨?n30, ?l30, ?c30, ?k30⟩ ?z0 ?z1 ?z2 ?z3 ?z4 ?z5 ?z6 ?z7 ?z8 ?z9 ?z10 ?gq0
    (case n0 => k_is); (case l0 => k_is); (case c0 => k_is); (case k0 => k_is)
    (case n1 => k_is); (case l1 => k_is); (case c1 => k_is); (case k1 => k_is)
    (case n2 => k_is); (case l2 => k_is); (case c2 => k_is); (case k2 => k_is)
    (case n3 => k_is); (case l3 => k_is); (case c3 => k_is); (case k3 => k_is)
    (case n4 => k_is); (case l4 => k_is); (case c4 => k_is); (case k4 => k_is)
    (case n5 => k_is); (case l5 => k_is); (case c5 => k_is); (case k5 => k_is)
    (case n6 => k_is); (case l6 => k_is); (case c6 => k_is); (case k6 => k_is)
    (case n7 => k_is); (case l7 => k_is); (case c7 => k_is); (case k7 => k_is)
    (case n8 => k_is); (case l8 => k_is); (case c8 => k_is); (case k8 => k_is)
    (case n9 => k_is); (case l9 => k_is); (case c9 => k_is); (case k9 => k_is)
    (case n10 => k_is); (case l10 => k_is); (case c10 => k_is); (case k10 => k_is)
    (case n11 => k_is); (case l11 => k_is); (case c11 => k_is); (case k11 => k_is)
    (case n12 => k_is); (case l12 => k_is); (case c12 => k_is); (case k12 => k_is)
    (case n13 => k_is); (case l13 => k_is); (case c13 => k_is); (case k13 => k_is)
    (case n14 => k_is); (case l14 => k_is); (case c14 => k_is); (case k14 => k_is)
    (case n15 => k_is); (case l15 => k_is); (case c15 => k_is); (case k15 => k_is)
    (case n16 => k_is); (case l16 => k_is); (case c16 => k_is); (case k16 => k_is)
    (case n17 => k_is); (case l17 => k_is); (case c17 => k_is); (case k17 => k_is)
    (case n18 => k_is); (case l18 => k_is); (case c18 => k_is); (case k18 => k_is)
    (case n19 => k_is); (case l19 => k_is); (case c19 => k_is); (case k19 => k_is)
    (case n20 => k_is); (case l20 => k_is); (case c20 => k_is); (case k20 => k_is)
    (case n21 => k_is); (case l21 => k_is); (case c21 => k_is); (case k21 => k_is)
    (case n22 => k_is); (case l22 => k_is); (case c22 => k_is); (case k22 => k_is)
    (case n23 => k_is); (case l23 => k_is); (case c23 => k_is); (case k23 => k_is)
    (case n24 => k_is); (case l24 => k_is); (case c24 => k_is); (case k24 => k_is)
    (case n25 => k_is); (case l25 => k_is); (case c25 => k_is); (case k25 => k_is)
    (case n26 => k_is); (case l26 => k_is); (case c26 => k_is); (case k26 => k_is)
    (case n27 => k_is); (case l27 => k_is); (case c27 => k_is); (case k27 => k_is)
    (case n28 => k_is); (case l28 => k_is); (case c28 => k_is); (case k28 => k_is)
    (case n29 => k_is); (case l29 => k_is); (case c29 => k_is); (case k29 => k_is)
    (case n30 => k_is); (case l30 => k_is); (case c30 => k_is); (case k30 => k_is)
    (case z0 => k_is); (case z1 => k_is); (case z2 => k_is); (case z3 => k_is); (case z4 => k_is); (case z5 => k_is); (case z6 => k_is); (case z7 => k_is); (case z8 => k_is); (case z9 => k_is); (case z10 => k_is)
    (case gq0 => k_is)
