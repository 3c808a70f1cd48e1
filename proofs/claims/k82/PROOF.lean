import PyProof.Rows.All
import Wide.All
import OpenK.KMake
import OpenK.KDescr
import OpenK.KGet
import OpenK.KEqL
import OpenK.KMore
import OpenK.KCls
import OpenK.KCall
import OpenK.KWalk
import OpenK.Peek
import OpenK.KLine
import KE.KIsAll
import KE.KItem
import KE.LcSums
import KE.KTryMore
import Wide.FinOn
import Lean
import PyProof.EqAt
import PyProof.EqKinds
import PyProof.TupleCall
import PyProof.ZipIter
import PyProof.ListNew
import PySem.Sem
import PyProof.WalksEnum
import PyProof.EnumMake
import PyProof.Rows.TupIter
import PyProof.DictIter
import KE.KDictList
import PyProof.DictItems
import KE.KPairComp
import KE.KSortTup
import PyProof.Rows.SetFrom
import PyProof.WalksMore
import PyProof.ListRange
import KE.KDictOf
import PyProof.IsiH_list
import PyProof.AttrMiss
import PyProof.TupleOfGen
import KE.KRevIter
import PyProof.Rows.Range3
import PyProof.ExcInit
import PySem.Challenge.RW_flatmeet_k82_equations_by_boxes
open List renaming getD_eq_getElem?_getD→Aa,mem_cons_self→Ab,mem_cons_of_mem→Ac,length_map→Ad,getElem?_eq_getElem→Ae,range→Af,mem_map→Ah,map_cons→Ai,mem_cons→Aj,length_append→Ak,length_cons→Al,getElem?_map→Ao,size_toArray→Aq,length_singleton→Ar,mem_singleton→As,getElem?_append_right→Au,mem_append→Av,replicate→Aw,length_take→Ax,getElem?_set_ne→Ay,mem_append_right→Az,not_mem_nil→Bc,getElem?_set_self→Bd,getElem?_eq_none→Bk,getElem?_eq_some_iff→Bl,getElem?_append_left→Bm,append_assoc→Bn,range'→Bo,mem_range→Bp,nodup_cons→Br,map_map→Bt,lookup_cons→Bu,filter_cons_of_pos→Bv,filter_cons_of_neg→Bx,length_drop→By,map_append→Ca,length_set→Cb,mem_of_mem_drop→Ce,map_congr_left→Cg,pairwise_map→Cj,mem_filter→Ck,dropLast_concat_getLast→Cm,mem_iff_getElem→Co,length_eq_zero_iff→Cp,length_range→Cq,range_eq_range'→Cr,length_replicate→Cy,foldl_cons→Dd,append_nil→De,nodup_nil→Dh,of_mem_zip→Di,range'_succ→Dj,mem_append_left→Dl,length_dropLast→Dm,replicate_succ→Dp,nil_append→Dq,length_nil→Dr,mem_flatMap→Ds,cons_append→Dt,mem_of_mem_take→Dz,mem_of_getElem?→Ea,count_eq_zero_of_not_mem→Eb,getElem_mem→Eg,filter_cons→Eh,take_append_drop→Ej,pairwise_iff_getElem→Ek,lookup→El,flatten_cons→Ep,getElem?_take_of_lt→Es,getElem?_replicate→Et,pairwise_cons→Eu,take_of_length_le→Ew,drop_of_length_le→Ex,drop_eq_nil_of_le→Ey,range_succ→Ez,find?_cons→Fb,map_drop→Fc,nodup_append→Ff,nodup_iff_count→Fk,dropLast_subset→Fl,all_eq_true→Fn,filterMap_cons→Fo,length_zip→Ft,zip_cons_cons→Fv,perm_append_comm→Gd,getElem?_zipWith→Ge,cons→Gf,getLast_mem→Gi,pairwise_append→Go,take_append_of_le_length→Gp,mem_zipIdx_iff_getElem?→Gr,mem_map_of_mem→Gu,getElem?_range→Gv,toArray→Gy,getElem?_drop→Ha,length→Hd,mem_range'_1→Hj,getElem_drop→Hk,foldl_append→Hl,flatMap_cons→Hn,map_take→Hs,zipIdx_cons→Hw,ext_getElem→Hx,drop_append→Hy,any_eq_true→Hz,map_nil→Ic
open PySem.Heap renaming get?_push_of_some→Ag,lt_size→Ap,get?_push_size→Bb,size_push→Cd,get?_update_self→Fd,get?_update_other→Gc
open Nat renaming le_refl→Am,lt_of_lt_of_le→An,le_trans→Bj,ne_of_lt→Bq,zero_le→Cc,le_add_right→Ci,pow_le_pow_right→Cn,lt_of_le_of_lt→Cv,zero_add→Dw,gcd→Ee,lt_irrefl→Ef,le_of_lt→En,le_of_succ_le→Fe,mul_le_mul→Fi,min_eq_left→Fs,gcd_dvd_right→Fz,gcd_dvd_left→Gh,mul_le_mul_right→Gn,mul_le_mul_left→Gs,succ_mul→Gw,ne_of_gt→Gx,pow_add→Hc,lt_succ_self→Hv,sub_self→Ia,gcd_comm→Ib
open PySem.W renaming findIn→Bf,nsIn→Ch,mg_none_of→Cu,kia_one→Dc,emptyDict→Dg,fnOf→Dv,instObj→Ed,keepIn→Ei,cellsFrom_some→Ev,codeIn→Fh,hasDictIn→Fy,plainGet→Gg,kitOne→Gz,plainOver→Hh,methodObj→Hi,mg_of→Hr,takerIn→Iq9,makesIn→Ie,lookIn→Il
open Int renaming mul_comm→Bg,mul_assoc→Bi,ofNat_dvd_left→Du,zero_mul→Dx,toNat_natCast→Ec,neg_mul→Em,mul_zero→Eo,sub_mul→Fg,natAbs_mul→Fj,fdiv_eq_ediv_of_nonneg→Fm,emod_lt_of_pos→Fw,one_mul→Gk,mul_one→Gm,natCast_mul→Gq,natAbs_natCast→Hb,add_mul→Hg,mul_left_comm→Ho,lt_trichotomy→Hq,mul_ne_zero→Ig,emod_nonneg→Ih,mul_add→Ik
open Bool renaming false_eq_true→Cf,and_eq_true_iff→Ct,false_ne_true→Db,and_eq_true→Df,or_true→Fx,or_false→Gj,and_self→Ht
open Option renaming some→Cw,isSome_iff_exists→Fp,map_some→Fq,map_eq_some_iff→Gb,bind_some→Hu,none→Ij
open PyProof.Rows renaming callWith_type1→Cz,step_dedup→Da,lt_int→Im,envOfC→Io
open List.Pairwise renaming nil→Do,imp_of_mem→Er,imp→Ga,and_mem→Ii
open List.Perm renaming refl→Dy
set_option Elab.async false
set_option linter.all false
set_option maxRecDepth 100000
set_option maxHeartbeats 3990000
namespace L2
open PySem PySem.Spec PyProof.Rows
abbrev Key:=Sum Int Str
def wF:Key->Value->Bool
 | .inl k,v=>Value.isInt k v
 | .inr x,v=>Value.isStrOf x v
def aWa (w:World):Key->Int
 | .inl k=>hashInt k
 | .inr x=>hashStr w x
theorem cS:∀ {k:Key} {v:Value},wF k v=true->(∃ i t,k=Sum.inl i/\v=Value.int i t)\/(∃ x t,k=Sum.inr x/\v=Value.str x t)
 | .inl i,v,h=>by
  obtain⟨t,e⟩:=Value.isInt_shape (k:=i) (v:=v) h;exact .inl ⟨i,t,rfl,e⟩
 | .inr x,v,h=>by
  obtain⟨t,e⟩:=Value.isStrOf_shape (x:=x) (v:=v) h;exact .inr ⟨x,t,rfl,e⟩
theorem aGk (i:Int)(t:Tok):wF (.inl i) (.int i t)=true:=by simp[wF,Value.isInt]
theorem aFr (x:Str)(t:Tok):wF (.inr x) (.str x t)=true:=by simp[wF,Value.isStrOf]
theorem aRe (a b:Int):decide ((Sum.inl a:Key)=Sum.inl b)=(a==b):=by
 by_cases e:a=b
 · subst e;simp
 · have h:¬ (Sum.inl a:Key)=Sum.inl b:=fun q=>e (Sum.inl.inj q)
   rw[decide_eq_false h];exact(beq_eq_false_iff_ne.mpr e).symm
theorem aRf (a b:Str):decide ((Sum.inr a:Key)=Sum.inr b)=decide (a=b):=by
 by_cases e:a=b
 · subst e;simp
 · have h:¬ (Sum.inr a:Key)=Sum.inr b:=fun q=>e (Sum.inr.inj q)
   rw[decide_eq_false h,decide_eq_false e]
theorem aRs (a:Int)(b:Str):decide ((Sum.inl a:Key)=Sum.inr b)=false:=decide_eq_false (fun q=>nomatch q)
theorem aPq (a:Str)(b:Int):decide ((Sum.inr a:Key)=Sum.inl b)=false:=decide_eq_false (fun q=>nomatch q)
def cQ (prog:Program)(w:World):PySem.KeyKind prog w Key where
 is:=wF
 hash:=aWa w
 inj:=fun v a b ha hb=>by
  rcases cS ha with ⟨i,t,rfl,rfl⟩ | ⟨x,t,rfl,rfl⟩
  · rcases cS hb with ⟨j,u,rfl,e⟩ | ⟨y,u,rfl,e⟩
    · injection e with e1 _;rw[e1]
    · exact nomatch e
  · rcases cS hb with ⟨j,u,rfl,e⟩ | ⟨y,u,rfl,e⟩
    · exact nomatch e
    · injection e with e1 _;rw[e1]
 byValue:=fun k v h=>by
  rcases cS h with ⟨i,t,rfl,rfl⟩ | ⟨x,t,rfl,rfl⟩<;>rfl
 pyHash:=fun hv h=>by
  rcases cS hv with ⟨i,t,rfl,rfl⟩ | ⟨x,t,rfl,rfl⟩
  · exact wpAny_pyHash_int h
  · exact wpAny_pyHash_str h
 eqBool:=fun hu hv h=>by
  rcases cS hu with ⟨i,t,rfl,rfl⟩ | ⟨x,t,rfl,rfl⟩
  · rcases cS hv with ⟨j,u,rfl,rfl⟩ | ⟨y,u,rfl,rfl⟩
    · rw[aRe]at h;exact wpAny_eqBool_int h
    · rw[aRs]at h;exact SeqAt.EqAt.int_str i t y u _ _ _ _ h
  · rcases cS hv with ⟨j,u,rfl,rfl⟩ | ⟨y,u,rfl,rfl⟩
    · rw[aPq]at h;exact SeqAt.EqAt.str_int x t j u _ _ _ _ h
    · rw[aRf]at h;exact wpAny_eqBool_str h
 «strs»:=fun k x t v h=>by
  rcases cS h with ⟨i,u,rfl,e⟩ | ⟨y,u,rfl,e⟩
  · exact nomatch e
  · injection e with e1 _
    subst e1;cases v<;>rfl
theorem aAv (prog:Program)(w:World)(i:Int)(t:Tok):(cQ prog w).is (.inl i) (.int i t)=true:=aGk i t
theorem aA4 (prog:Program)(w:World)(x:Str)(t:Tok):(cQ prog w).is (.inr x) (.str x t)=true:=aFr x t
end L2
namespace L2
open PySem PySem.Spec PyProof.Rows
inductive V where
 | non | bl (b:Bool) | int (i:Int) | str (x:Str) | byt (b:Array UInt8) | flt (b:UInt64) | ref (a:Addr) | ty (n:String)
 deriving DecidableEq
def bF:V->Value->Prop
 | .non,u=>u=Value.none
 | .bl b,u=>u=Value.bool b
 | .int i,u=>∃ t,u=Value.int i t
 | .str x,u=>∃ t,u=Value.str x t
 | .byt b,u=>∃ t,u=Value.bytes b t
 | .flt b,u=>∃ t,u=Value.float b t
 | .ref a,u=>u=Value.ref a
 | .ty n,u=>u=Value.type n
abbrev bA:List V->List Value->Prop:=Paired bF
theorem bA.length {xs:List V}{us:List Value}(r:bA xs us):xs.length=us.length:=Paired.length r
theorem bA.get:∀ {xs:List V} {us:List Value} {i:Nat} {x:V},bA xs us->xs[i]?=some x->∃ u,us[i]?=some u/\bF x u
 | _,_,_,_,.nil,e=>by simp at e
 | _,_,0,_,.cons r _,e=>by simp at e;subst e;exact⟨_,rfl,r⟩
 | _,_,i+1,x,.cons _ t,e=>by
  obtain⟨u,h1,h2⟩:=bA.get (i:=i) (x:=x) t (by simpa using e)
  exact⟨u,by simpa using h1,h2⟩
theorem bA.set {x:V}{u:Value}(r:bF x u):∀ {xs:List V} {us:List Value} (i:Nat),bA xs us->bA (xs.set i x) (us.set i u)
 | _,_,_,.nil=>.nil
 | _,_,0,.cons _ t=>.cons r t
 | _,_,i+1,.cons q t=>.cons q (bA.set r i t)
theorem bA.append:∀ {xs ys:List V} {us ws:List Value},bA xs us->bA ys ws->bA (xs++ys) (us++ws)
 | _,_,_,_,.nil,s=>s
 | _,_,_,_,.cons r t,s=>.cons r (bA.append t s)
theorem bA.take:∀ {xs:List V} {us:List Value} (n:Nat),bA xs us->bA (xs.take n) (us.take n)
 | _,_,0,_=>.nil
 | _,_,_+1,.nil=>.nil
 | _,_,n+1,.cons r t=>.cons r (bA.take n t)
theorem bA.drop:∀ {xs:List V} {us:List Value} (n:Nat),bA xs us->bA (xs.drop n) (us.drop n)
 | _,_,0,r=>r
 | _,_,_+1,.nil=>.nil
 | _,_,n+1,.cons _ t=>bA.drop n t
def mO:Option V->Option Value->Prop
 | some v,some u=>bF v u
 | none,none=>True
 | _,_=>False
def KV {κ:Type}:List (κ×V)->List (κ×Value)->Prop:=Paired fun (p:κ×V) (q:κ×Value)=>p.1=q.1/\bF p.2 q.2
def kV:Key->V
 | .inl i=>.int i
 | .inr x=>.str x
inductive HO where
 /-- a list -/
 | lst (xs:List V)
 /-- a tuple (never changes) -/
 | tup (xs:List V)
 /-- a dict whose keys are ints and texts;one whose keys are tuples of ints and texts (the empty one is both) -/
 | dK (kvs:List (Key×V)) | dT (kvs:List (List Key×V))
 /-- a set of ints: its members,its size -/
 | set (S:Int->Bool) (n:Nat)
 /-- an instance of the class at C,its dict at dx,its attributes -/
 | ins (C dx:Addr) (fs:List (Str×V))
 /-- the dict of the instance at x -/
 | own (x:Addr)
 /-- the dict of an exception -/
 | xd (fs:List (Str×V))
 /-- a bound method,f of x -/
 | met (f x:Addr)
 /-- a range object lo,lo+1,.. below hi -/
 | rng (lo hi:Int)
 /-- a thing that is known to the object (the script;a dict while a loop walks it): read,never written while it is so -/
 | frz (o:Obj) (u:HO)
 /-- a code object's table -/
 | tbl (ps:Array Value)
 /-- any other thing,by what is true of its one object (a def of one's own: SetO a S n:=HO.ext fun h=>..) -/
 | ext (φ:Heap->Prop)
abbrev Hp:=Addr->Option HO
def upd (H:Hp)(a:Addr)(o:HO):Hp:=fun b=>if b=a then some o else H b
theorem aX {H:Hp}{a:Addr}{o:HO}:upd H a o a=some o:=by unfold upd;rw[if_pos rfl]
theorem aH {H:Hp}{a b:Addr}{o:HO}(h:b≠a):upd H a o b=H b:=by unfold upd;rw[if_neg h]
theorem xA {H:Hp}{a:Addr}{o u:HO}:upd (upd H a o) a u=upd H a u:=by
 funext b;unfold upd;split<;>rfl
theorem aTt {H:Hp}{a b:Addr}{o u:HO}(h:H a=some o)(h':H b=some u)(d:o≠u):a≠b:=by
 intro e;subst e;rw[h]at h';exact d (Cw.inj h')
theorem aZ {H:Hp}{a b:Addr}{o:HO}(h:H a=some o)(h':H b=none):a≠b:=by
 intro e;subst e;rw[h]at h';cases h'
section
variable (P:Program)(w:World)
def bP (H:Hp)(h:Heap)(a:Addr):HO->Prop
 | .lst xs=>xs.length<=sizeLine/\∃ (its:List Value) (n:Nat),bA xs its/\h.get? a=some { cls:=.type "list",data:=.seq its.toArray n }
 | .tup xs=>xs.length<=sizeLine/\∃ its:List Value,bA xs its/\IsTup h a its.toArray
 | .dK kvs=>kvs.length<=sizeLine/\(a==sysModules)=false/\∃ vs,KV kvs vs/\h.DictOf (cQ P w) a vs
 | .dT kvs=>kvs.length<=sizeLine/\(a==sysModules)=false/\∃ xs:List (List Key×Addr×Value),
  Paired (fun (p:List Key×V) (q:List Key×Addr×Value)=>p.1=q.1/\H q.2.1=some (.tup (p.1.map kV))/\bF p.2 q.2.2) kvs xs /\
  ∃ o es ep,h.get? a=some o/\o.ExactDict/\o.data=.dict es ep/\es.toList=xs.map (entryOfKey (tupleKind (cQ P w)))/\(xs.map (·.1)).Nodup
 | .set S n=>h.SetOf (intKind P w) a S n
 | .ins C dx fs=>H dx=some (.own a)/\fs.length<=1000/\dx≠a/\h.get? a=some (Ed C dx) /\
  ∃ mA,h.Ns1 dx mA/\(∀ f,mO (fs.lookup f) (mA f))/\PySem.Within mA (fs.map (·.1))
 | .own _=>∃ o,h.get? a=some o
 | .xd fs=>∃ mA,h.Ns1 a mA/\∀ f,mO (fs.lookup f) (mA f)
 | .rng lo hi=>∃ t u v,h.get? a=some { cls:=.type "range",data:=.fields #[.int lo t,.int hi u,.int 1 v] }
 | .frz o u=>h.get? a=some o/\bP H h a u
 | .tbl ps=>h.get? a=some { cls:=.none,data:=.fields ps }
 | .met f x=>h.get? a=some (Hi (.ref f) (.ref x))
 | .ext φ=>φ h/\(∃ o,h.get? a=some o)/\∀ h1 h2:Heap,φ h1->(∀ o,h1.get? a=some o->h2.get? a=some o)->φ h2
def HOk (H:Hp)(h:Heap):Prop:=∀ a o,H a=some o->bP P w H h a o
end
section
variable {P:Program}{w:World}{H H':Hp}{h h':Heap}{a:Addr}{o:HO}
theorem bP.lt (x:bP P w H h a o):a<h.objs.size:=by
 cases o with
 | lst xs=>obtain⟨_,_,_,_,e⟩:=x;exact Ap e
 | tup xs=>obtain⟨_,_,_,p⟩:=x;exact p.lt
 | dK kvs=>obtain⟨_,_,_,_,o,_,_,e,_⟩:=x;exact Ap e
 | dT kvs=>obtain⟨_,_,_,_,o,_,_,e,_⟩:=x;exact Ap e
 | set S n=>obtain⟨o,_,_,_,e,_⟩:=x;exact Ap e
 | ins C dx fs=>obtain⟨_,_,_,e,_⟩:=x;exact Ap e
 | own y=>obtain⟨_,e⟩:=x;exact Ap e
 | xd fs=>obtain⟨_,⟨_,_,_,e,_⟩,_⟩:=x;exact Ap e
 | rng lo hi=>obtain⟨_,_,_,e⟩:=x;exact Ap e
 | frz ob u=>obtain⟨e,_⟩:=x;exact Ap e
 | tbl ps=>exact Ap (show h.get? a=some _ from x)
 | met f y=>exact Ap (show h.get? a=some _ from x)
 | ext φ=>obtain⟨_,⟨_,e⟩,_⟩:=x;exact Ap e
theorem Paired.mapP {α β:Type}{F G:α->β->Prop}:∀ {l₁:List α} {l₂:List β},Paired F l₁ l₂->(∀ a b,F a b->G a b)->Paired G l₁ l₂
 | _,_,.nil,_=>.nil
 | _,_,.cons r t,f=>.cons (f _ _ r) (Paired.mapP t f)
theorem bP.stay (x:bP P w H h a o)(k:∀ b u,(b=a\/H b=some (.own a))->h.get? b=some u->h'.get? b=some u)
 (ho:∀ b,H b=some (.own a)->H' b=some (.own a)) (ht:∀ b xs,H b=some (.tup xs)->H' b=some (.tup xs)):bP P w H' h' a o:=by
 induction o with
 | lst xs=>obtain⟨z,its,n,r,e⟩:=x;exact⟨z,its,n,r,k _ _ (.inl rfl) e⟩
 | tup xs=>obtain⟨z,its,r,ob,e,c⟩:=x;exact⟨z,its,r,ob,k _ _ (.inl rfl) e,c⟩
 | dK kvs=>obtain⟨z,y,vs,r,ob,es,ep,e,c⟩:=x;exact⟨z,y,vs,r,ob,es,ep,k _ _ (.inl rfl) e,c⟩
 | dT kvs =>
  obtain⟨z,y,xs,r,ob,es,ep,e,c⟩:=x;exact⟨z,y,xs,Paired.mapP r fun p q z=>⟨z.1,ht _ _ z.2.1,z.2.2⟩,ob,es,ep,k _ _ (.inl rfl) e,c⟩
 | set S n=>obtain⟨ob,es,ep,t,e,c⟩:=x;exact⟨ob,es,ep,t,k _ _ (.inl rfl) e,c⟩
 | ins C dx fs =>
  obtain⟨d,z,ne,e,mA,⟨od,es,ep,e2,c⟩,r⟩:=x;exact⟨ho _ d,z,ne,k _ _ (.inl rfl) e,mA,⟨od,es,ep,k _ _ (.inr d) e2,c⟩,r⟩
 | own y=>obtain⟨ob,e⟩:=x;exact⟨ob,k _ _ (.inl rfl) e⟩
 | xd fs=>obtain⟨mA,⟨od,es,ep,e,c⟩,r⟩:=x;exact⟨mA,⟨od,es,ep,k _ _ (.inl rfl) e,c⟩,r⟩
 | rng lo hi=>obtain⟨t,u,v,e⟩:=x;exact⟨t,u,v,k _ _ (.inl rfl) e⟩
 | frz ob u ih=>obtain⟨e,q⟩:=x;exact⟨k _ _ (.inl rfl) e,ih q⟩
 | tbl ps =>
  have e:h.get? a=some { cls:=.none,data:=.fields ps }:=x;show h'.get? a=some { cls:=.none,data:=.fields ps }
  exact k a _ (.inl rfl) e
 | met f y =>
  have e:h.get? a=some (Hi (.ref f) (.ref y)):=x;show h'.get? a=some (Hi (.ref f) (.ref y))
  exact k a _ (.inl rfl) e
 | ext φ=>obtain⟨p,⟨o,e⟩,st⟩:=x;exact⟨st _ _ p fun o q=>k _ _ (.inl rfl) q,⟨o,k _ _ (.inl rfl) e⟩,st⟩
theorem HOk.lt (x:HOk P w H h)(e:H a=some o):a<h.objs.size:=(x a o e).lt
theorem HOk.fresh (x:HOk P w H h)(e:h.objs.size<=a):H a=none:=by
 cases q:H a with
 | none=>rfl
 | some u=>exact absurd (An (x.lt q) e) (Ef _)
theorem HOk.kept (x:HOk P w H h)(k:∀ b u,h.get? b=some u->h'.get? b=some u):HOk P w H h':=fun a o e =>
 (x a o e).stay (fun b u _ q=>k b u q) (fun _ q=>q) fun _ _ q=>q
theorem HOk.laid (x:HOk P w H h)(k:∀ b u,h.get? b=some u->h'.get? b=some u)(hp:h.objs.size<=a)(new:bP P w (upd H a o) h' a o):HOk P w (upd H a o) h':=fun b u e=>by
 have hn:=x.fresh hp;by_cases hb:b=a
 · subst hb;rw[aX]at e;cases e;exact new
 · rw[aH hb]at e
   exact(x b u e).stay (fun c v _ q=>k c v q) (fun c q=>by rw[aH (aZ q hn)];exact q) fun c xs q=>by rw[aH (aZ q hn)];exact q
end
def Rd (H:Hp)(a:Addr)(u:HO):Prop:=H a=some u\/∃ o,H a=some (.frz o u)
theorem Rd.of {H:Hp}{a:Addr}{u:HO}(h:H a=some u):Rd H a u:=.inl h
theorem Rd.ok {P:Program}{w:World}{H:Hp}{h:Heap}{a:Addr}{u:HO}(r:Rd H a u)(x:HOk P w H h):bP P w H h a u:=by
 rcases r with r | ⟨o,r⟩
 · exact x a u r
 · obtain⟨_,q⟩:=x a _ r
   exact q
def Mut:Option HO->Prop
 | some (.lst _)=>True
 | some (.dK _)=>True
 | some (.dT _)=>True
 | some (.set _ _)=>True
 | some (.ins _ _ _)=>True
 | some (.ext _)=>True
 | _=>False
section
variable {P:Program}{w:World}{H:Hp}{h h':Heap}{x e:Addr}{o':HO}
theorem HOk.write (ok:HOk P w H h)(mu:Mut (H x))(he:e=x\/H e=some (.own x))(k:∀ b u,b≠e->h.get? b=some u->h'.get? b=some u)(heo:∃ u,h'.get? e=some u)
 (new:bP P w (upd H x o') h' x o'):HOk P w (upd H x o') h':=fun b u q=>by
 have nown:∀ c y,H c=some (.own y)->c≠x:=fun c y r z=>by subst z;rw[r]at mu;exact mu
 have ntup:∀ c xs,H c=some (.tup xs)->c≠x:=fun c xs r z=>by subst z;rw[r]at mu;exact mu
 by_cases hb:b=x
 · subst hb;rw[aX]at q;cases q;exact new
 · rw[aH hb]at q
   by_cases hbe:b=e
   · have q':H b=some (.own x):=by
      rcases he with z | z
      · exact absurd (hbe.trans z) hb
      · rw[hbe];exact z
     rw[q]at q';cases q';obtain⟨v,hv⟩:=heo;exact⟨v,by rw[hbe];exact hv⟩
   · refine(ok b u q).stay (fun c v hc r=>k c v ?_ r) (fun c r=>by rw[aH (nown c b r)];exact r) fun c xs r=>by rw[aH (ntup c xs r)];exact r
     rcases hc with rfl | hc
     · exact hbe
     · rintro rfl
       rcases he with z | z
       · exact nown c b hc z
       · rw[hc]at z;cases z;exact hb rfl
end
structure Un (fs ex:List Addr)(H H':Hp)(h h':Heap):Prop where
 keep:∀ b o,h.get? b=some o->H b=none->b∉fs->b∉ex->h'.get? b=some o
 slot:∀ b o,h.get? b=some o->H b=none->b∈fs->b∉ex->∃ sl,h'.get? b=some { o with slots:=sl }
 free:∀ b o,h.get? b=some o->H b=none->b∉ex->H' b=none
 there:∀ b o,h.get? b=some o->b∉ex->∃ o',h'.get? b=some o'
 tups:∀ b xs,H b=some (.tup xs)->H' b=some (.tup xs)
 frzs:∀ b o u,H b=some (.frz o u)->H' b=some (.frz o u)
 tbls:∀ b ps,H b=some (.tbl ps)->∃ more,H' b=some (.tbl (ps++more))
section
variable {fs fs' ex ex':List Addr}{H H1 H2:Hp}{h h1 h2 h':Heap}{a x e:Addr}{o:HO}
theorem Un.any (u:Un fs ex H H1 h h1){b:Addr}{ob:Obj}(q:h.get? b=some ob)(n:H b=none)(hx:b∉ex):∃ sl,h1.get? b=some { ob with slots:=sl }:=by
 by_cases hb:b∈fs
 · exact u.slot b ob q n hb hx
 · exact⟨ob.slots,u.keep b ob q n hb hx⟩
theorem Un.kept (k:∀ b u,h.get? b=some u->h'.get? b=some u):Un fs ex H H h h' :=
 ⟨fun b ob q _ _ _=>k b ob q,fun b ob q _ _ _=>⟨ob.slots,k b ob q⟩,fun _ _ _ n _=>n,fun b ob q _=>⟨ob,k b ob q⟩,fun _ _ q=>q,fun _ _ _ q=>q,fun _ ps q=>⟨#[],by rw[q];simp⟩⟩
theorem Un.refl:Un fs ex H H h h:=Un.kept fun _ _ q=>q
theorem Un.laid (k:∀ b u,h.get? b=some u->h'.get? b=some u)(hp:h.objs.size<=a)(hn:H a=none):Un fs ex H (upd H a o) h h' where
 keep:=fun b u q _ _ _=>k b u q
 slot:=fun b u q _ _ _=>⟨u.slots,k b u q⟩
 free:=fun b u q n _=>by rw[aH (Bq (An (Ap q) hp))];exact n
 there:=fun b u q _=>⟨u,k b u q⟩
 tups:=fun b xs q=>by rw[aH (aZ q hn)];exact q
 frzs:=fun b u xs q=>by rw[aH (aZ q hn)];exact q
 tbls:=fun b ps q=>⟨#[],by rw[aH (aZ q hn),q];simp⟩
theorem Un.write (mu:Mut (H x))(he:e=x\/H e=some (.own x))(k:∀ b u,b≠e->h.get? b=some u->h'.get? b=some u)(heo:∃ u,h'.get? e=some u):Un fs ex H (upd H x o) h h':=by
 have hx:∀ b,H b=none->b≠x:=fun b n z=>by subst z;rw[n]at mu;exact mu
 have hb:∀ b,H b=none->b≠e:=fun b n z=>by
  subst z;rcases he with r | r
  · exact hx b n r
  · rw[n]at r;cases r
 have hm:∀ b u,H b=some u->¬ Mut (some u)->b≠x:=fun b u q nm z=>by subst z;rw[q]at mu;exact nm mu
 refine⟨fun b u q n _ _=>k b u (hb b n) q,fun b u q n _ _=>⟨u.slots,k b u (hb b n) q⟩,fun b u q n _=>by rw[aH (hx b n)];exact n,fun b u q _=>?_,
  fun b xs q=>by rw[aH (hm b _ q fun z=>z)];exact q,fun b u xs q=>by rw[aH (hm b _ q fun z=>z)];exact q,fun b ps q=>⟨#[],by rw[aH (hm b _ q fun z=>z),q];simp⟩⟩
 by_cases hbe:b=e
 · subst hbe;exact heo
 · exact⟨u,k b u hbe q⟩
end
def trk (h:Heap)(H:Hp):List Addr:=(Af h.objs.size).filter fun a=>(H a).isSome
def yU (h:Heap)(H:Hp):Heap:=PySem.W.hideAll h (trk h H)
theorem aFw (h:Heap)(H:Hp):(yU h H).objs.size=h.objs.size:=PySem.W.hideAll_size _ _
theorem aKj {h:Heap}{H:Hp}{b:Addr}{o:Obj}(e:h.get? b=some o)(n:H b=none):(yU h H).get? b=some o :=
 PySem.W.hideAll_get _ e fun hm=>by
  have q:(H b).isSome=true:=(Ck.mp hm).2;rw[n]at q;simp at q
theorem aKt {h:Heap}{H:Hp}{b:Addr}{o:Obj}(e:(yU h H).get? b=some o):h.get? b=some o/\H b=none:=by
 have e':h.get? b=some o:=PySem.W.of_hideAll (trk h H) e;refine⟨e',?_⟩
 cases q:H b with
 | none=>rfl
 | some x =>
  have hm:b∈trk h H:=Ck.mpr ⟨Bp.mpr (Ap e'),by simp[q]⟩
  have z:(yU h H).get? b=none:=PySem.W.hideAll_none (trk h H) hm;rw[z]at e;cases e
end L2
namespace L2
open PySem PySem.Spec PyProof.Rows
structure Mod (K:PySem.W.Frag)(mg:Str->Option Value)(base:Heap):Prop where
 kin:K.In base
 glob:base.Ns mainGlobals mg
 blt:∃ mb,base.Ns builtinsNs mb/\∀ x:Str,x ≠ "__name__"->mb x=bootBuiltins x
 nolimit:base.NoLimit
structure Cx where
 prog:Program
 w:World
 K:PySem.W.Frag
 mg:Str->Option Value
 base:Heap
 A:Around
 N:List Str
 s₀:Shared
 H₀:Hp
 env:Env
 outer:List Env
 stack:List Env
 ex:List Addr
 fn:Str->Bool
 calm:Bool
 pn:List (Addr×Obj)
 xe:Value->Shared->Prop
def frs (l:List Env):List Addr:=l.filterMap (·.frame)
abbrev Cx.fs (X:Cx):List Addr:=frs X.outer
def Vis (sc:Scope)(x:Str):Prop:=sc.names.lookup x=some .local\/sc.names.lookup x=some .cell\/sc.names.lookup x=some .free
def Loc (sc:Scope)(x:Str):Prop:=sc.names.lookup x=some .local\/sc.names.lookup x=some .cell
def aV8 (env:Env)(h:Heap)(m:Str->Option Value)(x:Str)(u:Value):Prop :=
 (env.kindOf x=some .local/\m x=some u)\/((env.kindOf x=some .cell\/env.kindOf x=some .free)/\∃ c,env.cells.lookup x=some c/\h.IsCell c (some u))
structure Cx.Ok (X:Cx):Prop where
 mod:Mod X.K X.mg X.base
 kind:X.env.scope.kind=.function
 glob:X.env.globals=mainGlobals
 blt:X.env.builtins=builtinsNs
 above:X.s₀.heap.objs.size<=X.env.locals
 inj:∀ x y c,X.env.cells.lookup x=some c->X.env.cells.lookup y=some c->x=y
 has:∀ x,(X.env.kindOf x=some .cell\/X.env.kindOf x=some .free)->∃ c,X.env.cells.lookup x=some c
 cab:∀ x c,X.fn x=true->X.env.cells.lookup x=some c->X.s₀.heap.objs.size<=c
 hd:X.calm=true->X.A.handled=none
 frames:X.A.frames=some X.stack
 stk:X.stack=X.outer\/(X.stack=X.env :: X.outer/\X.env.frame=some X.env.locals)
 exf:∀ b∈X.ex,b≠X.env.locals/\∀ x c,X.env.cells.lookup x=some c->c≠b
 bs:∀ b o,X.base.get? b=some o->X.s₀.heap.get? b=some o/\X.H₀ b=none
 bsz:X.base.objs.size<=X.s₀.heap.objs.size
 noex:∀ b o,X.base.get? b=some o->b∉X.ex
 exfs:∀ b∈X.ex,b∉X.fs
 funs:X.s₀.heap.FunFrames X.base X.outer
 frf:∀ b∈X.fs,X.H₀ b=none
structure Inv (X:Cx)(pins:List (Addr×Obj))(σ:List (Option V))(H:Hp)(s:Shared):Prop where
 ok:X.Ok
 os:s.os=X.s₀.os
 bare:AllBare s.gens
 base:Un X.fs X.ex X.H₀ H X.s₀.heap s.heap
 loc:∃ m,s.heap.Ns X.env.locals m/\∀ (i:Nat) (x:Str) (v:V),X.N[i]?=some x->σ[i]?=some (some v)->Vis X.env.scope x->∃ u,bF v u/\aV8 X.env s.heap m x u
 cell:∀ x c,X.env.cells.lookup x=some c->∃ v,s.heap.IsCell c v
 free:H X.env.locals=none
 freeC:∀ x c,X.env.cells.lookup x=some c->H c=none
 pin:∀ p∈X.pn++pins,s.heap.get? p.1=some p.2/\H p.1=none/\p.1≠X.env.locals/\p.1∉X.fs/\∀ v,p.2.data≠.cell v
 hok:HOk X.prog X.w H s.heap
 len:σ.length=X.N.length
section
variable {X:Cx}{pins:List (Addr×Obj)}{σ:List (Option V)}{H H':Hp}{s:Shared}{h':Heap}
theorem Cx.Ok.nofr (ok:X.Ok){b:Addr}{o:Obj}(e:X.base.get? b=some o):b∉X.fs:=fun hb=>by
 have:=(ok.funs.mem hb).1
 rw[e]at this;cases this
theorem Inv.bs (I:Inv X pins σ H s):∀ b o,X.base.get? b=some o->s.heap.get? b=some o/\H b=none:=fun b o e =>
 ⟨I.base.keep b o (I.ok.bs b o e).1 (I.ok.bs b o e).2 (I.ok.nofr e) (I.ok.noex b o e),I.base.free b o (I.ok.bs b o e).1 (I.ok.bs b o e).2 (I.ok.noex b o e)⟩
theorem Inv.bk (I:Inv X pins σ H s):∀ b o,X.base.get? b=some o->s.heap.get? b=some o:=fun b o e=>(I.bs b o e).1
theorem Inv.mod (I:Inv X pins σ H s):Mod X.K X.mg X.base:=I.ok.mod
theorem Inv.kIn (I:Inv X pins σ H s):X.K.In s.heap:=I.ok.mod.kin.keeps I.bk
theorem Inv.fr (I:Inv X pins σ H s):∃ m,Fr X.base X.env.locals s.heap m :=
 let ⟨m,hn,_⟩:=I.loc
 ⟨m,hn,I.bk,Bj I.ok.bsz I.ok.above⟩
theorem Inv.lt (I:Inv X pins σ H s):X.env.locals<s.heap.objs.size:=let ⟨_,hn,_⟩:=I.loc;hn.lt
theorem Inv.sz (I:Inv X pins σ H s):X.s₀.heap.objs.size<=s.heap.objs.size:=Bj I.ok.above (En I.lt)
theorem Inv.nofs (I:Inv X pins σ H s){a:Addr}(h:s.heap.objs.size<=a):a∉X.fs:=fun hb=>by
 obtain⟨_,o,ho,_⟩:=I.ok.funs.mem hb;exact absurd (An (Ap ho) (Bj I.sz h)) (Ef _)
theorem Inv.cne (I:Inv X pins σ H s):∀ x c,X.env.cells.lookup x=some c->c≠X.env.locals:=fun x c e z=>by
 obtain⟨v,o,ho,hd⟩:=I.cell x c e;obtain⟨m,⟨o',es,ep,ho',hd',_⟩,_⟩:=I.loc;rw[z,ho']at ho;cases ho;rw[hd']at hd;cases hd
theorem Inv.funs (I:Inv X pins σ H s):s.heap.FunFrames X.base X.outer:=by
 have all:∀ (l:List Env),(∀ b∈frs l,b∈X.fs)->X.s₀.heap.FunFrames X.base l->s.heap.FunFrames X.base l:=by
  intro l;induction l with
  | nil=>intro _ _;trivial
  | cons env r ih =>
   intro hs hl;obtain⟨hk,⟨L,o,hf,hn,ho,hd⟩,hr⟩:=hl;have hL:L∈X.fs:=hs L (by unfold frs;rw[Fo,hf];exact Ab)
   obtain⟨sl,e⟩:=I.base.slot L o ho (I.ok.frf L hL) hL fun z=>I.ok.exfs L z hL;exact⟨hk,⟨L,_,hf,hn,e,hd⟩,ih (fun b hb=>hs b (by unfold frs;rw[Fo,hf];exact Ac _ hb)) hr⟩
 exact all X.outer (fun _ hb=>hb) I.ok.funs
theorem Inv.stack (I:Inv X pins σ H s):s.heap.FunFrames X.base X.stack:=by
 rcases I.ok.stk with e | ⟨e,hf⟩
 · rw[e];exact I.funs
 · rw[e]
   obtain⟨m,hn,_⟩:=I.loc;refine .cons (by rw[I.ok.kind];decide) hf hn ?_ I.funs
   exact Heap.get?_none_of_le (Bj I.ok.bsz I.ok.above)
theorem Inv.stkSub (I:Inv X pins σ H s):∀ b∈frs X.stack,b∈X.env.locals :: X.fs:=fun b hb=>by
 rcases I.ok.stk with e | ⟨e,hf⟩
 · rw[e]at hb;exact Ac _ hb
 · rw[e]at hb
   unfold frs at hb;rw[Fo,hf]at hb;exact hb
theorem Inv.stkFree (I:Inv X pins σ H s):∀ b∈frs X.stack,H b=none:=fun b hb=>by
 rcases Aj.mp (I.stkSub b hb) with e | hb
 · rw[e];exact I.free
 · obtain⟨_,o,ho,_⟩:=I.ok.funs.mem hb
   exact I.base.free b o ho (I.ok.frf b hb) fun z=>I.ok.exfs b z hb
theorem Inv.step {g':Array GenState}{t':Nat}{d':Drawn}{ch:List Addr}(I:Inv X pins σ H s)
 (hch:∀ b∈ch,(b∈X.ex\/X.s₀.heap.objs.size<=b)/\b≠X.env.locals/\(∀ x c,X.env.cells.lookup x=some c->c≠b)/\∀ p∈X.pn++pins,p.1≠b)
 (keep:∀ b o,b≠X.env.locals->b∉X.fs->b∉ch->s.heap.get? b=some o->H b=none->h'.get? b=some o)
 (slot:∀ b o,b≠X.env.locals->b∈X.fs->b∉ch->s.heap.get? b=some o->H b=none->∃ sl,h'.get? b=some { o with slots:=sl }) (free:∀ b o,b∉ch->s.heap.get? b=some o->H b=none->H' b=none)
 (there:∀ b o,b∉ch->s.heap.get? b=some o->∃ o',h'.get? b=some o')
 (tups:∀ b xs,H b=some (.tup xs)->H' b=some (.tup xs)) (frzs:∀ b o u,H b=some (.frz o u)->H' b=some (.frz o u)) (tbls:∀ b ps,H b=some (.tbl ps)->∃ more,H' b=some (.tbl (ps++more)))
 (ns:∀ m,s.heap.Ns X.env.locals m->h'.Ns X.env.locals m) (hok:HOk X.prog X.w H' h') (hg:AllBare g') :
 Inv X pins σ H' { s with heap:=h',gens:=g',drawn:=d',toks:=t' }:=by
 have neL:∀ b o,X.s₀.heap.get? b=some o->b≠X.env.locals:=fun b o e=>Bq (An (Ap e) I.ok.above)
 have neC:∀ b o,X.s₀.heap.get? b=some o->b∉X.ex->b∉ch:=fun b o e hx hb=>by
  rcases (hch b hb).1 with z | z
  · exact hx z
  · exact absurd (An (Ap e) z) (Ef _)
 have cellK:∀ x c,X.env.cells.lookup x=some c->∀ v,s.heap.IsCell c v->h'.IsCell c v:=fun x c e v ⟨o,ho,hd⟩=>by
  have nch:c∉ch:=fun z=>(hch c z).2.2.1 x c e rfl;by_cases hc:c∈X.fs
  · obtain⟨sl,q⟩:=slot c o (I.cne x c e) hc nch ho (I.freeC x c e)
    exact⟨_,q,hd⟩
  · exact⟨o,keep c o (I.cne x c e) hc nch ho (I.freeC x c e),hd⟩
 refine⟨I.ok,I.os,hg,⟨fun b o e n hb hx=>?_,fun b o e n hb hx=>?_,fun b o e n hx=>?_,fun b o e hx=>?_,fun b xs e=>tups b xs (I.base.tups b xs e),fun b o xs e=>frzs b o xs (I.base.frzs b o xs e),fun b ps e=>?_⟩,?_,fun x c e=>?_,?_,fun x c e=>?_,fun p hp=>?_,hok,I.len⟩
 · exact keep b o (neL b o e) hb (neC b o e hx) (I.base.keep b o e n hb hx) (I.base.free b o e n hx)
 · obtain⟨sl,e1⟩:=I.base.slot b o e n hb hx
   obtain⟨sl',e2⟩:=slot b _ (neL b o e) hb (neC b o e hx) e1 (I.base.free b o e n hx);exact⟨sl',e2⟩
 · obtain⟨o',e1⟩:=I.base.there b o e hx
   exact free b o' (neC b o e hx) e1 (I.base.free b o e n hx)
 · obtain⟨o',e1⟩:=I.base.there b o e hx
   exact there b o' (neC b o e hx) e1
 · obtain⟨m1,e1⟩:=I.base.tbls b ps e
   obtain⟨m2,e2⟩:=tbls b _ e1;exact⟨m1++m2,by rw[e2,Array.append_assoc]⟩
 · obtain⟨m,hn,hl⟩:=I.loc
   refine⟨m,ns m hn,fun i x v e1 e2 e3=>?_⟩
   obtain⟨u,r,l⟩:=hl i x v e1 e2 e3;refine⟨u,r,?_⟩
   rcases l with l | ⟨k,c,e,z⟩
   · exact .inl l
   · exact .inr ⟨k,c,e,cellK x c e _ z⟩
 · obtain⟨v,z⟩:=I.cell x c e
   exact⟨v,cellK x c e v z⟩
 · obtain⟨m,⟨o,_,_,ho,_⟩,_⟩:=I.loc
   exact free _ o (fun z=>(hch _ z).2.1 rfl) ho I.free
 · obtain⟨v,o,ho,hd⟩:=I.cell x c e
   exact free c o (fun z=>(hch c z).2.2.1 x c e rfl) ho (I.freeC x c e)
 · obtain⟨e,n,ne,nf,d⟩:=I.pin p hp
   have nch:p.1∉ch:=fun z=>(hch p.1 z).2.2.2 p hp rfl;exact⟨keep p.1 p.2 ne nf nch e n,free p.1 p.2 nch e n,ne,nf,d⟩
theorem Inv.un {t':Nat}(I:Inv X pins σ H s)(u:Un X.fs [] H H' s.heap h')(hok:HOk X.prog X.w H' h'):Inv X pins σ H' { s with heap:=h',toks:=t' }:=by
 obtain⟨m,⟨o,es,ep,ho,r⟩,_⟩:=id I.loc;obtain⟨sl,hL⟩:=u.any ho I.free (by simp)
 exact I.step (g':=s.gens) (d':=s.drawn) (ch:=[]) (fun _ z=>nomatch z) (fun b o _ hb _ e n=>u.keep b o e n hb (by simp)) (fun b o _ hb _ e n=>u.slot b o e n hb (by simp)) (fun b o _ e n=>u.free b o e n (by simp)) (fun b o _ e=>u.there b o e (by simp)) u.tups u.frzs u.tbls (fun m' hm=>by
  obtain⟨o',es',ep',ho',r'⟩:=hm;rw[ho]at ho';cases ho'
  exact⟨_,es',ep',hL,r'⟩) hok I.bare
theorem Inv.call {g':Array GenState}{t':Nat}{d':Drawn}{ch:List Addr}(I:Inv X pins σ H s)(u:Un (frs X.stack) ch H H' s.heap h')(hok:HOk X.prog X.w H' h')(hg:AllBare g')
 (hch:∀ b∈ch,(b∈X.ex\/X.s₀.heap.objs.size<=b)/\b≠X.env.locals/\(∀ x c,X.env.cells.lookup x=some c->c≠b)/\∀ p∈X.pn++pins,p.1≠b) :
 Inv X pins σ H' { s with heap:=h',gens:=g',drawn:=d',toks:=t' }:=by
 obtain⟨m,⟨o,es,ep,ho,r⟩,_⟩:=id I.loc;obtain⟨sl,hL⟩:=u.any ho I.free fun z=>(hch _ z).2.1 rfl
 exact I.step (ch:=ch) hch (fun b o hL hb hc e n=>u.keep b o e n (fun z=>(Aj.mp (I.stkSub b z)).elim hL hb) hc) (fun b o _ _ hc e n=>u.any e n hc) (fun b o hc e n=>u.free b o e n hc) (fun b o hc e=>u.there b o e hc) u.tups u.frzs u.tbls (fun m' hm=>by
  obtain⟨o',es',ep',ho',r'⟩:=hm;rw[ho]at ho';cases ho'
  exact⟨_,es',ep',hL,r'⟩) hok hg
theorem Inv.turned {t':Nat}{it:Addr}(I:Inv X pins σ H s)(k:∀ b o,b≠it->s.heap.get? b=some o->h'.get? b=some o)(hn:H it=none)(hL:it≠X.env.locals)
 (h1:it∈X.ex\/X.s₀.heap.objs.size<=it) (h2:∀ x c,X.env.cells.lookup x=some c->c≠it) (h3:∀ p∈X.pn++pins,p.1≠it):Inv X pins σ H { s with heap:=h',toks:=t' }:=by
 have nit:∀ b u,H b=some u->b≠it:=fun b u e z=>by rw[z,hn]at e;cases e
 refine I.step (g':=s.gens) (d':=s.drawn) (ch:=[it]) (fun b hb=>?_) (fun b o _ _ hc e _=>k b o (fun z=>hc (by simp[z])) e) (fun b o _ _ hc e _=>⟨o.slots,k b o (fun z=>hc (by simp[z])) e⟩) (fun _ _ _ _ n=>n)
  (fun b o hc e=>⟨o,k b o (fun z=>hc (by simp[z])) e⟩) (fun _ _ e=>e) (fun _ _ _ e=>e) (fun b ps e=>⟨#[],by rw[e];simp⟩) (fun m hm=>?_) (fun b u e=>?_) I.bare
 · have e:b=it:=by simpa using hb
   subst e;exact⟨h1,hL,h2,h3⟩
 · obtain⟨o,es,ep,ho,r⟩:=hm
   exact⟨o,es,ep,k _ o (Ne.symm hL) ho,r⟩
 · refine(I.hok b u e).stay (fun c v hc q=>k c v ?_ q) (fun _ q=>q) fun _ _ q=>q
   rcases hc with z | z
   · rw[z];exact nit b u e
   · exact nit c _ z
theorem Inv.tok (I:Inv X pins σ H s)(t:Nat):Inv X pins σ H { s with toks:=t }:=I.un (h':=s.heap) (t':=t) Un.refl I.hok
theorem Inv.kept {t':Nat}(I:Inv X pins σ H s)(k:∀ b u,s.heap.get? b=some u->h'.get? b=some u):Inv X pins σ H { s with heap:=h',toks:=t' }:=I.un (Un.kept k) (I.hok.kept k)
theorem Inv.laid {a:Addr}{o:HO}{t':Nat}(I:Inv X pins σ H s)(k:∀ b u,s.heap.get? b=some u->h'.get? b=some u)(hp:s.heap.objs.size<=a)(new:bP X.prog X.w (upd H a o) h' a o) :
 Inv X pins σ (upd H a o) { s with heap:=h',toks:=t' }:=I.un (Un.laid k hp (I.hok.fresh hp)) (I.hok.laid k hp new)
theorem Inv.write {x e:Addr}{o:HO}{t':Nat}(I:Inv X pins σ H s)(mu:Mut (H x))(he:e=x\/H e=some (.own x))(k:∀ b u,b≠e->s.heap.get? b=some u->h'.get? b=some u)(heo:∃ u,h'.get? e=some u)
 (new:bP X.prog X.w (upd H x o) h' x o):Inv X pins σ (upd H x o) { s with heap:=h',toks:=t' }:=I.un (Un.write mu he k heo) (I.hok.write mu he k heo new)
theorem Inv.weak {σ':List (Option V)}(I:Inv X pins σ H s)(hl:σ'.length=σ.length)(w:∀ (i:Nat) v,σ'[i]?=some (some v)->σ[i]?=some (some v)):Inv X pins σ' H s :=
 ⟨I.ok,I.os,I.bare,I.base,let ⟨m,hn,hl'⟩:=I.loc;⟨m,hn,fun i x v e1 e2 e3=>hl' i x v e1 (w i v e2) e3⟩,I.cell,I.free,I.freeC,I.pin,I.hok,hl.trans I.len⟩
theorem Inv.pins_of {pins':List (Addr×Obj)}(I:Inv X pins σ H s)(h:∀ p∈pins',s.heap.get? p.1=some p.2/\H p.1=none/\p.1≠X.env.locals/\p.1∉X.fs/\∀ v,p.2.data≠.cell v):Inv X pins' σ H s :=
 ⟨I.ok,I.os,I.bare,I.base,I.loc,I.cell,I.free,I.freeC,fun p hp=>(Av.mp hp).elim (fun z=>I.pin p (Dl _ z)) (h p),I.hok,I.len⟩
theorem aBt {N:List Str}(hN:N.Nodup){i j:Nat}{x:Str}(a:N[i]?=some x)(b:N[j]?=some x):i=j:=by
 obtain⟨h1,e1⟩:=Bl.mp a;obtain⟨h2,e2⟩:=Bl.mp b;exact(List.getElem_inj hN).mp (e1.trans e2.symm)
theorem aFp {M:Model}{A:Around}{E:Value->Shared->Prop}{i:Nat}{x:Str}{v:V}{u:Value}{Q:Unit->Shared->Prop}(I:Inv X pins σ H s)(hN:X.N.Nodup)(hi:X.N[i]?=some x)(hx:Loc X.env.scope x)(r:bF v u)
 (h:∀ s',Inv X pins (σ.set i (some v)) H s'->(∃ a,Heap.SameBut a s.heap s'.heap/\(a=X.env.locals\/X.env.cells.lookup x=some a))->Q () s') (hf:X.fn x=true\/X.env.scope.names.lookup x=some .local:=by first | exact .inl rfl | exact .inr rfl | assumption):wpAny M A (storeName X.env x u) Q E s:=by
 obtain⟨m,hn,hl⟩:=id I.loc;have hcls:(X.env.scope.kind==.class||(X.env.scope.kind==.module&&X.env.locals != X.env.globals))=false:=by rw[I.ok.kind];rfl
 have hiσ:i<σ.length:=by rw[I.len];exact(Bl.mp hi).1
 have cne:=I.cne
 have tracked:∀ {a:Addr} {h':Heap},(∃ o,s.heap.get? a=some o/\H a=none)->Heap.SameBut a s.heap h'->HOk X.prog X.w H h':=fun {a h'} ha hs b ob e=>by
  obtain⟨_,_,hfree⟩:=ha;refine(I.hok b ob e).stay (fun c w' hc q=>(hs.2 c ?_).trans q) (fun _ q=>q) fun _ _ q=>q
  rintro rfl
  rcases hc with rfl | hc
  · rw[hfree]at e;cases e
  · rw[hfree]at hc;cases hc
 rcases hx with hk | hk
 · refine wpAny_storeName_local hk hn (fun h' hn' hs=>?_) hcls
   obtain⟨oL,_,_,hoL,_⟩:=id hn;refine h _ ⟨I.ok,I.os,I.bare,⟨fun b o e n hb hx=>?_,fun b o e n hb hx=>?_,I.base.free,fun b o e hx=>?_,I.base.tups,I.base.frzs,I.base.tbls⟩,⟨_,hn',fun j y v' e1 e2 e3=>?_⟩,fun y c e=>?_,I.free,I.freeC,fun p hp=>?_,tracked ⟨oL,hoL,I.free⟩ hs,by simpa using I.len⟩ ⟨_,hs,.inl rfl⟩
   · exact(hs.2 b (Bq (An (Ap e) I.ok.above))).trans (I.base.keep b o e n hb hx)
   · obtain⟨sl,e1⟩:=I.base.slot b o e n hb hx
     exact⟨sl,(hs.2 b (Bq (An (Ap e) I.ok.above))).trans e1⟩
   · obtain⟨o',e1⟩:=I.base.there b o e hx
     exact⟨o',(hs.2 b (Bq (An (Ap e) I.ok.above))).trans e1⟩
   · by_cases hj:j=i
     · subst hj
       rw[hi]at e1;cases e1;rw[Bd hiσ]at e2;cases e2;exact⟨u,r,.inl ⟨hk,by simp⟩⟩
     · rw[Ay (Ne.symm hj)]at e2
       obtain⟨u',r',q⟩:=hl j y v' e1 e2 e3;refine⟨u',r',?_⟩
       rcases q with ⟨k,e⟩ | ⟨k,c,e,z⟩
       · refine .inl ⟨k,?_⟩
         have:y≠x:=fun e=>hj (aBt hN e1 (e▸hi))
         simp[this,e]
       · exact .inr ⟨k,c,e,z.sameBut hs (cne y c e)⟩
   · obtain⟨w',z⟩:=I.cell y c e
     exact⟨w',z.sameBut hs (cne y c e)⟩
   · obtain⟨e,n,ne,nf,d⟩:=I.pin p hp
     exact⟨(hs.2 p.1 ne).trans e,n,ne,nf,d⟩
 · have hfn:X.fn x=true:=by
    rcases hf with z | z
    · exact z
    · rw[z]at hk;cases hk
   obtain⟨c,hc⟩:=I.ok.has x (.inl hk);obtain⟨w',z⟩:=I.cell x c hc;refine wpAny_storeName_cell I.ok.kind hk hc z (fun h' hc' hs=>?_)
   obtain⟨oc,hoc,hocd⟩:=id z;refine h { s with heap:=h' } ⟨I.ok,I.os,I.bare,⟨fun b o e n hb hx=>?_,fun b o e n hb hx=>?_,I.base.free,fun b o e hx=>?_,I.base.tups,I.base.frzs,I.base.tbls⟩,⟨m,hn.sameBut hs (Ne.symm (cne x c hc)),fun j y v' e1 e2 e3=>?_⟩,fun y c' e=>?_,I.free,I.freeC,fun p hp=>?_,tracked ⟨oc,hoc,I.freeC x c hc⟩ hs,by simpa using I.len⟩ ⟨c,hs,.inr hc⟩
   · exact(hs.2 b (Bq (An (Ap e) (I.ok.cab x c hfn hc)))).trans (I.base.keep b o e n hb hx)
   · obtain⟨sl,e1⟩:=I.base.slot b o e n hb hx
     exact⟨sl,(hs.2 b (Bq (An (Ap e) (I.ok.cab x c hfn hc)))).trans e1⟩
   · obtain⟨o',e1⟩:=I.base.there b o e hx
     exact⟨o',(hs.2 b (Bq (An (Ap e) (I.ok.cab x c hfn hc)))).trans e1⟩
   · by_cases hj:j=i
     · subst hj
       rw[hi]at e1;cases e1;rw[Bd hiσ]at e2;cases e2;exact⟨u,r,.inr ⟨.inl hk,c,hc,hc'⟩⟩
     · rw[Ay (Ne.symm hj)]at e2
       obtain⟨u',r',q⟩:=hl j y v' e1 e2 e3;refine⟨u',r',?_⟩
       rcases q with q | ⟨k,c',e,z'⟩
       · exact .inl q
       · refine .inr ⟨k,c',e,z'.sameBut hs ?_⟩
         rintro rfl
         exact hj (aBt hN e1 (I.ok.inj _ _ _ e hc▸hi))
   · by_cases hcc:c'=c
     · subst hcc;exact⟨_,hc'⟩
     · obtain⟨w2,z2⟩:=I.cell y c' e
       exact⟨w2,z2.sameBut hs hcc⟩
   · obtain⟨e,n,ne,nf,d⟩:=I.pin p hp
     refine⟨(hs.2 p.1 ?_).trans e,n,ne,nf,d⟩
     intro q;rw[q,hoc]at e;have q':oc=p.2:=Cw.inj e;exact d w' (by rw[←q'];exact hocd)
theorem lI {M:Model}{A:Around}{E:Value->Shared->Prop}{i:Nat}{x:Str}{v:V}{u:Value}{Q:Unit->Shared->Prop}(I:Inv X pins σ H s)(hN:X.N.Nodup)(hi:X.N[i]?=some x)(hx:Loc X.env.scope x)(r:bF v u)
 (h:∀ s',Inv X pins (σ.set i (some v)) H s'->Q () s') (hf:X.fn x=true\/X.env.scope.names.lookup x=some .local:=by first | exact .inl rfl | exact .inr rfl | assumption):wpAny M A (storeName X.env x u) Q E s :=
 aFp I hN hi hx r (fun s' I' _=>h s' I') hf
theorem Inv.call' {s':Shared}{ch:List Addr}(I:Inv X pins σ H s)(ho:s'.os=s.os)(u:Un (frs X.stack) ch H H' s.heap s'.heap)(hok:HOk X.prog X.w H' s'.heap)(hg:AllBare s'.gens)
 (hch:∀ b∈ch,(b∈X.ex\/X.s₀.heap.objs.size<=b)/\b≠X.env.locals/\(∀ x c,X.env.cells.lookup x=some c->c≠b)/\∀ p∈X.pn++pins,p.1≠b):Inv X pins σ H' s':=by
 obtain⟨h',g',d',t',o'⟩:=s';have e:o'=s.os:=ho;subst e;exact I.call (g':=g') (t':=t') (d':=d') u hok hg hch
end
abbrev XK:=Value->Option Addr->Hp->Prop
abbrev St:=List (Option V)
abbrev VK:=V->Hp->Prop
abbrev TE:=St->Hp->VK->Prop
abbrev TT:=St->Hp->(Bool->Hp->Prop)->Prop
abbrev TA:=St->Hp->(List V->Hp->Prop)->Prop
structure Ends where
 nx:St->Hp->Prop
 rt:VK
 bk:St->Hp->Prop:=fun _ _=>False
 ct:St->Hp->Prop:=fun _ _=>False
abbrev TS:=Ends->St->Hp->Prop
def EP (X:Cx)(pins:List (Addr×Obj))(σ:St)(Q:VK)(u:Value)(s':Shared):Prop:=∃ v H',Inv X pins σ H' s'/\bF v u/\Q v H'
def TP (X:Cx)(pins:List (Addr×Obj))(σ:St)(Q:Bool->Hp->Prop)(b:Bool)(s':Shared):Prop:=∃ H',Inv X pins σ H' s'/\Q b H'
def AP (X:Cx)(pins:List (Addr×Obj))(σ:St)(Q:List V->Hp->Prop)(us:List Value)(s':Shared):Prop:=∃ vs H',Inv X pins σ H' s'/\bA vs us/\Q vs H'
def SP (X:Cx)(pins:List (Addr×Obj))(D:Ends)(f:Flow)(s':Shared):Prop :=
 match f with
 | .next=>∃ σ' H',Inv X pins σ' H' s'/\D.nx σ' H'
 | .brk=>∃ σ' H',Inv X pins σ' H' s'/\D.bk σ' H'
 | .cont=>∃ σ' H',Inv X pins σ' H' s'/\D.ct σ' H'
 | .ret u=>∃ v σ' H',Inv X pins σ' H' s'/\bF v u/\D.rt v H'
def PE (X:Cx)(e:Expr)(t:TE):Prop :=
 ∀ (pins:List (Addr×Obj)) (s:Shared) (σ:St) (H:Hp) (Q:VK),Inv X pins σ H s->t σ H Q->wpAny (model X.prog X.w) X.A (eval e X.env) (EP X pins σ Q) X.xe s
def PT (X:Cx)(e:Expr)(t:TT):Prop :=
 ∀ (pins:List (Addr×Obj)) (s:Shared) (σ:St) (H:Hp) (Q:Bool->Hp->Prop),Inv X pins σ H s->t σ H Q->wpAny (model X.prog X.w) X.A (isTrue e X.env (eval e X.env)) (TP X pins σ Q) X.xe s
def PW (X:Cx)(e:Expr)(t:TT):Prop :=
 ∀ (whole:Sem Value) (pins:List (Addr×Obj)) (s:Shared) (σ:St) (H:Hp) (Q:Bool->Hp->Prop),Inv X pins σ H s->t σ H Q->wpAny (model X.prog X.w) X.A (isTrue e X.env whole) (TP X pins σ Q) X.xe s
theorem PW.pt {X:Cx}{e:Expr}{t:TT}(h:PW X e t):PT X e t:=h _
def PA (X:Cx)(es:List Expr)(t:TA):Prop :=
 ∀ (pos:Pos) (pins:List (Addr×Obj)) (s:Shared) (σ:St) (H:Hp) (Q:List V->Hp->Prop),Inv X pins σ H s->t σ H Q->wpAny (model X.prog X.w) X.A (spliced (backTo pos (starEach es X.env))) (AP X pins σ Q) X.xe s
def PS (X:Cx)(st:Stmt)(t:TS):Prop :=
 ∀ (pins:List (Addr×Obj)) (s:Shared) (σ:St) (H:Hp) (D:Ends),Inv X pins σ H s->t D σ H->wpAny (model X.prog X.w) X.A (exec st X.env) (SP X pins D) X.xe s
def PSs (X:Cx)(st:List Stmt)(t:TS):Prop :=
 ∀ (pins:List (Addr×Obj)) (s:Shared) (σ:St) (H:Hp) (D:Ends),Inv X pins σ H s->t D σ H->wpAny (model X.prog X.w) X.A (execs st X.env) (SP X pins D) X.xe s
theorem thn {α:Type}{t:Sem α}{Q Q':α->Shared->Prop}{M:Model}{A:Around}{E:Value->Shared->Prop}{s:Shared}(h:wpAny M A t Q E s)(hQ:∀ a s,Q a s->Q' a s):wpAny M A t Q' E s:=wpAny_mono h hQ fun _ _ x=>x
end L2
namespace L2
open PySem PySem.Spec PyProof.Rows
section
variable {X:Cx}
theorem bin {a b:Expr}{ta tb:TE}(ha:PE X a ta)(hb:PE X b tb){pins:List (Addr×Obj)}{s:Shared}{σ:St}{H:Hp}{R:V->V->Hp->Prop}(I:Inv X pins σ H s)(h:ta σ H fun x H1=>tb σ H1 fun y H2=>R x y H2)
 {α:Type} {Q:α->Shared->Prop} {f:Value->Value->Sem α}
 (hf:∀ v u s2 x y H2,Inv X pins σ H2 s2->bF x v->bF y u->R x y H2->wpAny (model X.prog X.w) X.A (f v u) Q X.xe s2) :
 wpAny (model X.prog X.w) X.A (eval a X.env) (fun v s₁=>wpAny (model X.prog X.w) X.A (eval b X.env) (fun u s₂=>wpAny (model X.prog X.w) X.A (f v u) Q X.xe s₂) X.xe s₁) X.xe s:=by
 refine thn (ha pins s σ H _ I h) fun v s1 ⟨x,H1,I1,r1,q1⟩=>?_
 refine thn (hb pins s1 σ H1 _ I1 q1) fun u s2 ⟨y,H2,I2,r2,q2⟩=>?_
 exact hf v u s2 x y H2 I2 r1 r2 q2
def xK (i:Nat):TE:=fun σ H Q=>∃ v,σ[i]?=some (some v)/\Q v H
def tC (v:V):TE:=fun _ H Q=>Q v H
theorem pO {i:Nat}{x:Str}{pos:Pos}(hN:X.N[i]?=some x)(hv:Vis X.env.scope x)(hd:(x==("__debug__":Str))=false:=by decide)(hcd:(x==("__classdict__":Str))=false:=by decide):PE X (.Name x pos) (xK i):=by
 intro pins s σ H Q I h;obtain⟨v,e,h⟩:=h;obtain⟨m,hn,hl⟩:=I.loc;obtain⟨u,r,l⟩:=hl i x v hN e hv;have fin:EP X pins σ Q u s:=⟨v,H,I,r,h⟩;rcases l with ⟨hk,hm⟩ | ⟨hk,c,hc,hcell⟩
 · exact wpAny_Name (wpAny_loadName_local I.ok.kind hk hn hm fin) hd
 · rcases hk with hk | hk
   · exact wpAny_Name (wpAny_loadName_cell I.ok.kind hk hc hcell fin) hd
   · exact wpAny_Name (wpAny_loadName_free I.ok.kind hk hc hcell fin hcd) hd
theorem aQv {i j pos}:PE X (.Constant (.int i) j pos) (tC (.int i)):=fun _ _ _ H _ I h=>wpAny_Constant_int ⟨.int i,H,I.tok _,⟨_,rfl⟩,h⟩
theorem aU8 {b j pos}:PE X (.Constant (.bool b) j pos) (tC (.bl b)):=fun _ _ _ H _ I h=>Constant_bool ⟨.bl b,H,I,rfl,h⟩
theorem aR6 {j pos}:PE X (.Constant .none j pos) (tC .non):=fun _ _ _ H _ I h=>Constant_none ⟨.non,H,I,rfl,h⟩
def Gl (X:Cx)(x:Str):Prop:=X.env.kindOf x=some .globalImplicit
theorem yK {E:Value->Shared->Prop}{pins:List (Addr×Obj)}{s:Shared}{σ:St}{H:Hp}{x:Str}{u:Value}{pos:Pos}{Q:Value->Shared->Prop}(I:Inv X pins σ H s)(hg:Gl X x)(hm:X.mg x=some u)(h:Q u s)
 (hd:(x==("__debug__":Str))=false:=by decide):wpAny (model X.prog X.w) X.A (eval (.Name x pos) X.env) Q E s :=
 Calls.Name_function_global I.ok.kind hg (Calls.loadGlobal_global (by rw[I.ok.glob];exact I.mod.glob.keeps I.bk) hm h) hd
theorem kK {E:Value->Shared->Prop}{pins:List (Addr×Obj)}{s:Shared}{σ:St}{H:Hp}{x:Str}{u:Value}{pos:Pos}{Q:Value->Shared->Prop}(I:Inv X pins σ H s)(hg:Gl X x)(hm:X.mg x=none)(hv:bootBuiltins x=some u)(h:Q u s)
 (hn:x ≠ "__name__":=by decide) (hd:(x==("__debug__":Str))=false:=by decide):wpAny (model X.prog X.w) X.A (eval (.Name x pos) X.env) Q E s:=by
 obtain⟨mb,h1,h2⟩:=I.mod.blt;exact Calls.Name_function_global I.ok.kind hg (Calls.loadGlobal_builtin (by rw[I.ok.glob];exact I.mod.glob.keeps I.bk) hm (by rw[I.ok.blt];exact h1.keeps I.bk) ((h2 x hn).trans hv) h) hd
theorem aLk {x:Str}{v:V}{u:Value}{pos:Pos}(hg:Gl X x)(hm:X.mg x=some u)(r:bF v u)(hd:(x==("__debug__":Str))=false:=by decide):PE X (.Name x pos) (tC v) :=
 fun _ _ _ H _ I h=>yK I hg hm ⟨v,H,I,r,h⟩ hd
theorem aM8 {x:Str}{v:V}{u:Value}{pos:Pos}(hg:Gl X x)(hm:X.mg x=none)(hv:bootBuiltins x=some u)(r:bF v u)(hn:x ≠ "__name__":=by decide)(hd:(x==("__debug__":Str))=false:=by decide):PE X (.Name x pos) (tC v) :=
 fun _ _ _ H _ I h=>kK I hg hm hv ⟨v,H,I,r,h⟩ hn hd
variable {a b:Expr}{ta tb:TE}{pos:Pos}
def PC (X:Cx)(op:CmpOp)(a b:Expr)(t:TE):Prop :=
 ∀ (pins:List (Addr×Obj)) (s:Shared) (σ:St) (H:Hp) (Q:VK),Inv X pins σ H s->t σ H Q ->
  wpAny (model X.prog X.w) X.A (eval a X.env) (fun v s₁=>wpAny (model X.prog X.w) X.A (eval b X.env) (fun u s₂=>wpAny (model X.prog X.w) X.A (compareOp op v u) (EP X pins σ Q) X.xe s₂) X.xe s₁) X.xe s
theorem aBh (b:Expr){op:CmpOp}(h:op≠.In)(h2:op≠.NotIn):behindInMarks op b=false:=by
 have e1:(op==CmpOp.In)=false:=by cases op<;>first | rfl | exact absurd rfl h
 have e2:(op==CmpOp.NotIn)=false:=by cases op<;>first | rfl | exact absurd rfl h2
 cases b<;>simp[behindInMarks,e1,e2]
def aVc (ta:TE):TE:=fun σ H Q=>ta σ H fun x H1=>Q (.bl (decide (x=.non))) H1
def aOy (ta:TE):TE:=fun σ H Q=>ta σ H fun x H1=>Q (.bl (!decide (x=.non))) H1
theorem bF.none_iff {x:V}{v:Value}(r:bF x v):(v==Value.none)=decide (x=.non):=by
 cases x with
 | non=>cases r;rfl
 | bl _=>cases r;rfl
 | int _=>obtain⟨t,rfl⟩:=r;rfl
 | str _=>obtain⟨t,rfl⟩:=r;rfl
 | byt _=>obtain⟨t,rfl⟩:=r;rfl
 | flt _=>obtain⟨t,rfl⟩:=r;rfl
 | ref _=>cases r;rfl
 | ty _=>cases r;rfl
theorem aJ2 {j pos'}(ha:PE X a ta):PC X .Is a (.Constant .none j pos') (aVc ta):=by
 intro pins s σ H Q I h;refine thn (ha pins s σ H _ I h) fun v s1 ⟨x,H1,I1,r1,q1⟩=>?_
 exact Constant_none (is_none_gen ⟨.bl _,H1,I1,by rw[r1.none_iff];rfl,q1⟩)
theorem aK2 {j pos'}(ha:PE X a ta):PC X .IsNot a (.Constant .none j pos') (aOy ta):=by
 intro pins s σ H Q I h;refine thn (ha pins s σ H _ I h) fun v s1 ⟨x,H1,I1,r1,q1⟩=>?_
 exact Constant_none (isnot_none_gen ⟨.bl _,H1,I1,by rw[r1.none_iff];rfl,q1⟩)
def tB (t:TE):TT:=fun σ H Q=>t σ H fun x H1=>∃ c,x=.bl c/\Q c H1
theorem aIx {op:CmpOp}{t:TE}(h:PC X op a b t)(h1:behindInMarks op b=false:=by first | exact aBh _ (by decide) (by decide) | rfl):PE X (.Compare a [op] [b] pos) t:=fun pins s σ H Q I hw=>wpAny_Compare1 (h pins s σ H Q I hw) h1
theorem aR9 {op:CmpOp}{t:TE}(h:PC X op a b t)(h1:behindInMarks op b=false:=by first | exact aBh _ (by decide) (by decide) | rfl):PT X (.Compare a [op] [b] pos) (tB t):=by
 intro pins s σ H Q I hw;refine wpAny_isTrue_Compare1 (thn (h pins s σ H _ I hw) fun v s1 h1=>thn h1 fun u s2 h2=>thn h2 fun c s3 ⟨x,H1,I1,r1,q1⟩=>?_) h1
 obtain⟨d,rfl,q⟩:=q1;cases r1;exact wpAny_truthy_bool ⟨H1,I1,q⟩
variable {tA tB':TT}{rest:List Expr}
def tOr (t u:TT):TT:=fun σ H Q=>t σ H fun c H1=>if c=true then Q true H1 else u σ H1 Q
def aV5 (t:TT):TT:=fun σ H Q=>t σ H fun c H1=>Q (!c) H1
theorem aPm (ha:PT X a tA):PW X (.BoolOp .Or [a] pos) tA:=by
 intro wh pins s σ H Q I h;refine isTrue_or (thn (ha pins s σ H Q I h) fun c s1 e=>?_)
 cases c with
 | false=>exact isTrue_or_nil e
 | true=>exact e
theorem aS1 (ha:PT X a tA)(hb:PW X (.BoolOp .Or (b :: rest) pos) tB'):PW X (.BoolOp .Or (a :: b :: rest) pos) (tOr tA tB'):=by
 intro wh pins s σ H Q I h;refine isTrue_or (thn (ha pins s σ H _ I h) fun c s1 ⟨H1,I1,q1⟩=>?_)
 cases c with
 | true=>exact⟨H1,I1,q1⟩
 | false=>exact hb wh pins s1 σ H1 Q I1 q1
theorem aRw (ha:PT X a tA):PT X (.UnaryOp .Not a pos) (aV5 tA):=by
 intro pins s σ H Q I h;exact isTrue_not (ha pins s σ H (fun c H1=>Q (!c) H1) I h)
def aSy (ta tb:TE):TE:=fun σ H Q=>ta σ H fun x H1=>∃ c,x=.bl c/\if c=true then tb σ H1 Q else Q (.bl false) H1
theorem aQb {op}{t:TE}(h:PE X a t):PE X (.BoolOp op [a] pos) t:=fun pins s σ H Q I hw=>BoolOp_one (h pins s σ H Q I hw)
theorem aPe (ha:PE X a ta)(hb:PE X (.BoolOp .And (b :: rest) pos) tb):PE X (.BoolOp .And (a :: b :: rest) pos) (aSy ta tb):=by
 intro pins s σ H Q I h;refine BoolOp_and (thn (ha pins s σ H _ I h) fun v s1 ⟨x,H1,I1,r1,q1⟩=>?_)
 obtain⟨c,rfl,q1⟩:=q1;cases r1;refine wpAny_truthy_bool ?_
 cases c with
 | true=>exact hb pins s1 σ H1 Q I1 q1
 | false=>exact⟨.bl false,H1,I1,rfl,q1⟩
def tIf (t:TT)(ta tb:TE):TE:=fun σ H Q=>t σ H fun c H1=>if c=true then ta σ H1 Q else tb σ H1 Q
theorem aJc {c:Expr}(hc:PT X c tA)(ha:PE X a ta)(hb:PE X b tb):PE X (.IfExp c a b pos) (tIf tA ta tb):=by
 intro pins s σ H Q I h;refine wpAny_IfExp (thn (hc pins s σ H _ I h) fun d s1 ⟨H1,I1,q1⟩=>?_)
 cases d with
 | true=>exact ha pins s1 σ H1 Q I1 q1
 | false=>exact hb pins s1 σ H1 Q I1 q1
end
end L2
namespace L2
open PySem PySem.Spec PyProof.Rows
def SqL (K:PySem.W.Frag)(H:Hp)(a:Addr)(xs:List V):Prop :=
 Rd H a (.lst xs) \/
  ∃ (o:Obj) (its:Array Value) (n:Nat),K.lookup a=some o/\o.cls=.type "list"/\o.dict=none/\o.data=.seq its n/\its.size<=sizeLine/\bA xs its.toList
def SqT (K:PySem.W.Frag)(H:Hp)(a:Addr)(xs:List V):Prop :=
 Rd H a (.tup xs) \/
  ∃ (o:Obj) (its:Array Value) (n:Nat),K.lookup a=some o/\o.cls=.type "tuple"/\o.data=.seq its n/\its.size<=sizeLine/\bA xs its.toList
def aV9:Value->Option V
 | .none=>some .non
 | .bool b=>some (.bl b)
 | .int i _=>some (.int i)
 | .str x _=>some (.str x)
 | .bytes b _=>some (.byt b)
 | .float b _=>some (.flt b)
 | .ref a=>some (.ref a)
 | .type n=>some (.ty n)
 | _=>none
theorem bF.abs {x:V}{u:Value}(r:bF x u):aV9 u=some x:=by
 cases x with
 | non=>cases r;rfl
 | bl _=>cases r;rfl
 | int _=>obtain⟨t,rfl⟩:=r;rfl
 | str _=>obtain⟨t,rfl⟩:=r;rfl
 | byt _=>obtain⟨t,rfl⟩:=r;rfl
 | flt _=>obtain⟨t,rfl⟩:=r;rfl
 | ref _=>cases r;rfl
 | ty _=>cases r;rfl
theorem bF.inj {x y:V}{u:Value}(r:bF x u)(q:bF y u):x=y:=Cw.inj (r.abs.symm.trans q.abs)
theorem bA.inj:∀ {xs ys:List V} {us:List Value},bA xs us->bA ys us->xs=ys
 | _,_,_,.nil,.nil=>rfl
 | _,_,_,.cons r t,.cons r' t'=>by rw[r.inj r',bA.inj t t']
section
variable {X:Cx}{pins:List (Addr×Obj)}{σ:St}{H:Hp}{s:Shared}{a:Addr}{xs ys:List V}
theorem SqL.of {K:PySem.W.Frag}(h:H a=some (.lst xs)):SqL K H a xs:=.inl (.inl h)
theorem SqT.of {K:PySem.W.Frag}(h:H a=some (.tup xs)):SqT K H a xs:=.inl (.inl h)
theorem Inv.list (I:Inv X pins σ H s)(h:SqL X.K H a xs):∃ its:List Value,bA xs its/\PlainL s.heap a its.toArray/\xs.length<=sizeLine:=by
 rcases h with h | ⟨o,its,n,hk,hc,hd,hs,hz,r⟩
 · obtain⟨z,its,n,r,e⟩:=h.ok I.hok
   exact⟨its,r,⟨_,n,e,rfl,rfl,rfl⟩,z⟩
 · refine⟨its.toList,r,⟨o,n,I.kIn a o hk,hc,hd,by simpa using hs⟩,?_⟩
   have e:=r.length;simp only[Array.length_toList]at e;omega
theorem Inv.tuple (I:Inv X pins σ H s)(h:SqT X.K H a xs):∃ its:List Value,bA xs its/\IsTup s.heap a its.toArray/\xs.length<=sizeLine:=by
 rcases h with h | ⟨o,its,n,hk,hc,hs,hz,r⟩
 · obtain⟨z,its,r,p⟩:=h.ok I.hok
   exact⟨its,r,p,z⟩
 · refine⟨its.toList,r,⟨o,I.kIn a o hk,hc,n,by simpa using hs⟩,?_⟩
   have e:=r.length;simp only[Array.length_toList]at e;omega
theorem Inv.list_inj (I:Inv X pins σ H s)(h:SqL X.K H a xs)(h':SqL X.K H a ys):xs=ys:=by
 obtain⟨its,r,⟨o,n,e,_,_,d⟩,_⟩:=I.list h;obtain⟨its',r',⟨o',n',e',_,_,d'⟩,_⟩:=I.list h';rw[e]at e';cases e';rw[d]at d';injection d' with d1 _
 have:its=its':=by simpa using congrArg Array.toList d1
 subst this;exact r.inj r'
end
section
variable {X:Cx}{st:Stmt}{rest:List Stmt}{t u:TS}{e:Expr}{te:TE}{pos:Pos}
def aTy:TS:=fun D σ H=>D.nx σ H
def aLx (t u:TS):TS:=fun D σ H=>t { D with nx:=u D } σ H
theorem aLm:PSs X [] aTy:=fun _ _ σ H _ I h=>wpAny_execs_nil ⟨σ,H,I,h⟩
theorem sC (h1:PS X st t)(h2:PSs X rest u):PSs X (st :: rest) (aLx t u):=by
 intro pins s σ H D I h;refine wpAny_execs_cons (thn (h1 pins s σ H { D with nx:=u D } I h) fun f s1 q=>?_)
 cases f with
 | next =>
  obtain⟨σ',H',I',q⟩:=q;exact h2 pins s1 σ' H' D I' q
 | ret v=>exact q
 | brk=>exact q
 | cont=>exact q
theorem aDk (h1:PS X st t):PSs X [st] t:=by
 intro pins s σ H D I h;refine wpAny_execs_cons (thn (h1 pins s σ H D I h) fun f s1 q=>?_)
 cases f with
 | next=>exact wpAny_execs_nil q
 | ret v=>exact q
 | brk=>exact q
 | cont=>exact q
theorem Inv.quiet {pins:List (Addr×Obj)}{σ:St}{H:Hp}{s:Shared}(I:Inv X pins σ H s):interactive X.env=false:=by simp[interactive,I.ok.kind]
def aTw (te:TE):TS:=fun D σ H=>te σ H fun _ H1=>D.nx σ H1
theorem aDi (he:PE X e te)(hs:swapsWith e none pos.line X.env=pure false:=by rfl):PS X (.Expr e pos) (aTw te):=by
 intro pins s σ H D I h;exact wpAny_Expr_any (thn (he pins s σ H _ I h) fun v s1 ⟨x,H1,I1,r1,q1⟩=>⟨σ,H1,I1,q1⟩) I.quiet hs
def aV4 (te:TE):TS:=fun D σ H=>te σ H D.rt
theorem aRj (he:PE X e te):PS X (.Return (some e) pos) (aV4 te):=by
 intro pins s σ H D I h;exact wpAny_Return_some (thn (he pins s σ H _ I h) fun v s1 ⟨x,H1,I1,r1,q1⟩=>⟨x,σ,H1,I1,r1,q1⟩)
def aV6 (c:TT)(t u:TS):TS:=fun D σ H=>c σ H fun b H1=>if b=true then t D σ H1 else u D σ H1
theorem aTr {c:Expr}{a b:List Stmt}{tc:TT}(hc:PT X c tc)(ha:PSs X a t)(hb:PSs X b u):PS X (.If c a b pos) (aV6 tc t u):=by
 intro pins s σ H D I h;refine wpAny_If (thn (hc pins s σ H _ I h) fun d s1 ⟨H1,I1,q1⟩=>?_)
 cases d with
 | true=>exact ha pins s1 σ H1 D I1 q1
 | false=>exact hb pins s1 σ H1 D I1 q1
def aPo:TS:=fun _ _ _=>False
theorem aH8:PS X st aPo:=fun _ _ _ _ _ _ h=>h.elim
end
abbrev TG:=V->St->Hp->(St->Hp->Prop)->Prop
abbrev TGs:=List V->St->Hp->(St->Hp->Prop)->Prop
def PG (X:Cx)(target:Expr)(t:TG):Prop :=
 ∀ (pins:List (Addr×Obj)) (s:Shared) (σ:St) (H:Hp) (v:V) (u:Value) (Q:St->Hp->Prop),Inv X pins σ H s->bF v u->t v σ H Q ->
  wpAny (model X.prog X.w) X.A (assign target X.env u) (fun _ s'=>∃ σ' H',Inv X pins σ' H' s'/\Q σ' H') X.xe s
def PGs (X:Cx)(ts:List Expr)(t:TGs):Prop :=
 ∀ (pins:List (Addr×Obj)) (s:Shared) (σ:St) (H:Hp) (vs:List V) (us:List Value) (Q:St->Hp->Prop),Inv X pins σ H s->bA vs us->t vs σ H Q ->
  wpAny (model X.prog X.w) X.A (assignInOrder ((assignEach ts X.env).map (·.2)) us) (fun _ s'=>∃ σ' H',Inv X pins σ' H' s'/\Q σ' H') X.xe s
abbrev aRc:=V->V->V->Hp->(Hp->Prop)->Prop
def aU9 (X:Cx)(t:aRc):Prop :=
 ∀ (pins:List (Addr×Obj)) (s:Shared) (σ:St) (H:Hp) (o i v:V) (ov iv u:Value) (Q:Hp->Prop),Inv X pins σ H s->bF o ov->bF i iv->bF v u->t o i v H Q ->
  wpAny (model X.prog X.w) X.A (setItem ov iv u) (fun _ s'=>∃ H',Inv X pins σ H' s'/\Q H') X.xe s
section
variable {X:Cx}{pos:Pos}
def zF (i:Nat):TG:=fun v σ H Q=>Q (σ.set i (some v)) H
theorem aKv {i:Nat}{x:Str}(hN:X.N.Nodup)(hi:X.N[i]?=some x)(hx:Loc X.env.scope x)(hf:X.fn x=true\/X.env.scope.names.lookup x=some .local:=by first | exact .inl rfl | exact .inr rfl | assumption):PG X (.Name x pos) (zF i):=by
 intro pins s σ H v u Q I r h;exact wpAny_assign_Name (lI I hN hi hx r (fun s' I'=>⟨_,H,I',h⟩) hf)
def aMv:TGs:=fun vs σ H Q=>vs=[]/\Q σ H
def aDs (t:TG)(u:TGs):TGs:=fun vs σ H Q=>∃ v r,vs=v :: r/\t v σ H fun σ' H'=>u r σ' H' Q
theorem aNt:PGs X [] aMv:=by
 intro pins s σ H vs us Q I r h;obtain⟨e,h⟩:=h;subst e;cases r;exact assignInOrder_nil ⟨σ,H,I,h⟩
theorem aJz {e:Expr}{es:List Expr}{t:TG}{u:TGs}(h1:PG X e t)(h2:PGs X es u)
 (hs:(assignEach (e :: es) X.env).map (·.2)=assign e X.env :: (assignEach es X.env).map (·.2):=by rfl):PGs X (e :: es) (aDs t u):=by
 intro pins s σ H vs us Q I r h;obtain⟨v,vr,e1,h⟩:=h;subst e1;cases r with
 | cons r rr =>
  rw[hs];refine assignInOrder_cons (thn (h1 pins s σ H _ _ _ I r h) fun _ s1 ⟨σ1,H1,I1,q1⟩=>?_)
  exact h2 pins s1 σ1 H1 _ _ Q I1 rr q1
def aMi (K:PySem.W.Frag)(n:Nat)(t:TGs):TG:=fun v σ H Q=>∃ a xs,v=.ref a/\SqT K H a xs/\xs.length=n/\t xs σ H Q
theorem aRo {es:List Expr}{k:Nat}{t:TGs}{n:Nat}(hc:X.calm=true)(h:PGs X es t)
 (hn:(assignEach es X.env).length=n:=by rfl) (hst:(assignEach es X.env).findIdx? (·.1)=none:=by rfl):PG X (.Tuple es k pos) (aMi X.K n t):=by
 intro pins s σ H v u Q I r hw;obtain⟨a,xs,e1,hq,hl,hw⟩:=hw;subst e1;cases r;obtain⟨its,rv,ht,hz⟩:=I.tuple hq;refine assign_Tuple_tuple (I.ok.hd hc) ht (by simp[hn,←hl,rv.length]) hst fun h' hx=>?_
 have I1:Inv X pins σ H { s with heap:=h' }:=I.kept (t':=s.toks) fun b o e=>hx b o (Bq (Ap e)) e
 exact h pins _ σ H xs _ Q I1 (by simpa using rv) hw
def aVx (to ti:TE)(t:aRc):TG:=fun v σ H Q=>to σ H fun o H1=>ti σ H1 fun i H2=>t o i v H2 fun H3=>Q σ H3
theorem aP9 {o i:Expr}{to ti:TE}{t:aRc}(ho:PE X o to)(hi:PE X i ti)(hs:aU9 X t)
 (ha:∀ v,assign (.Subscript o i pos) X.env v=(do
  let ov ← holding [v] (eval o X.env)
  let iv ← holding [v,ov] (eval i X.env)
  standAt pos
  holding [v,ov,iv] (setItem ov iv v)
  release [v,ov,iv] []):=by intro _;rfl):PG X (.Subscript o i pos) (aVx to ti t):=by
 intro pins s σ H v u Q I r h;rw[ha];refine wpAny_bind (wpAny_holding (thn (ho pins s σ H _ I h) fun ov s1 ⟨x,H1,I1,r1,q1⟩=>?_))
 refine wpAny_bind (wpAny_holding (thn (hi pins s1 σ H1 _ I1 q1) fun iv s2 ⟨y,H2,I2,r2,q2⟩=>?_))
 refine wpAny_bind (wpAny_standAt (wpAny_bind (wpAny_holding (thn (hs pins s2 σ H2 x y v ov iv u _ I2 r1 r2 r q2) fun _ s3 ⟨H3,I3,q3⟩=>?_))))
 exact wpAny_release ⟨σ,H3,I3,q3⟩
def aUv (te:TE)(g:TG):TS:=fun D σ H=>te σ H fun x H1=>g x σ H1 D.nx
theorem aQj {tg e:Expr}{te:TE}{g:TG}(he:PE X e te)(hg:PG X tg g)(hs:swapsWithSole [tg] e pos.line X.env=pure false:=by rfl)(hw:swappedStores [tg] e X.env=pure none:=by rfl)
 (h1:(assignEach [tg] X.env).map (·.2)=[assign tg X.env]:=by rfl):PS X (.Assign [tg] e pos) (aUv te g):=by
 intro pins s σ H D I h;refine wpAny_Assign_stores (thn (he pins s σ H _ I h) fun v s1 ⟨x,H1,I1,r1,q1⟩=>?_) hs hw
 rw[h1];exact thn (hg pins s1 σ H1 x v _ I1 r1 q1) fun _ s2 q=>q
theorem aPl {i:Nat}{x:Str}{e:Expr}{te:TE}{pos':Pos}(hN:X.N.Nodup)(hi:X.N[i]?=some x)(hx:Loc X.env.scope x)(he:PE X e te)(hs:swapsWith e (some (.Name x pos')) pos.line X.env=pure false:=by rfl)(hf:X.fn x=true\/X.env.scope.names.lookup x=some .local:=by first | exact .inl rfl | exact .inr rfl | assumption) :
 PS X (.Assign [.Name x pos'] e pos) (aUv te (zF i)):=by
 intro pins s σ H D I h;refine wpAny_Assign_Name (thn (he pins s σ H _ I h) fun v s1 ⟨y,H1,I1,r1,q1⟩=>?_) hs
 exact lI I1 hN hi hx r1 (fun s2 I2=>⟨_,H1,I2,q1⟩) hf
def aVp (i j:Nat)(ta:TA):TS:=fun D σ H=>ta σ H fun vs H1=>∃ v w,vs=[v,w]/\D.nx ((σ.set i (some v)).set j (some w)) H1
theorem aPn {i j:Nat}{x y:Str}{a b:Expr}{ta:TA}{px py pt:Pos}{kt k2 pt2}(hc:X.calm=true)(hN:X.N.Nodup)(hi:X.N[i]?=some x)(hj:X.N[j]?=some y)(hij:i≠j)
 (hx:X.env.scope.names.lookup x=some .local) (hy:X.env.scope.names.lookup y=some .local) (ha:PA X [a,b] ta)
 (hw:swappedStores [.Tuple [.Name x px,.Name y py] kt pt] (.Tuple [a,b] k2 pt2) X.env=pure (some [x,y]))
 (hs:swapsWithSole [.Tuple [.Name x px,.Name y py] kt pt] (.Tuple [a,b] k2 pt2) pos.line X.env=pure false:=by rfl) :
 PS X (.Assign [.Tuple [.Name x px,.Name y py] kt pt] (.Tuple [a,b] k2 pt2) pos) (aVp i j ta):=by
 intro pins s σ H D I h;rw[exec_Assign_arm];refine wpAny_bind (wpAny_standAt ?_)
 rw[hs];refine wpAny_bind (wpAny_pure ?_)
 rw[if_neg (by decide)]
 refine wpAny_bind (Tuple_ (thn (ha _ pins s σ H _ I h) fun us s1 ⟨vs,H1,I1,r1,q1⟩=>?_))
 obtain⟨v,w,e1,q1⟩:=q1;subst e1
 obtain⟨u1,u2,rfl,rv,rw'⟩:∃ u1 u2,us=[u1,u2]/\bF v u1/\bF w u2:=by
  cases r1 with
  | cons p q =>
   cases q with
   | cons p' q' =>
    cases q';exact⟨_,_,rfl,p,p'⟩
 refine wpAny_newObj_type ?_ (by show 2<=sizeLine;decide)
 have I2:Inv X pins σ H1 { s1 with heap:=s1.heap.push { cls:=.type "tuple",data:=.seq [u1,u2].toArray } }:=I1.kept (t':=s1.toks) fun b o e=>Ag _ e
 rw[hw];refine wpAny_bind (wpAny_pure ?_)
 show wpAny (model X.prog X.w) X.A (do rule "assign.swapped-stores";let items ← unpackItems (.ref s1.heap.objs.size) 2 none;assignInOrder [fun v=>bindName X.env y v,fun v=>bindName X.env x v] items.reverse;pure Flow.next) _ _ _
 refine wpAny_bind (wpAny_rule (wpAny_bind (unpackItems_tuple (items:=#[u1,u2]) (I.ok.hd hc) (IsTup.new s1.heap _) fun h' hx'=>?_)))
 have I3:=I2.kept (h':=h') (t':=s1.toks) fun b o e=>hx' b o (Bq (Ap e)) e;show wpAny _ _ (assignInOrder [fun v=>bindName X.env y v,fun v=>bindName X.env x v] [u2,u1] >>= fun _=>pure Flow.next) _ _ _
 refine wpAny_bind (assignInOrder_cons (wpAny_bindName (lI I3 hN hj (.inl hy) rw' (fun s2 I4=>?_) (.inr hy))))
 refine assignInOrder_cons (wpAny_bindName (lI I4 hN hi (.inl hx) rv (fun s3 I5=>assignInOrder_nil (wpAny_pure ?_)) (.inr hx)))
 rw[List.set_comm _ _ (Ne.symm hij)]at I5;exact⟨_,H1,I5,q1⟩
end
section
variable {X:Cx}{pos:Pos}
def aQd (c:TT)(tb:TS):TS:=fun D σ H=>∃ W:Nat->St->Hp->Prop,(∃ m,W m σ H)/\∀ m σ H,W m σ H ->
 c σ H fun b H1=>if b=true then ∃ N:St->Hp->Prop,(∀ σ' H',N σ' H'->∃ m',m'<m/\W m' σ' H')/\tb { D with nx:=N,ct:=N,bk:=D.nx } σ H1 else D.nx σ H1
theorem aHp {c:Expr}{body:List Stmt}{tc:TT}{tb:TS}(hp:PassesOwn (model X.prog X.w) X.A X.env X.xe)(hc:PT X c tc)(hb:PSs X body tb):PS X (.While c body [] pos) (aQd tc tb):=by
 intro pins s σ H D I h;obtain⟨W,⟨m0,w0⟩,turn⟩:=h;refine wpAny_While (codeAny_whileLoop (fun n s'=>∃ σ' H',Inv X pins σ' H' s'/\W n σ' H') ?_ m0 ⟨σ,H,I,w0⟩)
 rintro n s1 ⟨σ1,H1,I1,w1⟩
 refine wpAny_passesOwn hp (thn (hc pins s1 σ1 H1 _ I1 (turn n σ1 H1 w1)) fun b s2 ⟨H2,I2,q2⟩=>?_)
 cases b with
 | true =>
  obtain⟨N,hN,q2⟩:=q2;rw[if_pos rfl];refine wpAny_passesOwn hp (thn (hb pins s2 σ1 H2 _ I2 q2) fun f s3 q3=>?_)
  cases f with
  | next =>
   obtain⟨σ3,H3,I3,n3⟩:=q3;obtain⟨m',hm,w3⟩:=hN σ3 H3 n3;exact⟨m',hm,σ3,H3,I3,w3⟩
  | cont =>
   obtain⟨σ3,H3,I3,n3⟩:=q3;obtain⟨m',hm,w3⟩:=hN σ3 H3 n3;exact⟨m',hm,σ3,H3,I3,w3⟩
  | brk=>exact q3
  | ret v=>exact q3
 | false =>
  rw[if_neg Db];exact wpAny_execs_nil ⟨σ1,H2,I2,q2⟩
end
structure It where
 go:Nat->Hp->Prop
 yld:Nat->Hp->V->Hp->Prop
 stop:Nat->Hp->Prop
def mX (X:Cx)(pins:List (Addr×Obj))(H:Hp)(b:Addr):Prop :=
 H b=none/\b≠X.env.locals/\b∉X.fs/\(b∈X.ex\/X.s₀.heap.objs.size<=b)/\(∀ x c,X.env.cells.lookup x=some c->c≠b)/\∀ p∈X.pn++pins,p.1≠b
theorem Inv.fpOk {X:Cx}{pins:List (Addr×Obj)}{σ:St}{H H':Hp}{s:Shared}{b:Addr}(I:Inv X pins σ H s)(hb:s.heap.objs.size<=b)(hn:H' b=none):mX X pins H' b:=by
 refine⟨hn,Gx (An I.lt hb),I.nofs hb,.inr (Bj I.sz hb),fun x c e z=>?_,fun p hp z=>?_⟩
 · obtain⟨v,q⟩:=I.cell x c e
   exact absurd (An q.lt (by rw[z];exact hb)) (Ef _)
 · exact absurd (An (Ap (I.pin p hp).1) (by rw[z];exact hb)) (Ef _)
structure Turn (P:Program)(w:World)(K:PySem.W.Frag)(tg:Expr)(J:It)(fp:List Addr)(it:Addr)(tn:Nat->Heap->Prop):Prop where
 mem:it∈fp
 obj:∀ i h,tn i h->∀ b∈fp,∃ o,h.get? b=some o/\∀ v,o.data≠.cell v
 keep:∀ i h h',tn i h->(∀ b∈fp,∀ o,h.get? b=some o->h'.get? b=some o)->tn i h'
 item:∀ (X:Cx),X.prog=P->X.w=w->X.K=K->X.calm=true->∀ (i:Nat) (pins:List (Addr×Obj)) (s:Shared) (σ:St) (H:Hp) (E:Value->Shared->Prop),Inv X pins σ H s->(∀ b∈fp,mX X pins H b)->tn i s.heap->J.go i H ->
  wpAny (model P w) X.A (pyNext (.ref it)) (fun r s1=>∃ u,r=some u /\
   wpAny (model P w) X.A (letOwnedTupleGo tg (.ref it) u) (fun _ s2=>∃ x H',Inv X pins σ H' s2/\bF x u/\J.yld i H x H'/\tn (i+1) s2.heap/\∀ b∈fp,H' b=none) E s1) E s
 done:∀ (X:Cx),X.prog=P->X.w=w->X.K=K->X.calm=true->∀ (i:Nat) (pins:List (Addr×Obj)) (s:Shared) (σ:St) (H:Hp) (E:Value->Shared->Prop),Inv X pins σ H s->(∀ b∈fp,mX X pins H b)->tn i s.heap->J.stop i H ->
  wpAny (model P w) X.A (pyNext (.ref it)) (fun r s1=>r=none/\Inv X pins σ H s1) E s
 self:∀ (A:Around) (i:Nat) (s:Shared) (Q:Value->Shared->Prop) (E:Value->Shared->Prop),tn i s.heap->Q (.ref it) s->wpAny (model P w) A (pyIter (.ref it)) Q E s
abbrev TI:=St->Hp->(It->Hp->Prop)->Prop
def PIE (X:Cx)(pins:List (Addr×Obj))(σ:St)(tg:Expr)(R:It->Hp->Prop)(itv:Value)(s2:Shared):Prop :=
 ∃ (it:Addr) (fp:List Addr) (tn:Nat->Heap->Prop) (J:It) (H':Hp),itv=.ref it/\Inv X pins σ H' s2/\Turn X.prog X.w X.K tg J fp it tn/\tn 0 s2.heap/\(∀ b∈fp,mX X pins H' b)/\R J H'
def PI (X:Cx)(tg iter:Expr)(wi:TI):Prop :=
 ∀ (pins:List (Addr×Obj)) (s:Shared) (σ:St) (H:Hp) (R:It->Hp->Prop),Inv X pins σ H s->wi σ H R ->
  wpAny (model X.prog X.w) X.A (eval iter X.env) (fun v s1=>wpAny (model X.prog X.w) X.A (pyIter v) (PIE X pins σ tg R) X.xe s1) X.xe s
theorem aH2 {M:Model}{A:Around}{E:Value->Shared->Prop}{s:Shared}{tg:Expr}{it:Addr}{u:Value}{o:Obj}{n:String}{vs:Array Value}{Q:Unit->Shared->Prop}(ho:s.heap.get? it=some o)(hc:o.cls=.type n)(hd:o.data=.fields vs)
    (hn:["enumerate","zip","dict_itemiterator","dict_reverseitemiterator","odict_iterator","itertools.zip_longest","itertools.pairwise"].contains n=false) (hQ:Q () s):wpAny M A (letOwnedTupleGo tg (.ref it) u) Q E s:=by
  unfold letOwnedTupleGo
  cases tg<;>first
    | exact wpAny_pure hQ
    | (cases u<;>first
        | exact wpAny_pure hQ
        | (refine wpAny_bind (wpAny_load ho ?_)
           rw[hc,hd];show wpAny M A (if (["enumerate","zip","dict_itemiterator","dict_reverseitemiterator","odict_iterator","itertools.zip_longest","itertools.pairwise"].contains n&&vs[0]?==some (rawInt _))=true then _ else _) Q E s
           rw[if_neg (by intro h;rw[hn,Bool.false_and]at h;cases h)]
           exact wpAny_pure hQ))
def Itl (K:PySem.W.Frag)(a:Addr):It :=
 ⟨fun i H=>∃ xs x,SqL K H a xs/\xs[i]?=some x,fun i H x H'=>H'=H/\∀ xs,SqL K H a xs->xs[i]?=some x,fun i H=>∃ xs,SqL K H a xs/\xs.length<=i⟩
def Itr (lo:Int)(n:Nat):It:=⟨fun i _=>i<n,fun i H x H'=>H'=H/\x=.int (lo+i),fun i _=>n<=i⟩
theorem aFj {P:Program}{w:World}{K:PySem.W.Frag}{tg:Expr}(a it:Addr):Turn P w K tg (Itl K a) [it] it (fun i h=>h.IsListIter it a i) where
 mem:=by simp
 obj:=fun i h st b hb=>by
  have e:b=it:=by simpa using hb
  subst e;obtain⟨o,e,c,d⟩:=st;exact⟨o,e,fun v z=>by rw[d]at z;cases z⟩
 keep:=fun i h h' st k=>st.at fun o e=>k it (by simp) o e
 item:=by
  intro X hP hw hK hc i pins s σ H E I hf st hg;subst hP hw hK;obtain⟨xs,x,hq,hx⟩:=hg;obtain⟨its,rv,p,hz⟩:=I.list hq;obtain⟨u,hu,ru⟩:=rv.get hx;obtain⟨f0,f1,f2,f3,f4,f5⟩:=hf it (by simp)
  refine wpAny_pyNext_list_item st p.isList (x:=u) (by simpa using hu) fun h' st' sb=>?_
  have I1:Inv X pins σ H { s with heap:=h' }:=I.turned (t':=s.toks) (fun b o hb e=>(sb.2 b hb).trans e) f0 f1 f3 f4 f5
  obtain⟨o,e,c,d⟩:=id st';exact⟨u,rfl,aH2 (s:={ s with heap:=h' }) e c d (by decide) ⟨x,H,I1,ru,⟨rfl,fun ys hy=>by rw[I.list_inj hy hq];exact hx⟩,st',fun b hb=>(hf b hb).1⟩⟩
 done:=by
  intro X hP hw hK hc i pins s σ H E I hf st hg;subst hP hw hK;obtain⟨xs,hq,hx⟩:=hg;obtain⟨its,rv,p,hz⟩:=I.list hq;obtain⟨f0,f1,f2,f3,f4,f5⟩:=hf it (by simp)
  have hl:=rv.length;exact wpAny_pyNext_list_end (I.ok.hd hc) st p.isList (by simp;omega) fun h' eb=>⟨rfl,I.turned (t':=s.toks) (fun b o hb e=>eb b o hb e) f0 f1 f3 f4 f5⟩
 self:=fun _ _ _ _ _ st h=>wpAny_pyIter_listiter st h
theorem aDb {P:Program}{w:World}{K:PySem.W.Frag}{tg:Expr}(it:Addr)(lo:Int)(n:Nat):Turn P w K tg (Itr lo n) [it] it (fun i h=>IsRangeIter h it (lo+(i:Nat)*1) ((n:Int)-(i:Nat)) 1) where
 mem:=by simp
 obj:=fun i h st b hb=>by
  have e:b=it:=by simpa using hb
  subst e
  exact⟨_,st,fun v z=>by
   have z':Data.fields _=Data.cell v:=z
   cases z'⟩
 keep:=fun i h h' st k=>k it (by simp) _ st
 item:=by
  intro X hP hw hK hc i pins s σ H E I hf st hg;subst hP hw hK;obtain⟨f0,f1,f2,f3,f4,f5⟩:=hf it (by simp)
  have W:=Walks.range (prog:=X.prog) (w:=X.w) (I.ok.hd hc) it lo 1 n;refine W.item i s _ _ hg st fun v h' tk hv st' kk=>?_
  obtain⟨t,rfl⟩:=hv;have I1:Inv X pins σ H { s with heap:=h',toks:=tk }:=I.turned (fun b o hb e=>kk b o (by simpa using hb) e) f0 f1 f3 f4 f5
  refine⟨_,rfl,aH2 (s:={ s with heap:=h',toks:=tk }) (n:="range_iterator") st' rfl rfl (by decide) ⟨.int (lo+i),H,I1,⟨t,?_⟩,⟨rfl,rfl⟩,st',fun b hb=>(hf b hb).1⟩⟩
  rw[Gm]
 done:=by
  intro X hP hw hK hc i pins s σ H E I hf st hg;subst hP hw hK;obtain⟨f0,f1,f2,f3,f4,f5⟩:=hf it (by simp)
  exact wpAny_pyNext_range_end (I.ok.hd hc) st (by have:n<=i:=hg;omega) fun h' eb=>⟨rfl,I.turned (t':=s.toks) (fun b o hb e=>eb b o hb e) f0 f1 f3 f4 f5⟩
 self:=fun _ _ _ _ _ st h=>wpAny_pyIter_rangeiter st h
end L2
namespace L2
open PySem PySem.Spec PyProof.Rows
section
variable {X:Cx}{tg:Expr}
def aSt (K:PySem.W.Frag)(tl:TE):TI:=fun σ H R=>tl σ H fun x H1=>∃ a,x=.ref a/\(∃ xs,SqL K H1 a xs)/\R (Itl K a) H1
theorem aM7 {l:Expr}{tl:TE}(hl:PE X l tl):PI X tg l (aSt X.K tl):=by
 intro pins s σ H R I h;refine thn (hl pins s σ H _ I h) fun v s1 ⟨x,H1,I1,r1,q1⟩=>?_
 obtain⟨a,e,⟨xs,hq⟩,q⟩:=q1;subst e;cases r1;obtain⟨its,rv,p,hz⟩:=I1.list hq;refine wpAny_pyIter_list p.isList ?_
 refine⟨s1.heap.objs.size,[s1.heap.objs.size],_,_,H1,rfl,I1.kept (t':=s1.toks) fun b o e=>Ag _ e,aFj a _,⟨_,Bb _ rfl,rfl,rfl⟩,fun b hb=>?_,q⟩
 have e:b=s1.heap.objs.size:=by simpa using hb
 subst e;exact I1.fpOk (Am _) (I1.hok.fresh (Am _))
theorem aBq {pins:List (Addr×Obj)}{σ:St}{H:Hp}{s:Shared}{R:It->Hp->Prop}{E:Value->Shared->Prop}{lo hi:Int}{t u v:Tok}{tk:Nat}(I:Inv X pins σ H s)(h1:-(2^62)<=lo)(h2:lo<2^62)(h3:-(2^62)<=hi)(h4:hi<2^62)
 (q:R (Itr lo (hi-lo).toNat) H):wpAny (model X.prog X.w) X.A (pyIter (.ref s.heap.objs.size)) (PIE X pins σ tg R) E { s with heap:=s.heap.push { cls:=.type "range",data:=.fields #[.int lo t,.int hi u,.int 1 v] },toks:=tk }:=by
 refine wpAny_pyIter_range (IsRange.new ..) (small_one h1 h2 h3 h4) ?_
 have I1:Inv X pins σ H { s with heap:=s.heap.push { cls:=.type "range",data:=.fields #[.int lo t,.int hi u,.int 1 v] },toks:=tk }:=I.kept fun b o e=>Ag _ e
 refine⟨(s.heap.push { cls:=.type "range",data:=.fields #[.int lo t,.int hi u,.int 1 v] }).objs.size,[(s.heap.push { cls:=.type "range",data:=.fields #[.int lo t,.int hi u,.int 1 v] }).objs.size],_,_,H,rfl,
  I1.kept (t':=tk) fun b o e=>Ag _ e,aDb _ lo (hi-lo).toNat,?_,fun b hb=>?_,q⟩
 · have e1:lo+((0:Nat):Int)*1=lo:=by simp
   have e2:(((hi-lo).toNat:Nat):Int)-((0:Nat):Int)=Builtin.Range.rangeSize lo hi 1:=by rw[rangeSize_one];split<;>omega
   show IsRangeIter _ _ (lo+((0:Nat):Int)*1) ((((hi-lo).toNat:Nat):Int)-((0:Nat):Int)) 1
   rw[e1,e2];exact Bb _ rfl
 · have e:b=(s.heap.push { cls:=.type "range",data:=.fields #[.int lo t,.int hi u,.int 1 v] }).objs.size:=by simpa using hb
   subst e;exact I1.fpOk (Am _) (I1.hok.fresh (Am _))
def aT2 (ta:TA):TI:=fun σ H R=>ta σ H fun vs H1=>∃ j:Int,vs=[.int j]/\-(2^62)<=j/\j<2^62/\R (Itr 0 j.toNat) H1
def aUi (ta:TA):TI:=fun σ H R=>ta σ H fun vs H1=>∃ i j:Int,vs=[.int i,.int j]/\(-(2^62)<=i/\i<2^62/\-(2^62)<=j/\j<2^62)/\R (Itr i (j-i).toNat) H1
theorem aGg {a:Expr}{ta:TA}{p pos:Pos}(hg:Gl X "range")(hm:X.mg "range" = none)(ha:PA X [a] ta)(hs:starEach [a] X.env=[(false,eval a X.env)]:=by rfl):PI X tg (.Call (.Name "range" p) [a] [] pos) (aT2 ta):=by
 intro pins s σ H R I h;refine Call_ (kK I hg hm boot_range (Cz (thn (ha pos pins s σ H _ I h) fun us s1 ⟨vs,H1,I1,r1,q1⟩=>?_) hs rfl))
 obtain⟨j,e,q1,q2,q⟩:=q1;subst e;cases r1 with
 | cons r rr =>
  cases rr;obtain⟨t,rfl⟩:=r;exact call_range_1 (aBq I1 (by omega) (by omega) q1 q2 (by simpa using q))
theorem aGf {a b:Expr}{ta:TA}{p pos:Pos}(hg:Gl X "range")(hm:X.mg "range" = none)(ha:PA X [a,b] ta)(hs:starEach [a,b] X.env=[(false,eval a X.env),(false,eval b X.env)]:=by rfl)(hs2:starEach [b] X.env=[(false,eval b X.env)]:=by rfl) :
 PI X tg (.Call (.Name "range" p) [a,b] [] pos) (aUi ta):=by
 intro pins s σ H R I h;refine Call_ (kK I hg hm boot_range (Cz (thn (ha pos pins s σ H _ I h) fun us s1 ⟨vs,H1,I1,r1,q1⟩=>?_) (by rw[hs,hs2]) (by rw[hs2];rfl)))
 obtain⟨i,j,e,⟨q1,q2,q3,q4⟩,q⟩:=q1;subst e;cases r1 with
 | cons r rr =>
  cases rr with
  | cons r' rr =>
   cases rr;obtain⟨t,rfl⟩:=r;obtain⟨t',rfl⟩:=r';exact call_range_2 (aBq I1 q1 q2 q3 q4 q)
def aVy (wi:TI)(g:TG)(tb:TS):TS:=fun D σ H=>wi σ H fun J H1=>∃ W:Nat->Nat->St->Hp->Prop,(∃ m,W 0 m σ H1)/\∀ i m σ H,W i m σ H ->
 (J.stop i H/\D.nx σ H)\/(J.go i H/\∃ N:St->Hp->Prop,(∀ σ' H',N σ' H'->∃ m',m'<m/\W (i+1) m' σ' H')/\∀ x H',J.yld i H x H'->g x σ H' fun σ2 H2=>tb { D with nx:=N,ct:=N,bk:=D.nx } σ2 H2)
def sI (fp:List Addr)(h:Heap):List (Addr×Obj):=fp.filterMap fun b=>(h.get? b).map fun o=>(b,o)
theorem gP {fp:List Addr}{h:Heap}{b:Addr}{o:Obj}(hb:b∈fp)(e:h.get? b=some o):(b,o)∈sI fp h:=List.mem_filterMap.mpr ⟨b,hb,by rw[e];rfl⟩
theorem aF3 {fp:List Addr}{h:Heap}{p:Addr×Obj}(hp:p∈sI fp h):p.1∈fp/\h.get? p.1=some p.2:=by
 obtain⟨b,hb,e⟩:=List.mem_filterMap.mp hp;cases q:h.get? b with
 | none=>rw[q]at e;cases e
 | some o =>
  rw[q]at e;have e':(b,o)=p:=Cw.inj e;subst e';exact⟨hb,q⟩
theorem Inv.pinned {pins:List (Addr×Obj)}{σ:St}{H:Hp}{s:Shared}{fp:List Addr}(I:Inv X pins σ H s)(hf:∀ b∈fp,mX X pins H b)(ho:∀ b∈fp,∃ o,s.heap.get? b=some o/\∀ v,o.data≠.cell v):Inv X (pins++sI fp s.heap) σ H s :=
 I.pins_of fun p hp=>(Av.mp hp).elim (fun z=>I.pin p (Az _ z)) fun z=>by
  obtain⟨hb,e⟩:=aF3 z;obtain⟨f0,f1,f2,_⟩:=hf p.1 hb;obtain⟨o,e',d⟩:=ho p.1 hb;rw[e]at e';cases e';exact⟨e,f0,f1,f2,d⟩
theorem Inv.unpinned {pins pl:List (Addr×Obj)}{σ:St}{H:Hp}{s:Shared}(I:Inv X (pins++pl) σ H s):Inv X pins σ H s:=I.pins_of fun p hp=>I.pin p (Az _ (Dl _ hp))
theorem aPj {iter:Expr}{body:List Stmt}{wi:TI}{g:TG}{tb:TS}{pos:Pos}(hp:PassesOwn (model X.prog X.w) X.A X.env X.xe)(hc:X.calm=true)(hi:PI X tg iter wi)(hg:PG X tg g)(hb:PSs X body tb)
 (hs:∀ x,foldedSetIterable iter X.env x=pure x:=by intro _;rfl):PS X (.For tg iter body [] pos) (aVy wi g tb):=by
 intro pins s σ H D I h;refine wpAny_For (thn (hi pins s σ H _ I h) fun v s1 h1=>thn h1 fun itv s2 h2=>?_) hs
 obtain⟨it,fp,tn,J,H2,e,I2,T,st2,f2,W,⟨m0,w0⟩,turn⟩:=h2;subst e;have stat:∀ {H':Hp},(∀ b∈fp,H' b=none)->∀ b∈fp,mX X pins H' b:=fun hn b hb=>⟨hn b hb,(f2 b hb).2⟩;refine codeAny_forLoop_any (fun n s'=>∃ i σ' H',Inv X pins σ' H' s'/\tn i s'.heap/\(∀ b∈fp,H' b=none)/\W i n σ' H') ?_ m0 ⟨0,σ,H2,I2,st2,fun b hb=>(f2 b hb).1,w0⟩
 rintro n s3 ⟨i,σ3,H3,I3,st3,fr3,w3⟩
 rcases turn i n σ3 H3 w3 with ⟨stop,qn⟩ | ⟨go,N,hN,step⟩
 · refine wpAny_passesOwn hp (thn (T.done X rfl rfl rfl hc i pins s3 σ3 H3 X.xe I3 (stat fr3) st3 stop) fun r s4 ⟨hr,I4⟩=>?_)
   subst hr;exact wpAny_execs_nil ⟨σ3,H3,I4,qn⟩
 · refine wpAny_passesOwn hp (thn (T.item X rfl rfl rfl hc i pins s3 σ3 H3 X.xe I3 (stat fr3) st3 go) fun r s4 ⟨u,hr,h4⟩=>?_)
   subst hr;refine wpAny_passesOwn hp (thn h4 fun _ s5 ⟨x,H5,I5,r5,y5,st5,fr5⟩=>?_)
   have I5':=I5.pinned (stat fr5) (T.obj _ _ st5);refine wpAny_passesOwn hp (thn (hg _ s5 σ3 H5 x u _ I5' r5 (step x H5 y5)) fun _ s6 ⟨σ6,H6,I6,q6⟩=>?_)
   refine wpAny_passesOwn hp (thn (hb _ s6 σ6 H6 _ I6 q6) fun f s7 q7=>?_)
   have again:∀ {σ7:St} {H7:Hp},Inv X (pins++sI fp s5.heap) σ7 H7 s7->N σ7 H7->∃ m,m<n/\∃ i σ' H',Inv X pins σ' H' s7/\tn i s7.heap/\(∀ b∈fp,H' b=none)/\W i m σ' H':=fun {σ7 H7} I7 n7=>by
    obtain⟨m',hm,w7⟩:=hN σ7 H7 n7;refine⟨m',hm,i+1,σ7,H7,I7.unpinned,T.keep _ _ _ st5 fun b hb o e=>(I7.pin (b,o) (Az _ (Az _ (gP hb e)))).1,fun b hb=>?_,w7⟩
    obtain⟨o,e,d⟩:=T.obj _ _ st5 b hb;exact(I7.pin (b,o) (Az _ (Az _ (gP hb e)))).2.1
   cases f with
   | next=>obtain⟨σ7,H7,I7,n7⟩:=q7;exact again I7 n7
   | cont=>obtain⟨σ7,H7,I7,n7⟩:=q7;exact again I7 n7
   | brk=>obtain⟨σ7,H7,I7,q7⟩:=q7;exact⟨σ7,H7,I7.unpinned,q7⟩
   | ret v=>obtain⟨x7,σ7,H7,I7,r7,q7⟩:=q7;exact⟨x7,σ7,H7,I7.unpinned,r7,q7⟩
end
end L2
namespace L2
open PySem PySem.Spec PyProof.Rows
abbrev R2:=V->V->Hp->VK->Prop
def OpR (X:Cx)(f:Value->Value->Sem Value)(r:R2):Prop :=
 ∀ (pins:List (Addr×Obj)) (s:Shared) (σ:St) (H:Hp) (x y:V) (v u:Value) (Q:VK),Inv X pins σ H s->bF x v->bF y u->r x y H Q ->
  wpAny (model X.prog X.w) X.A (f v u) (EP X pins σ Q) X.xe s
def UnR (X:Cx)(f:Value->Sem Value)(r:V->Hp->VK->Prop):Prop :=
 ∀ (pins:List (Addr×Obj)) (s:Shared) (σ:St) (H:Hp) (x:V) (v:Value) (Q:VK),Inv X pins σ H s->bF x v->r x H Q ->
  wpAny (model X.prog X.w) X.A (f v) (EP X pins σ Q) X.xe s
def kS (X:Cx)(f:Value)(r:List V->Hp->VK->Prop):Prop :=
 ∀ (pins:List (Addr×Obj)) (s:Shared) (σ:St) (H:Hp) (xs:List V) (us:List Value) (Q:VK),Inv X pins σ H s->bA xs us->r xs H Q ->
  wpAny (model X.prog X.w) X.A (call f us) (EP X pins σ Q) X.xe s
def aV3 (X:Cx)(r:V->Hp->(Bool->Hp->Prop)->Prop):Prop :=
 ∀ (pins:List (Addr×Obj)) (s:Shared) (σ:St) (H:Hp) (x:V) (v:Value) (Q:Bool->Hp->Prop),Inv X pins σ H s->bF x v->r x H Q ->
  wpAny (model X.prog X.w) X.A (truthy v) (TP X pins σ Q) X.xe s
def tOp (r:R2)(ta tb:TE):TE:=fun σ H Q=>ta σ H fun x H1=>tb σ H1 fun y H2=>r x y H2 Q
def tUn (r:V->Hp->VK->Prop)(ta:TE):TE:=fun σ H Q=>ta σ H fun x H1=>r x H1 Q
def rI (C:Int->Int->Prop)(g:Int->Int->V):R2:=fun x y H Q=>∃ i j,x=.int i/\y=.int j/\C i j/\Q (g i j) H
def rI0 (g:Int->Int->V):R2:=fun x y H Q=>∃ i j,x=.int i/\y=.int j/\Q (g i j) H
def rU (g:Int->V):V->Hp->VK->Prop:=fun x H Q=>∃ i,x=.int i/\Q (g i) H
section
variable {X:Cx}{a b c:Expr}{ta tb tc:TE}{pos:Pos}
theorem aRm (ha:PE X a ta)(hb:PE X b tb){pins:List (Addr×Obj)}{s:Shared}{σ:St}{H:Hp}{R:V->V->Hp->Prop}(I:Inv X pins σ H s)
 (h:ta σ H fun x H1=>tb σ H1 fun y H2=>R x y H2) {Q:Value->Shared->Prop} {f:Value->Value->Sem Value}
 (hf:∀ v u s2 x y H2,Inv X pins σ H2 s2->bF x v->bF y u->R x y H2->wpAny (model X.prog X.w) X.A (f v u) Q X.xe s2) :
 wpAny (model X.prog X.w) X.A (eval a X.env) (fun v s₁=>wpAny (model X.prog X.w) X.A (eval b X.env) (fun u s₂=>wpAny (model X.prog X.w) X.A (f v u) Q X.xe s₂) X.xe s₁) X.xe s:=by
 refine thn (ha pins s σ H _ I h) fun v s1 ⟨x,H1,I1,r1,q1⟩=>?_
 refine thn (hb pins s1 σ H1 _ I1 q1) fun u s2 ⟨y,H2,I2,r2,q2⟩=>?_
 exact hf v u s2 x y H2 I2 r1 r2 q2
theorem aKk {op:Operator}{r:R2}(ho:OpR X (binaryOp op) r)(ha:PE X a ta)(hb:PE X b tb):PE X (.BinOp a op b pos) (tOp r ta tb):=by
 intro pins s σ H Q I h;exact wpAny_BinOp (aRm ha hb I h fun v u s2 x y H2 I2 rx ry q=>ho pins s2 σ H2 x y v u Q I2 rx ry q)
theorem aUo {op:UnaryOp}{r:V->Hp->VK->Prop}(ho:UnR X (unaryOp op) r)(ha:PE X a ta):PE X (.UnaryOp op a pos) (tUn r ta):=by
 intro pins s σ H Q I h;exact UnaryOp_ (thn (ha pins s σ H _ I h) fun v s1 ⟨x,H1,I1,r1,q1⟩=>ho pins s1 σ H1 x v Q I1 r1 q1)
theorem opI {f:Value->Value->Sem Value}{C:Int->Int->Prop}{g:Int->Int->Int}
 (rule:∀ (i j:Int) (t u:Tok) (s:Shared) (Q:Value->Shared->Prop) (E:Value->Shared->Prop),C i j->Q (.int (g i j) s.toks) { s with toks:=s.toks+1 }->wpAny (model X.prog X.w) X.A (f (.int i t) (.int j u)) Q E s) :
 OpR X f (rI C fun i j=>.int (g i j)):=by
 intro pins s σ H x y v u Q I rx ry h;obtain⟨i,j,rfl,rfl,hc,q⟩:=h;obtain⟨t,rfl⟩:=rx;obtain⟨t',rfl⟩:=ry;exact rule i j t t' s _ _ hc ⟨.int (g i j),H,I.tok _,⟨_,rfl⟩,q⟩
theorem aSo {f:Value->Value->Sem Value}{g:Int->Int->Int}
 (rule:∀ (i j:Int) (t u:Tok) (s:Shared) (Q:Value->Shared->Prop) (E:Value->Shared->Prop),Q (.int (g i j) s.toks) { s with toks:=s.toks+1 }->wpAny (model X.prog X.w) X.A (f (.int i t) (.int j u)) Q E s) :
 OpR X f (rI0 fun i j=>.int (g i j)):=by
 intro pins s σ H x y v u Q I rx ry h;obtain⟨i,j,rfl,rfl,q⟩:=h;obtain⟨t,rfl⟩:=rx;obtain⟨t',rfl⟩:=ry;exact rule i j t t' s _ _ ⟨.int (g i j),H,I.tok _,⟨_,rfl⟩,q⟩
theorem aVb {f:Value->Value->Sem Value}{g:Int->Int->Bool}
 (rule:∀ (i j:Int) (t u:Tok) (s:Shared) (Q:Value->Shared->Prop) (E:Value->Shared->Prop),Q (.bool (g i j)) s->wpAny (model X.prog X.w) X.A (f (.int i t) (.int j u)) Q E s) :
 OpR X f (rI0 fun i j=>.bl (g i j)):=by
 intro pins s σ H x y v u Q I rx ry h;obtain⟨i,j,rfl,rfl,q⟩:=h;obtain⟨t,rfl⟩:=rx;obtain⟨t',rfl⟩:=ry;exact rule i j t t' s _ _ ⟨.bl (g i j),H,I,rfl,q⟩
theorem aR2:OpR X (binaryOp .Add) (rI0 fun i j=>.int (i+j)):=aSo fun _ _ _ _ _ _ _ q=>add_int q
theorem aPz:OpR X (binaryOp .Sub) (rI0 fun i j=>.int (i-j)):=aSo fun _ _ _ _ _ _ _ q=>sub_int q
theorem aQ9:OpR X (binaryOp .Mod) (rI (fun _ j=>0<j) fun i j=>.int (i%j)):=opI fun i j _ _ _ _ _ hc q=>by
 have h1:(0:Int)<j:=hc;exact mod_int' (by omega) (by rw[Int.fmod_eq_emod_of_nonneg i (by omega)];exact q)
theorem aM1:OpR X (binaryOp .Mod) (rI (fun _ j=>j≠0) fun i j=>.int (i.fmod j)):=opI fun _ _ _ _ _ _ _ hc q=>mod_int' hc q
theorem unI {f:Value->Sem Value}{g:Int->Int}
 (rule:∀ (i:Int) (t:Tok) (s:Shared) (Q:Value->Shared->Prop) (E:Value->Shared->Prop),Q (.int (g i) s.toks) { s with toks:=s.toks+1 }->wpAny (model X.prog X.w) X.A (f (.int i t)) Q E s) :
 UnR X f (rU fun i=>.int (g i)):=by
 intro pins s σ H x v Q I rx h;obtain⟨i,rfl,q⟩:=h;obtain⟨t,rfl⟩:=rx;exact rule i t s _ _ ⟨.int (g i),H,I.tok _,⟨_,rfl⟩,q⟩
theorem aQq:UnR X (unaryOp .USub) (rU fun i=>.int (-i)):=unI fun _ _ _ _ _ q=>neg_int q
end
section
variable {X:Cx}{a b c:Expr}{ta tb tc:TE}{pos:Pos}
theorem aTi:OpR X (compareOp .Lt) (rI0 fun i j=>.bl (decide (i<j))):=aVb fun _ _ _ _ _ _ _ q=>lt_int q
theorem aUn:OpR X (compareOp .Gt) (rI0 fun i j=>.bl (decide (j<i))):=aVb fun _ _ _ _ _ _ _ q=>gt_int q
theorem rZ (b:Expr){op:CmpOp}(h:op≠.In:=by decide)(h2:op≠.NotIn:=by decide):behindInMarks op b=false:=by
 have e1:(op==CmpOp.In)=false:=by cases op<;>first | rfl | exact absurd rfl h
 have e2:(op==CmpOp.NotIn)=false:=by cases op<;>first | rfl | exact absurd rfl h2
 cases b<;>simp[behindInMarks,e1,e2]
theorem aLo {op:CmpOp}{r:R2}(ho:OpR X (compareOp op) r)(ha:PE X a ta)(hb:PE X b tb)(hm:behindInMarks op b=false):PE X (.Compare a [op] [b] pos) (tOp r ta tb):=by
 intro pins s σ H Q I h;exact wpAny_Compare1 (aRm ha hb I h fun v u s2 x y H2 I2 rx ry q=>ho pins s2 σ H2 x y v u Q I2 rx ry q) hm
def aTz (t:TE):TT:=fun σ H Q=>t σ H fun x H'=>∃ k,x=.bl k/\Q k H'
theorem aNs {op:CmpOp}{r:R2}(ho:OpR X (compareOp op) r)(ha:PE X a ta)(hb:PE X b tb)(hm:behindInMarks op b=false):PT X (.Compare a [op] [b] pos) (aTz (tOp r ta tb)):=by
 intro pins s σ H Q I h
 refine wpAny_isTrue_Compare1 (thn (ha pins s σ H _ I h) fun v s1 ⟨x,H1,I1,r1,q1⟩=>thn (hb pins s1 σ H1 _ I1 q1) fun u s2 ⟨y,H2,I2,r2,q2⟩ =>
  thn (ho pins s2 σ H2 x y v u _ I2 r1 r2 q2) fun c s3 ⟨z,H3,I3,r3,k,e,q3⟩=>?_) hm
 subst e;cases r3;exact wpAny_truthy_bool ⟨H3,I3,q3⟩
def aUq (K:PySem.W.Frag)(x:V)(H:Hp)(k:Bool):Prop :=
 match x with
 | .non=>k=false
 | .bl b=>k=b
 | .int i=>k=(i != 0)
 | .str y=>y.length<=sizeLine/\k=((y.length:Int) != 0)
 | .byt y=>y.size<=sizeLine/\k=((y.size:Int) != 0)
 | .ref p=>(∃ xs,SqL K H p xs/\k=!xs.isEmpty)\/(∃ xs,SqT K H p xs/\k=!xs.isEmpty)\/∃ kvs,H p=some (.dK kvs)/\k=!kvs.isEmpty
 | _=>False
theorem aCp {κ:Type}{kvs:List (κ×V)}{vs:List (κ×Value)}(r:KV kvs vs):(!vs.isEmpty)=!kvs.isEmpty:=by
 cases r<;>rfl
theorem rV {xs:List V}{its:List Value}(r:bA xs its):(!its.toArray.isEmpty)=!xs.isEmpty:=by
 cases r<;>simp
theorem sG:(sizeLine:Nat)<2^63:=by rw[sizeLine_eq];decide
theorem pS:aV3 X (fun x H Q=>∃ k,aUq X.K x H k/\Q k H):=by
 intro pins s σ H x v Q I rx h;obtain⟨k,e,q⟩:=h;have hl:=sG;have hs:sizeLine=16777216:=sizeLine_eq;cases x with
 | non =>
  cases rx;have e':k=false:=e;subst e';exact truthy_none ⟨H,I,q⟩
 | bl b =>
  cases rx;have e':k=b:=e;subst e';exact wpAny_truthy_bool ⟨H,I,q⟩
 | int i =>
  obtain⟨t,rfl⟩:=rx;have e':k=(i != 0):=e;subst e';exact PySem.P.truthy_int ⟨H,I,q⟩
 | str y =>
  obtain⟨t,rfl⟩:=rx;obtain⟨hy,e'⟩:y.length<=sizeLine/\k=((y.length:Int) != 0):=e;subst e';exact PySem.P.truthy_str (by omega) ⟨H,I.tok _,q⟩
 | byt y =>
  obtain⟨t,rfl⟩:=rx;obtain⟨hy,e'⟩:y.size<=sizeLine/\k=((y.size:Int) != 0):=e;subst e';exact PySem.W.truthy_bytes (by omega) ⟨H,I.tok _,q⟩
 | ref p =>
  cases rx;have e':(∃ xs,SqL X.K H p xs/\k=!xs.isEmpty)\/(∃ xs,SqT X.K H p xs/\k=!xs.isEmpty)\/∃ kvs,H p=some (.dK kvs)/\k=!kvs.isEmpty:=e;rcases e' with ⟨xs,hx,e'⟩ | ⟨xs,hx,e'⟩ | ⟨kvs,hx,e'⟩
  · subst e'
    obtain⟨its,r,pl,hz⟩:=I.list hx;have hlen:=r.length;exact wpAny_truthy_list pl.isList (by simp only[Aq];omega) ⟨H,I.tok _,by rw[rV r];exact q⟩
  · subst e'
    obtain⟨its,r,pl,hz⟩:=I.tuple hx;have hlen:=r.length;exact truthy_tuple pl (by simp only[Aq];omega) ⟨H,I.tok _,by rw[rV r];exact q⟩
  · subst e'
    obtain⟨hz,hS,vs,r,m⟩:kvs.length<=sizeLine/\(p==sysModules)=false/\∃ vs,KV kvs vs/\s.heap.DictOf (cQ X.prog X.w) p vs:=I.hok p _ hx;have hlen:kvs.length=vs.length:=Paired.length r;exact wpAny_truthy_dict hS m (by omega) ⟨H,I.tok _,by rw[aCp r];exact q⟩
 | _=>exact(show False from e).elim
theorem aIw (ha:PE X a ta)(he:∀ whole,isTrue a X.env whole=(do let v ← whole;standAt a.pos;holding [v] (truthy v))) :
 PT X a (fun σ H Q=>ta σ H fun x H'=>∃ k,aUq X.K x H' k/\Q k H'):=by
 intro pins s σ H Q I h;exact isTrue_plain (thn (ha pins s σ H _ I h) fun v s1 ⟨x,H1,I1,r1,q1⟩=>pS pins s1 σ H1 x v Q I1 r1 q1) (he _)
theorem oG {x:V}{us:List Value}(r:bA [x] us):∃ u,us=[u]/\bF x u:=by
 cases r with
 | cons r1 r2=>cases r2;exact⟨_,rfl,r1⟩
theorem aJp {x y:V}{us:List Value}(r:bA [x,y] us):∃ u w',us=[u,w']/\bF x u/\bF y w':=by
 cases r with
 | cons r1 r2 =>
  cases r2 with
  | cons r3 r4=>cases r4;exact⟨_,_,rfl,r1,r3⟩
theorem aHa:kS X (.builtin "abs") (fun xs H Q=>∃ i,xs=[.int i]/\Q (.int (if i<0 then -i else i)) H):=by
 intro pins s σ H xs us Q I r h;obtain⟨i,rfl,q⟩:=h;obtain⟨u,rfl,t,rfl⟩:=oG r;exact call_abs_int fun u tk=>⟨.int (if i<0 then -i else i),H,I.tok _,⟨_,rfl⟩,q⟩
end
end L2
namespace L2
open PySem PySem.Spec PyProof.Rows
structure ObjM (h:Heap)(x dx C:Addr)(mA:Str->Option Value):Prop where
 obj:h.get? x=some (Ed C dx)
 ns:h.Ns1 dx mA
 ne:dx≠x
theorem aFk {h:Heap}{dx:Addr}{mA:Str->Option Value}(n:h.Ns1 dx mA):∃ od,h.get? dx=some od/\∀ name,Il name od=some (mA name):=by
 obtain⟨o,es,ep,ho,hd,hk,_,hm⟩:=n;refine⟨o,ho,fun name=>?_⟩
 have e:=hm name;unfold nsFind findBy at e;rw[←Array.find?_toList]at e;unfold Il;rw[hd];dsimp only
 split
 · rename_i y q
   rw[q]at e;exact congrArg some e
 · rename_i q
   rw[q]at e
   have a:es.toList.any (·.refKey)=false:=by
    rw[List.any_eq_false];intro y hy;obtain⟨z,t,hkey⟩:=hk y (Array.mem_toList_iff.mp hy);simp[DictEntry.refKey,hkey]
   have a':¬ es.toList.any (·.refKey)=true:=by rw[a];exact Db
   rw[if_neg a'];exact congrArg some e
theorem ObjM.look {h:Heap}{x dx C:Addr}{mA:Str->Option Value}(I:ObjM h x dx C mA):∃ od,PySem.W.InstAt h x (Ed C dx) C (some od)/\∀ name,Il name od=some (mA name) :=
 let ⟨od,ho,hl⟩:=aFk I.ns
 ⟨od,⟨I.obj,rfl,rfl,ho⟩,hl⟩
section
variable {prog:Program}{w:World}{A:Around}{E:Value->Shared->Prop}{s:Shared}{K:PySem.W.Frag}{x dx C f:Addr}{mA:Str->Option Value}{name:Str}{v:Value}
theorem aMm {expr:Bool}{Q:Value->Shared->Prop}(X:K.In s.heap)(I:ObjM s.heap x dx C mA)(hg:Gg K C name=true)(hh:Fy K C=true)
 (ha:Bf K (.ref C) name=some none) (hv:mA name=some v) (hv':PySem.W.handedIn v=true) (h:Q v { s with toks:=s.toks+1 }) :
 wpAny (model prog w) A (getAttr (.ref x) name expr) Q E s:=by
 obtain⟨od,J,hl⟩:=I.look;exact PySem.W.get_value X J (PySem.W.plainGet_of hg).1 (PySem.W.findObj_own hh ha rfl (by rw[hl,hv])) hv' h
theorem aL7 {ns:List Str}{Q:Unit->Shared->Prop}(X:K.In s.heap)(I:ObjM s.heap x dx C mA)
 (hs:Bf K (.ref C) "__setattr__" = some (some (.builtin "object.__setattr__"))) (hp:Hh K C=true) (ht:Iq9 K C name=some none) (hh:Fy K C=true)
 (hw:PySem.Within mA ns) (hsz:ns.length<=sizeLine)
 (h:∀ h',ObjM h' x dx C (fun y=>if y=name then some v else mA y)->Heap.SameBut dx s.heap h'->Q () { s with heap:=h',toks:=s.toks+2 }) :
 wpAny (model prog w) A (setAttr (.ref x) name v) Q E s:=by
 obtain⟨od,J,hl⟩:=I.look;refine PySem.W.set_plain X J hs (PySem.W.osa_open (s:={ s with toks:=s.toks+1 }) (r:=none) X J hp ht fun b=>?_)
 obtain⟨cd,hc,hd'⟩:=PySem.W.any_some hh;have hx:s.heap.get? x=some ⟨.ref C,some dx,.plain,#[]⟩:=I.obj;refine wpAny_bind (wpAny_pure (wpAny_bind (wpAny_bind (wpAny_loadPart hx (wpAny_bind (PySem.W.Looks.here (s:={ s with toks:=s.toks+1 }) (PySem.W.looks_clsIn X hc) ?_))))))
 rw[hd'];refine wpAny_pure (a:=some dx) (wpAny_bind (wpAny_pure (wpAny_bind ?_)))
 refine wpAny_nsSet1 (s:={ s with toks:=s.toks+1 }) I.ns fun h' hn2 hs2=>?_
 obtain⟨oD,esD,epD,hoD,hdD,hcD⟩:=hn2.count (PySem.Within.cons name v hw);refine wpAny_bind (wpAny_lookBehind hoD (by rw[hdD];exact pastItsLine_dict (Bj hcD (by rw[Al];omega))) ?_)
 exact wpAny_pure (h _ ⟨(hs2.2 _ (Ne.symm I.ne)).trans I.obj,hn2,I.ne⟩ hs2)
theorem aIn {R:Result->Shared->Prop}{vs:List Value}{kw:List (Str×Value)}(X:K.In s.heap)(hm:Ie K C=true)
 (hi:Bf K (.ref C) "__init__" = some (some (.ref f))) (hf:PySem.W.typeIn K (.ref f)=some (.type "function"))
 (h:codeAny (model prog w) (A.under (.builtin "type.__call__" ⟨.ref C :: vs,kw⟩)) (.call (.ref f) ⟨.ref (s.heap.objs.size+1) :: vs,kw⟩) (PySem.W.InitBack (s.heap.objs.size+1) R)
  { s with heap:=(s.heap.push Dg).push (Ed C s.heap.objs.size) }) :
 codeAny (model prog w) A (.call (.ref C) ⟨vs,kw⟩) R s:=by
 obtain⟨hh,g,d,t,os⟩:=s;exact PySem.W.make_core (PySem.W.makes_of X hm) (PySem.W.looks_findIn X hi) (fun self=>PySem.W.bind_fn X self hf) (.inl rfl) h
end
def lY (f:Str)(v:V):List (Str×V)->List (Str×V)
 | []=>[(f,v)]
 | (g,x) :: r=>if g=f then (g,v) :: r else (g,x) :: lY f v r
theorem qJ (f g:Str)(v:V):∀ fs:List (Str×V),(lY f v fs).lookup g=if g=f then some v else fs.lookup g
 | []=>by
  show El g [(f,v)]=_
  by_cases h:g=f
  · have hb:(g==f)=true:=beq_iff_eq.mpr h
    simp only[El,hb,if_pos h]
  · have hb:(g==f)=false:=beq_eq_false_iff_ne.mpr h
    simp only[El,hb,if_neg h]
 | (k,x) :: r=>by
  have ih:=qJ f g v r;rw[show lY f v ((k,x) :: r)=(if k=f then (k,v) :: r else (k,x) :: lY f v r) from rfl]
  by_cases hk:k=f
  · rw[if_pos hk]
    by_cases h:g=k
    · have hb:(g==k)=true:=beq_iff_eq.mpr h
      simp only[El,hb,if_pos (h.trans hk)]
    · have hb:(g==k)=false:=beq_eq_false_iff_ne.mpr h
      simp only[El,hb,if_neg (fun e:g=f=>h (e.trans hk.symm))]
  · rw[if_neg hk]
    by_cases h:g=k
    · have hb:(g==k)=true:=beq_iff_eq.mpr h
      simp only[El,hb,if_neg (fun e:g=f=>hk (h.symm.trans e))]
    · have hb:(g==k)=false:=beq_eq_false_iff_ne.mpr h
      simp only[El,hb];exact ih
theorem pX (f:Str)(v:V):∀ fs:List (Str×V),f∈(lY f v fs).map (·.1)/\∀ g,g∈fs.map (·.1)->g∈(lY f v fs).map (·.1)
 | []=>⟨by simp[lY],fun g h=>by simp at h⟩
 | (k,x) :: r=>by
  obtain⟨i1,i2⟩:=pX f v r;rw[show lY f v ((k,x) :: r)=(if k=f then (k,v) :: r else (k,x) :: lY f v r) from rfl]
  by_cases hk:k=f
  · rw[if_pos hk]
    subst hk;exact⟨by simp,fun g h=>by simpa using h⟩
  · rw[if_neg hk]
    refine⟨?_,fun g h=>?_⟩
    · rw[Ai]
      exact Ac _ i1
    · rw[Ai]at h ⊢
      rcases Aj.mp h with e | e
      · exact Aj.mpr (.inl e)
      · exact Ac _ (i2 g e)
theorem qM (f:Str)(v:V):∀ fs:List (Str×V),(lY f v fs).length<=fs.length+1
 | []=>by simp[lY]
 | (k,x) :: r=>by
  have ih:=qM f v r;rw[show lY f v ((k,x) :: r)=(if k=f then (k,v) :: r else (k,x) :: lY f v r) from rfl]
  by_cases hk:k=f
  · rw[if_pos hk,Al,Al];omega
  · rw[if_neg hk,Al,Al];omega
theorem mO.some_of {v:V}{o:Option Value}(r:mO (some v) o):∃ u,o=some u/\bF v u:=by
 cases o with
 | none=>exact(show False from r).elim
 | some u=>exact⟨u,rfl,r⟩
theorem aF6 {v:V}{u:Value}(r:bF v u):PySem.W.handedIn u=true:=by
 cases v with
 | non=>cases (show u=Value.none from r);rfl
 | bl b=>cases (show u=Value.bool b from r);rfl
 | int i=>obtain⟨t,e⟩:=(show ∃ t,u=Value.int i t from r);cases e;rfl
 | str x=>obtain⟨t,e⟩:=(show ∃ t,u=Value.str x t from r);cases e;rfl
 | byt b=>obtain⟨t,e⟩:=(show ∃ t,u=Value.bytes b t from r);cases e;rfl
 | flt b=>obtain⟨t,e⟩:=(show ∃ t,u=Value.float b t from r);cases e;rfl
 | ref a=>cases (show u=Value.ref a from r);rfl
 | ty n=>cases (show u=Value.type n from r);rfl
section
variable {P:Program}{w:World}{H H':Hp}{h h':Heap}{a C dx:Addr}{fs fs':List (Str×V)}
theorem yL (hok:HOk P w H h)(e:H a=some (.ins C dx fs)):∃ mA,ObjM h a dx C mA/\(∀ f,mO (fs.lookup f) (mA f))/\PySem.Within mA (fs.map (·.1))/\fs.length<=1000/\H dx=some (.own a):=by
 obtain⟨d,z,ne,ob,mA,n,r,q⟩:=(show bP P w H h a (.ins C dx fs) from hok a _ e)
 exact⟨mA,⟨ob,n,ne⟩,r,q,z,d⟩
end
structure Cls (K:PySem.W.Frag)(C:Addr):Prop where
 pg:Gg K C Str.empty=true
 hd:Fy K C=true
 po:Hh K C=true
 sa:Bf K (.ref C) "__setattr__" = some (some (.builtin "object.__setattr__"))
theorem Cls.get {K:PySem.W.Frag}{C:Addr}(c:Cls K C)(f:Str):Gg K C f=true:=c.pg
def kU (K:PySem.W.Frag)(C:Addr)(f:Str):Prop:=Bf K (.ref C) f=some none
theorem kU.taker {K:PySem.W.Frag}{C:Addr}{f:Str}(n:kU K C f):Iq9 K C f=some none:=by
 unfold Iq9;rw[show Bf K (.ref C) f=some none from n]
 rfl
section
variable {X:Cx}{pins:List (Addr×Obj)}{σ:St}{H:Hp}{s:Shared}{a C dx:Addr}{fs:List (Str×V)}{f:Str}{v:V}{A:Around}{E:Value->Shared->Prop}
theorem aB9 {b:Bool}{Q:Value->Shared->Prop}(I:Inv X pins σ H s)(e:H a=some (.ins C dx fs))(c:Cls X.K C)(n:kU X.K C f)(l:fs.lookup f=some v)
 (h:∀ u s',Inv X pins σ H s'->bF v u->Q u s'):wpAny (model X.prog X.w) A (getAttr (.ref a) f b) Q E s:=by
 obtain⟨mA,O,r,_,_,_⟩:=yL I.hok e;obtain⟨u,hu,ru⟩:=mO.some_of (v:=v) (o:=mA f) (by rw[←l];exact r f)
 exact aMm I.kIn O (c.get f) c.hd n hu (aF6 ru) (h u _ (I.tok _) ru)
theorem aCc {y:V}{u:Value}{Q:Unit->Shared->Prop}(I:Inv X pins σ H s)(e:H a=some (.ins C dx fs))(c:Cls X.K C)(n:kU X.K C f)(hl:fs.length<1000)(ry:bF y u)
 (h:∀ s',Inv X pins σ (upd H a (.ins C dx (lY f y fs))) s'->Q () s'):wpAny (model X.prog X.w) A (setAttr (.ref a) f u) Q E s:=by
 obtain⟨mA,O,r,wi,_,ho⟩:=yL I.hok e;have hz:(fs.map (·.1)).length<=sizeLine:=by rw[Ad,sizeLine_eq];omega
 refine aL7 I.kIn O c.sa c.po n.taker c.hd wi hz fun h' O' sb=>h _ ?_
 have hd:∃ o,h'.get? dx=some o:=let ⟨o,_,_,e',_⟩:=O'.ns;⟨o,e'⟩
 refine I.write (x:=a) (e:=dx) (by rw[e];exact True.intro) (.inr ho) (fun b q hb z=>(sb.2 b hb).trans z) hd ?_
 refine⟨by rw[aH O.ne];exact ho,?_,O.ne,O'.obj,_,O'.ns,fun g=>?_,fun g hg=>?_⟩
 · have:=qM f y fs;omega
 · show mO ((lY f y fs).lookup g) (if g=f then some u else mA g)
   rw[qJ];by_cases q:g=f
   · rw[if_pos q,if_pos q];exact ry
   · rw[if_neg q,if_neg q];exact r g
 · by_cases q:g=f
   · rw[q];exact(pX f y fs).1
   · refine(pX f y fs).2 g (wi g fun z=>hg ?_)
     show (if g=f then some u else mA g)=none
     rw[if_neg q];exact z
theorem Inv.made (I:Inv X pins σ H s):Inv X pins σ (upd (upd H s.heap.objs.size (.own (s.heap.objs.size+1))) (s.heap.objs.size+1) (.ins C s.heap.objs.size []))
 { s with heap:=(s.heap.push Dg).push (Ed C s.heap.objs.size) }:=by
 have e1:(s.heap.push Dg).get? s.heap.objs.size=some Dg:=Bb s.heap rfl
 have e2:((s.heap.push Dg).push (Ed C s.heap.objs.size)).get? (s.heap.objs.size+1)=some (Ed C s.heap.objs.size):=by
  have:=Bb (s.heap.push Dg) (o:=Ed C s.heap.objs.size) rfl
  rwa [Cd]at this
 have e3:(s.heap.push Dg).Ns s.heap.objs.size (fun _=>none):=⟨Dg,#[],_,e1,rfl,(fun e he=>absurd he (by simp)),fun _=>rfl⟩
 have I1:=I.laid (a:=s.heap.objs.size) (o:=.own (s.heap.objs.size+1)) (h':=s.heap.push Dg) (t':=s.toks) (fun b u q=>Ag _ q) (Am _) ⟨_,e1⟩;refine I1.laid (a:=s.heap.objs.size+1) (o:=.ins C s.heap.objs.size []) (t':=s.toks) (fun b u q=>Ag _ q) (Nat.le_of_eq (Cd _ _)) ?_
 have ne:s.heap.objs.size≠s.heap.objs.size+1:=Bq (Hv _);refine⟨by rw[aH ne,aX],Cc _,ne,e2,fun _=>none,(Heap.Ns1.of_empty e3).at fun o q=>Ag _ q,fun _=>True.intro,fun y hy=>absurd rfl hy⟩
theorem aL0 {prog:Program}{w:World}{env:Env}{e:Expr}{f:Str}{pos:Pos}{s:Shared}{Q:Value->Shared->Prop}(hb:attributeBase e f env (eval e env)=eval e env)
 (h:wpAny (model prog w) A (eval e env) (fun o s₁=>wpAny (model prog w) A (getAttr o f true) Q E s₁) E s):wpAny (model prog w) A (eval (.Attribute e f pos) env) Q E s :=
 Attribute_any_ h (by rw[arm_eval_Attribute,hb])
end
def aVm (K:PySem.W.Frag)(ta:TE)(f:Str):TE:=fun σ H Q=>ta σ H fun x H1=>∃ a C dx fs v,x=.ref a/\H1 a=some (.ins C dx fs)/\Cls K C/\kU K C f/\fs.lookup f=some v/\Q v H1
def aNk (K:PySem.W.Frag)(ta tv:TE)(f:Str):TS:=fun D σ H=>tv σ H fun y H1=>ta σ H1 fun x H2=>∃ a C dx fs,x=.ref a/\H2 a=some (.ins C dx fs)/\Cls K C/\kU K C f/\fs.length<1000 /\
 D.nx σ (upd H2 a (.ins C dx (lY f y fs)))
section
variable {X:Cx}{o e value:Expr}{f:Str}{pos pos' tpos:Pos}{ta tv:TE}
theorem aQ6 (he:PE X e ta)(hb:attributeBase e f X.env (eval e X.env)=eval e X.env):PE X (.Attribute e f pos) (aVm X.K ta f):=by
 intro pins s σ H Q I h;refine aL0 hb (thn (he pins s σ H _ I h) fun u s1 ⟨x,H1,I1,rx,a,C,dx,fs,v,ex,ea,c,n,l,q⟩=>?_)
 subst ex;obtain rfl:u=Value.ref a:=rx;exact aB9 I1 ea c n l fun u' s2 I2 ru=>⟨v,H1,I2,ru,q⟩
theorem aCm (ha:PE X o ta)(hv:PE X value tv)(hs:swapsWith value (some (.Attribute o f pos')) pos.line X.env=pure false):PS X (.Assign [.Attribute o f pos'] value pos) (aNk X.K ta tv f):=by
 intro pins s σ H D I h;refine plainObj_wpAny_Assign_Attribute (thn (hv pins s σ H _ I h) fun u s1 ⟨y,H1,I1,ry,q⟩=>thn (ha pins s1 σ H1 _ I1 q) fun ov s2 ⟨x,H2,I2,rx,a,C,dx,fs,ex,ea,c,n,l,q2⟩=>?_) hs
 subst ex;obtain rfl:ov=Value.ref a:=rx;exact aCc I2 ea c n l ry fun s3 I3=>⟨σ,_,I3,q2⟩
end
section
variable {X:Cx}{pins:List (Addr×Obj)}{σ:St}{H:Hp}{s:Shared}{A:Around}{E:Value->Shared->Prop}{Q:Value->Shared->Prop}{c:Value}{b:Bool}
inductive TyOf (K:PySem.W.Frag) (H:Hp):V->Value->Prop where
 | non:TyOf K H .non (.type "NoneType")
 | bl (x:Bool):TyOf K H (.bl x) (.type "bool")
 | int (i:Int):TyOf K H (.int i) (.type "int")
 | str (x:Str):TyOf K H (.str x) (.type "str")
 | flt (x:UInt64):TyOf K H (.flt x) (.type "float")
 | lst {a:Addr} {xs:List V} (e:H a=some (.lst xs)):TyOf K H (.ref a) (.type "list")
 | frz {a:Addr} {o:Obj} {xs:List V} (e:H a=some (.frz o (.lst xs))):TyOf K H (.ref a) (.type "list")
 | tup {a:Addr} {xs:List V} (e:H a=some (.tup xs)):TyOf K H (.ref a) (.type "tuple")
 | dK {a:Addr} {kvs:List (Key×V)} (e:H a=some (.dK kvs)):TyOf K H (.ref a) (.type "dict")
 | dT {a:Addr} {kvs:List (List Key×V)} (e:H a=some (.dT kvs)):TyOf K H (.ref a) (.type "dict")
 | ins {a C dx:Addr} {fs:List (Str×V)} (e:H a=some (.ins C dx fs)) (cl:Cls K C) (ha:Bf K (.ref C) "__class__" = some (some (.builtin "object.__class__")))
  (hn:PySem.W.specialIn K (.builtin "object.__class__") "__get__" = some (some (.builtin "getset_descriptor.__get__"))) (htk:PySem.W.takesIn K (.builtin "object.__class__")=some true)
  (hm:PySem.W.mroIn K C (.type "object")=some true):TyOf K H (.ref a) (.ref C)
theorem aF2 {x:V}{u t:Value}(I:Inv X pins σ H s)(rx:bF x u)(ty:TyOf X.K H x t)(e:Gz X.K t c=some b)(h:∀ tk,Q (.bool b) { s with toks:=tk }) :
 wpAny (model X.prog X.w) A (call (.builtin "isinstance") [u,c]) Q E s:=by
 cases ty with
 | non=>cases (show u=Value.none from rx);exact Dc PySem.W.kitx_none I.kIn True.intro e (fun z=>nomatch z) h
 | bl y=>cases (show u=Value.bool y from rx);exact Dc PySem.W.kitx_bool I.kIn True.intro e (fun z=>nomatch z) h
 | int i=>obtain⟨t,q⟩:=(show ∃ t,u=Value.int i t from rx);cases q;exact Dc PySem.W.kitx_int I.kIn True.intro e (fun z=>nomatch z) h
 | str y=>obtain⟨t,q⟩:=(show ∃ t,u=Value.str y t from rx);cases q;exact Dc PySem.W.kitx_str I.kIn True.intro e (fun z=>nomatch z) h
 | flt y=>obtain⟨t,q⟩:=(show ∃ t,u=Value.float y t from rx);cases q;exact Dc PySem.W.kitx_float I.kIn True.intro e (fun z=>nomatch z) h
 | @lst a xs ea =>
  cases (show u=Value.ref a from rx)
  obtain⟨_,_,n,_,h1⟩:=(show bP X.prog X.w H s.heap a (.lst xs) from I.hok a _ ea)
  exact Dc PySem.W.kitx_list I.kIn ⟨_,h1,rfl⟩ e (fun z=>nomatch z) h
 | @frz a ob xs ea =>
  cases (show u=Value.ref a from rx)
  obtain⟨_,_,_,n,_,h1⟩:=(show bP X.prog X.w H s.heap a (.frz ob (.lst xs)) from I.hok a _ ea)
  exact Dc PySem.W.kitx_list I.kIn ⟨_,h1,rfl⟩ e (fun z=>nomatch z) h
 | @tup a xs ea =>
  cases (show u=Value.ref a from rx)
  obtain⟨_,_,_,p⟩:=(show bP X.prog X.w H s.heap a (.tup xs) from I.hok a _ ea)
  obtain⟨o,h1,h2,_⟩:=p;exact Dc PySem.W.kitx_tuple I.kIn ⟨o,h1,h2⟩ e (fun z=>nomatch z) h
 | @dK a kvs ea =>
  cases (show u=Value.ref a from rx)
  obtain⟨_,_,vs,_,p⟩:=(show bP X.prog X.w H s.heap a (.dK kvs) from I.hok a _ ea)
  obtain⟨o,es,ep,h1,h2,_⟩:=p;exact Dc PySem.W.kitx_dict I.kIn ⟨o,h1,h2.1⟩ e (fun z=>nomatch z) h
 | @dT a kvs ea =>
  cases (show u=Value.ref a from rx)
  obtain⟨_,_,xs,_,o,es,ep,h1,h2,_⟩:=(show bP X.prog X.w H s.heap a (.dT kvs) from I.hok a _ ea)
  exact Dc PySem.W.kitx_dict I.kIn ⟨o,h1,h2.1⟩ e (fun z=>nomatch z) h
 | @ins a C dx fs ea cl ha hn htk hm =>
  cases (show u=Value.ref a from rx)
  obtain⟨mA,O,_⟩:=yL I.hok ea;obtain⟨od,J,_⟩:=O.look;exact Dc (PySem.W.kitx_own (cl.get _) cl.hd ha hn htk hm) I.kIn J e (fun z=>nomatch z) h
end
end L2
namespace L2
open PySem PySem.Spec PyProof.Rows
structure Room (k:Nat)(A:Around):Prop where
 hd:A.handled=none
 dp:A.depth+3*k+5<recursionLimit
 un:A.units+16*k+200<cLine
theorem Room.mono {j k:Nat}{A:Around}(r:Room k A)(h:j<=k):Room j A:=⟨r.hd,by have:=r.dp;omega,by have:=r.un;omega⟩
theorem Room.deeper {k:Nat}{A:Around}(r:Room (k+1) A)(env:Env):Room k (A.deeper env) :=
 ⟨r.hd,by have:=r.dp;show A.depth+1+3*k+5<_;omega,by have:=r.un;show A.units+3+16*k+200<_;omega⟩
theorem aCh {A:Around}{C:Addr}{us:List Value}{kw:List (Str×Value)}:(A.under (.builtin "type.__call__" ⟨.ref C :: us,kw⟩)).depth=A.depth+1:=by
 first | rfl | simp[Around.under,Code.weight,Code.isCreation,Code.isGuard,Code.isCaller,Code.frames,Code.isFrame,guardIds]
theorem aCa {A:Around}{C:Addr}{us:List Value}{kw:List (Str×Value)}:(A.under (.builtin "type.__call__" ⟨.ref C :: us,kw⟩)).units=A.units+1:=by
 first | rfl | simp[Around.under,Code.cUnits,Code.frames,Code.isFrame]
theorem Room.make {k:Nat}{A:Around}(r:Room (k+1) A)(C:Addr)(us:List Value)(kw:List (Str×Value)):Room k (A.under (.builtin "type.__call__" ⟨.ref C :: us,kw⟩)) :=
 ⟨r.hd,by have:=r.dp;rw[aCh];omega,by have:=r.un;rw[aCa];omega⟩
theorem Room.depth {k:Nat}{A:Around}(r:Room k A):A.depth<recursionLimit:=by have:=r.dp;omega
theorem Room.units {k:Nat}{A:Around}(r:Room k A):A.units+64<cLine:=by have:=r.un;omega
def aVn:TA:=fun _ H Q=>Q [] H
def aUh (ta:TE)(tr:TA):TA:=fun σ H Q=>ta σ H fun x H1=>tr σ H1 fun xs H2=>Q (x :: xs) H2
section
variable {X:Cx}{e:Expr}{es:List Expr}{te:TE}{t:TA}{pos:Pos}
theorem xB:PA X [] aVn:=fun _ _ _ _ H Q I h=>Calls.spliced_nil ⟨[],H,I,.nil,h⟩
theorem nQ (ha:PE X e te)(hr:PA X es t)(hs:starEach (e :: es) X.env=(false,eval e X.env) :: starEach es X.env:=by rfl):PA X (e :: es) (aUh te t):=by
 intro pos pins s σ H Q I h;rw[hs];show wpAny _ _ (spliced ((false,eval e X.env) :: backTo pos (starEach es X.env))) _ _ s
 refine Calls.spliced_cons (thn (ha pins s σ H _ I h) fun u s1 ⟨x,H1,I1,r1,q1⟩=>?_)
 exact thn (hr pos pins s1 σ H1 _ I1 q1) fun us s2 ⟨xs,H2,I2,r2,q2⟩=>⟨x :: xs,H2,I2,.cons r1 r2,q2⟩
def aVo (t:TA):TE:=fun σ H Q=>t σ H fun xs H1=>xs.length<=sizeLine/\∀ p,H1 p=none->Q (.ref p) (upd H1 p (.tup xs))
def aVi (t:TA):TE:=fun σ H Q=>t σ H fun xs H1=>xs.length<=sizeLine/\∀ p,H1 p=none->Q (.ref p) (upd H1 p (.lst xs))
theorem aP2 {x1}(h:PA X es t):PE X (.Tuple es x1 pos) (aVo t):=by
 intro pins s σ H Q I hq;refine wpAny_Tuple_spliced (thn (h pos pins s σ H _ I hq) fun us s1 ⟨xs,H1,I1,r,z,q⟩=>⟨by rw[←r.length];exact z,?_⟩)
 have hf:H1 s1.heap.objs.size=none:=I1.hok.fresh (Am _);refine⟨.ref s1.heap.objs.size,upd H1 s1.heap.objs.size (.tup xs),I1.laid (t':=s1.toks) (fun b u e=>Ag _ e) (Am _) ?_,rfl,q _ hf⟩
 exact⟨z,us,r,⟨_,Bb _ rfl,rfl,_,rfl⟩⟩
theorem aRy (h:PA X es t):PE X (.List es pos) (aVi t):=by
 intro pins s σ H Q I hq;refine wpAny_List_spliced (thn (h pos pins s σ H _ I hq) fun us s1 ⟨xs,H1,I1,r,z,q⟩=>⟨by rw[←r.length];exact z,?_⟩)
 have hf:H1 s1.heap.objs.size=none:=I1.hok.fresh (Am _);refine⟨.ref s1.heap.objs.size,upd H1 s1.heap.objs.size (.lst xs),I1.laid (t':=s1.toks) (fun b u e=>Ag _ e) (Am _) ?_,rfl,q _ hf⟩
 exact⟨z,us,0,r,Bb _ rfl⟩
end
abbrev Sp:=List V->Hp->VK->XK->Prop
abbrev CXT:=List Env->Hp->Shared->XK->Value->Shared->Prop
structure Env0 (P:Program)(w:World)(K:PySem.W.Frag)(mg:Str->Option Value)(base:Heap)(A:Around)(outer:List Env)(s:Shared)(H:Hp):Prop where
 frames:A.frames=some outer
 mod:Mod K mg base
 bs:∀ b o,base.get? b=some o->s.heap.get? b=some o/\H b=none
 bsz:base.objs.size<=s.heap.objs.size
 funs:s.heap.FunFrames base outer
 frf:∀ b∈frs outer,H b=none
 hok:HOk P w H s.heap
 bare:AllBare s.gens
def CE (outer:List Env)(P:Program)(w:World)(H:Hp)(s:Shared)(Q:VK)(u:Value)(s':Shared):Prop :=
 ∃ v H',s'.os=s.os/\AllBare s'.gens/\Un (frs outer) [] H H' s.heap s'.heap/\HOk P w H' s'.heap/\bF v u/\Q v H'
def CR (CX:CXT)(outer:List Env)(P:Program)(w:World)(H:Hp)(s:Shared)(Q:VK)(E:XK)(r:Result)(s':Shared):Prop :=
 match r with
 | .ok (.ret u)=>CE outer P w H s Q u s'
 | .ok _=>False
 | .error e=>CX outer H s E e s'
structure FnOk (P:Program)(w:World)(K:PySem.W.Frag)(mg:Str->Option Value)(base:Heap)(CX:CXT)(k:Nat)(f:Addr)(fd:FuncData)(ps:List Str)(sp:Sp):Prop where
 len:∀ vs H Q E,sp vs H Q E->vs.length=ps.length
 run:∀ (A:Around) (outer:List Env) (s:Shared) (H:Hp) (args:Args) (us:List Value) (vs:List V) (Q:VK) (E:XK),Room k A->Env0 P w K mg base A outer s H->BindsTo s fd args (ps.zip us)->bA vs us->sp vs H Q E ->
  codeAny (model P w) A (.call (.ref f) args) (CR CX outer P w H s Q E) s
theorem FnOk.mono {P:Program}{w:World}{K:PySem.W.Frag}{mg:Str->Option Value}{base:Heap}{CX:CXT}{j k:Nat}{f:Addr}{fd:FuncData}{ps:List Str}{sp:Sp}(F:FnOk P w K mg base CX j f fd ps sp)(h:j<=k) :
 FnOk P w K mg base CX k f fd ps sp:=⟨F.len,fun A outer s H args us vs Q E hr=>F.run A outer s H args us vs Q E (hr.mono h)⟩
theorem Env0.make {P:Program}{w:World}{K:PySem.W.Frag}{mg:Str->Option Value}{base:Heap}{A:Around}{outer:List Env}{s:Shared}{H:Hp}(e:Env0 P w K mg base A outer s H)(C:Addr)(us:List Value)(kw:List (Str×Value)) :
 Env0 P w K mg base (A.under (.builtin "type.__call__" ⟨.ref C :: us,kw⟩)) outer s H:=⟨by first | exact e.frames | (simpa[Around.under,Code.envs,Code.isFrame,pushEnvs] using e.frames),e.mod,e.bs,e.bsz,e.funs,e.frf,e.hok,e.bare⟩
section
variable {X:Cx}{pins:List (Addr×Obj)}{σ:St}{H:Hp}{s s':Shared}
theorem Inv.env0 (I:Inv X pins σ H s):Env0 X.prog X.w X.K X.mg X.base X.A X.stack s H :=
 ⟨I.ok.frames,I.ok.mod,I.bs,Bj I.ok.bsz I.sz,I.stack,I.stkFree,I.hok,I.bare⟩
theorem Inv.after {Q:VK}{u:Value}(I:Inv X pins σ H s)(h:CE X.stack X.prog X.w H s Q u s'):EP X pins σ Q u s':=by
 obtain⟨v,H',os,bare,un,hok,r,q⟩:=h;obtain⟨hh,g,d,t,os'⟩:=s';obtain rfl:os'=s.os:=os;exact⟨v,H',I.call (h':=hh) (g':=g) (d':=d) (t':=t) (ch:=[]) un hok bare (fun b z=>absurd z (by simp)),r,q⟩
end
def aTm (C:Addr)(sp:Sp)(dvs:List V)(E:XK)(t:TA):TE:=fun σ H Q=>t σ H fun vs H1=>∀ x dx,H1 x=none->H1 dx=none->dx≠x ->
 sp (.ref x :: (vs++dvs)) (upd (upd H1 dx (.own x)) x (.ins C dx [])) (fun v H2=>v=.non/\Q (.ref x) H2) E
def mG (K:PySem.W.Frag)(fd:FuncData)(ps:List Str)(ds:List Value):Prop :=
 ∀ (s:Shared) (us:List Value),K.In s.heap->(us++ds).length=ps.length->BindsTo s fd ⟨us,[]⟩ (ps.zip (us++ds))
theorem mG.all {K:PySem.W.Frag}{fd:FuncData}{ps:List Str}(h:∀ us:List Value,us.length=ps.length->bindArgs fd ⟨us,[]⟩=pure (ps.zip us)):mG K fd ps []:=fun s us _ hl=>by
 rw[De]at hl ⊢;exact .of_eq (h us hl)
def aB0 (CX:CXT)(X:Cx)(E:XK):Prop:=∀ (pins:List (Addr×Obj)) (σ:St) (H:Hp) (s:Shared) (e:Value) (s':Shared),Inv X pins σ H s->CX X.stack H s E e s'->X.xe e s'
section
variable {X:Cx}{CX:CXT}{k:Nat}{f C:Addr}{fd:FuncData}{ps:List Str}{sp:Sp}{dvs:List V}{ds:List Value}{E:XK}{x m:Str}{p pos apos:Pos}{e o:Expr}{es:List Expr}{ta:TE}{t:TA}
structure Mk (K:PySem.W.Frag)(C f:Addr):Prop where
 makes:Ie K C=true
 init:Bf K (.ref C) "__init__" = some (some (.ref f))
 fn:PySem.W.isFn K (.ref f)=true
 kp:Ei K (.ref C)=true
theorem aIb {pins:List (Addr×Obj)}{σ:St}{H:Hp}{s:Shared}{Q:VK}{us:List Value}{vs:List V}(M:Mk X.K C f)(F:FnOk X.prog X.w X.K X.mg X.base CX k f fd ps sp)(hr:Room (k+1) X.A)(hb:mG X.K fd ps ds)(hd:bA dvs ds)
 (hx:aB0 CX X E) (I:Inv X pins σ H s) (r:bA vs us)
 (h:∀ x dx,H x=none->H dx=none->dx≠x->sp (.ref x :: (vs++dvs)) (upd (upd H dx (.own x)) x (.ins C dx [])) (fun v H2=>v=.non/\Q (.ref x) H2) E) :
 wpAny (model X.prog X.w) X.A (call (.ref C) us) (EP X pins σ Q) X.xe s:=by
 have hq:=h (s.heap.objs.size+1) s.heap.objs.size (I.hok.fresh (Nat.le_succ _)) (I.hok.fresh (Am _)) (Bq (Hv _));have I2:=Inv.made (C:=C) I;have r2:bA (V.ref (s.heap.objs.size+1) :: (vs++dvs)) (Value.ref (s.heap.objs.size+1) :: (us++ds)):=.cons rfl (r.append hd)
 have hl:(Value.ref (s.heap.objs.size+1) :: us++ds).length=ps.length:=by
  have e:=r2.length;rw[F.len _ _ _ _ hq]at e;exact e.symm
 refine wpAny_call (aIn (f:=f) I.kIn M.makes M.init (beq_iff_eq.mp M.fn) (codeAny_mono (F.run _ X.stack _ _ ⟨Value.ref (s.heap.objs.size+1) :: us,[]⟩ (Value.ref (s.heap.objs.size+1) :: (us++ds)) _ _ E (hr.make C us [])
  (I2.env0.make C us []) (hb _ (Value.ref (s.heap.objs.size+1) :: us) I2.kIn hl) r2 hq) fun r s' hq'=>?_))
 cases r with
 | error e=>exact hx pins σ _ _ e s' I2 hq'
 | ok fl =>
  cases fl with
  | ret u =>
   obtain⟨v,H',I3,rv,ev,q3⟩:=I2.after hq';subst ev;exact⟨rv,⟨V.ref (s.heap.objs.size+1),H',I3,rfl,q3⟩⟩
  | next=>exact False.elim hq'
  | brk=>exact False.elim hq'
  | cont=>exact False.elim hq'
theorem aMd (M:Mk X.K C f)(F:FnOk X.prog X.w X.K X.mg X.base CX k f fd ps sp)(hr:Room (k+1) X.A)(hg:Gl X x)(hm:X.mg x=some (.ref C))(hb:mG X.K fd ps ds)(hd:bA dvs ds)(hx:aB0 CX X E)
 (ha:PA X (e :: es) t) (hdb:(x==("__debug__":Str))=false:=by decide) (he:starEach (e :: es) X.env=(false,eval e X.env) :: starEach es X.env:=by rfl) (hpl:(backTo pos (starEach es X.env)).any (·.1)=false:=by rfl) :
 PE X (.Call (.Name x p) (e :: es) [] pos) (aTm C sp dvs E t):=by
 intro pins s σ H Q I h;refine wpAny_Call_Name_kw (yK I hg hm ?_ hdb)
 refine PySem.W.callWith_K (h₀:=X.base) I.ok.mod.kin M.kp (thn (ha pos pins s σ H _ I h) fun us s1 ⟨vs,H1,I1,r,q⟩=>⟨I1.kIn,?_⟩) he hpl
 exact aIb M F hr hb hd hx I1 r q
end
structure FnScope (N P:List Str)(sc:Scope):Prop where
 kind:sc.kind=.function
 co:sc.isCoroutine=false
 gen:sc.isGenerator=false
 nd:N.Nodup
 pre:N.take P.length=P
 par:∀ x∈P,sc.names.lookup x=some .local\/sc.names.lookup x=some .cell
 nofree:∀ y∈sc.names,y.2≠.free
theorem vZ {kindOf:Str->Option NameKind}{x:Str}:∀ {binds:List (Str×Value)} {m:Str->Option Value},(∀ v,(x,v)∉binds)->bindL kindOf binds m x=m x
 | [],_,_=>rfl
 | (n,v) :: r,m,h=>by
  unfold bindL;rw[vZ fun w hw=>h w (Ac _ hw)];split
  · have:x≠n:=by rintro rfl;exact h v Ab
    simp[this]
  · rfl
theorem vA {kindOf:Str->Option NameKind}{x:Str}:∀ {binds:List (Str×Value)} {m:Str->Option Value},(∀ v,(x,v)∉binds)->bindC kindOf binds m x=m x
 | [],_,_=>rfl
 | (n,v) :: r,m,h=>by
  unfold bindC;rw[vA fun w hw=>h w (Ac _ hw)];split
  · rfl
  · have:x≠n:=by rintro rfl;exact h v Ab
    simp[this]
theorem wD {kindOf:Str->Option NameKind}{x:Str}{v:Value}:∀ {P:List Str} {vs:List Value} {i:Nat} {m:Str->Option Value},P.Nodup->P[i]?=some x->vs[i]?=some v->kindOf x=some .local ->
 bindL kindOf (P.zip vs) m x=some v
 | [],_,_,_,_,h,_,_=>by simp at h
 | _ :: _,[],_,_,_,_,h,_=>by simp at h
 | p :: P,w :: vs,0,m,nd,h1,h2,hk=>by
  simp at h1 h2;subst h1;subst h2
  show bindL kindOf ((p,w) :: P.zip vs) m p=_
  unfold bindL;rw[vZ fun v hv=>(Br.mp nd).1 (Di hv).1,if_pos hk];simp
 | p :: P,w :: vs,i+1,m,nd,h1,h2,hk=>by
  show bindL kindOf ((p,w) :: P.zip vs) m x=_
  unfold bindL;exact wD (i:=i) (Br.mp nd).2 (by simpa using h1) (by simpa using h2) hk
theorem vQ {kindOf:Str->Option NameKind}{x:Str}{v:Value}:∀ {P:List Str} {vs:List Value} {i:Nat} {m:Str->Option Value},P.Nodup->P[i]?=some x->vs[i]?=some v->kindOf x≠some .local ->
 bindC kindOf (P.zip vs) m x=some v
 | [],_,_,_,_,h,_,_=>by simp at h
 | _ :: _,[],_,_,_,_,h,_=>by simp at h
 | p :: P,w :: vs,0,m,nd,h1,h2,hk=>by
  simp at h1 h2;subst h1;subst h2
  show bindC kindOf ((p,w) :: P.zip vs) m p=_
  unfold bindC;rw[vA fun v hv=>(Br.mp nd).1 (Di hv).1,if_neg hk];simp
 | p :: P,w :: vs,i+1,m,nd,h1,h2,hk=>by
  show bindC kindOf ((p,w) :: P.zip vs) m x=_
  unfold bindC;exact vQ (i:=i) (Br.mp nd).2 (by simpa using h1) (by simpa using h2) hk
def start (N:List Str)(vs:List V):St:=vs.map some++Aw (N.length-vs.length) none
def qS (CX:CXT)(P:Program)(w:World)(K:PySem.W.Frag)(mg:Str->Option Value)(base:Heap)(N:List Str)(qual:Str)(scope:Scope)(f:Addr)(cd:Value)(A:Around)(outer:List Env)(s:Shared)(H:Hp)(E:XK):Cx where
 prog:=P
 w:=w
 K:=K
 mg:=mg
 base:=base
 A:=A.deeper (envOfC qual scope s.heap.objs.size f cd)
 N:=N
 s₀:=s
 H₀:=H
 env:=envOfC qual scope s.heap.objs.size f cd
 outer:=outer
 stack:=envOfC qual scope s.heap.objs.size f cd :: outer
 ex:=[]
 calm:=true
 fn:=fun _=>true
 pn:=[]
 xe:=fun e s'=>wpAny (model P w) (A.deeper (envOfC qual scope s.heap.objs.size f cd)) (leaving (envOfC qual scope s.heap.objs.size f cd) e) (fun _ s''=>CX outer H s E e s'') (fun e' s''=>CX outer H s E e' s'') s'
theorem aA3 {sc:Scope}{n:Nat}{x:Str}(h:sc.names.lookup x=some .cell):∃ c,(cellsFrom n sc.names []).lookup x=some c:=by
 have q:=Ev sc.names n [] (.inl h);exact Fp.mp q
theorem aFy {CX:CXT}{P:Program}{w:World}{K:PySem.W.Frag}{mg:Str->Option Value}{base:Heap}{N ps:List Str}{qual:Str}{scope:Scope}{f:Addr}{cd:Value}{A:Around}{outer:List Env}{s s1:Shared}{H:Hp}{E:XK}{us:List Value}{vs:List V}
 (S:FnScope N ps scope) (hd:A.handled=none) (e0:Env0 P w K mg base A outer s H) (hl:vs.length=ps.length) (r:bA vs us)
 (x:InCallC s s.heap.objs.size (bindL (envOfC qual scope s.heap.objs.size f cd).kindOf (ps.zip us) fun _=>none) (cellsFrom (s.heap.objs.size+1) scope.names []) (bindC (envOfC qual scope s.heap.objs.size f cd).kindOf (ps.zip us) fun _=>none) s1) :
 Inv (qS CX P w K mg base N qual scope f cd A outer s H E) [] (start N vs) H s1:=by
 have hpl:ps.length<=N.length:=by have:=congrArg Hd S.pre;rw[Ax]at this;omega
 obtain⟨h1,tk,rfl,hk⟩:=x.done;have noA:∀ b:Addr,b∉(qS CX P w K mg base N qual scope f cd A outer s H E).ex:=fun b z=>absurd (show b∈([]:List Addr) from z) (by simp)
 refine⟨⟨e0.mod,S.kind,rfl,rfl,Am _,fun y z c h1 h2=>?_,fun y hy=>?_,fun y c _ h=>?_,fun _=>hd,Around.frames_deeper e0.frames,.inr ⟨rfl,rfl⟩,fun b z=>absurd z (noA b),e0.bs,e0.bsz,fun b _ _=>noA b,fun b z=>absurd z (noA b),e0.funs,e0.frf⟩,
  rfl,e0.bare,Un.kept hk,⟨_,x.toInCall.ns,fun i y v h1 h2 h3=>?_⟩,fun y c h=>⟨_,x.cell y c h⟩,e0.hok.fresh (Am _),fun y c h=>?_,fun p hp=>absurd (show p∈([]:List (Addr×Obj)) from hp) (by simp),e0.hok.kept hk,?_⟩
 · exact name_of_addr x.apart (PySem.mem_of_lookup h1) (PySem.mem_of_lookup h2)
 · have hy:scope.names.lookup y=some .cell\/scope.names.lookup y=some .free:=hy
   rcases hy with hy | hy
   · exact aA3 hy
   · exact absurd rfl (S.nofree _ (PySem.mem_of_lookup hy))
 · exact En (x.above y c (PySem.mem_of_lookup h))
 · have hi:i<vs.length:=by
    unfold start at h2;by_cases hi:i<vs.length
    · exact hi
    · rw[Au (by simpa using hi)]at h2
      rw[Et]at h2;split at h2<;>cases h2
   have ha:vs[i]?=some v:=by
    unfold start at h2;rw[Bm (by simpa using hi),Ao]at h2
    cases e:vs[i]? with
    | none=>rw[e]at h2;cases h2
    | some a=>rw[e]at h2;cases h2;rfl
   obtain⟨u,hu,rv⟩:=r.get ha
   have hp:ps[i]?=some y:=by
    rw[←S.pre,Es (by omega)];exact h1
   have ndP:ps.Nodup:=by rw[←S.pre];exact S.nd.sublist (List.take_sublist _ _)
   refine⟨u,rv,?_⟩
   rcases S.par y (Ea hp) with k | k
   · exact .inl ⟨k,wD ndP hp hu k⟩
   · obtain⟨c,e⟩:=aA3 (n:=s.heap.objs.size+1) k
     refine .inr ⟨.inl k,c,e,?_⟩
     have q:=x.cell y c e;rw[vQ ndP hp hu (by show scope.names.lookup y≠_;rw[k];decide)]at q
     exact q
 · exact e0.hok.fresh (En (x.above y c (PySem.mem_of_lookup h)))
 · unfold start
   show _=N.length
   rw[Ak,Ad,Cy];omega
theorem aOw {CX:CXT}{P:Program}{w:World}{K:PySem.W.Frag}{mg:Str->Option Value}{base:Heap}{k:Nat}{f:Addr}{name qual:Str}{params:Arguments}{body:List Stmt}{scope:Scope}{dV kV doc pm cdv ct oc:Value}{an od:Option Addr}
 {osl:Array (Option Value)} {N ps:List Str} {sp:Sp} (lk:K.lookup f=some ⟨oc,od,.func (Dv name qual params body scope dV kV doc pm an cdv ct),osl⟩) (hcd:Fh K cdv qual=true) (S:FnScope N ps scope)
 (len:∀ vs H Q E,sp vs H Q E->vs.length=ps.length)
 (hbody:∀ (A:Around) (outer:List Env) (s:Shared) (H:Hp) (vs:List V) (Q:VK) (E:XK),Room k (A.deeper (envOfC qual scope s.heap.objs.size f cdv))->sp vs H Q E ->
  ∃ t,PSs (qS CX P w K mg base N qual scope f cdv A outer s H E) body t/\t { nx:=fun _ H'=>Q .non H',rt:=Q } (start N vs) H) :
 FnOk P w K mg base CX (k+1) f (Dv name qual params body scope dV kV doc pm an cdv ct) ps sp:=by
 refine⟨len,fun A outer s H args us vs Q E hr e0 hb r hsp=>?_⟩
 have hl:=len _ _ _ _ hsp;have KX:K.In s.heap:=e0.mod.kin.keeps fun b o e=>(e0.bs b o e).1;have lim:s.heap.NoLimit:=e0.mod.nolimit.keeps fun b o e=>(e0.bs b o e).1
 have hkind:∀ y∈ps.zip us,scope.names.lookup y.1=some .local\/(scope.names.lookup y.1=some .cell/\((cellsFrom (s.heap.objs.size+1) scope.names []).lookup y.1).isSome=true):=fun⟨n,v⟩ hy=>by
  rcases S.par n (Di hy).1 with q | q
  · exact .inl q
  · exact .inr ⟨q,Ev _ _ _ (.inl q)⟩
 refine codeAny_call_function hr.depth (KX _ _ lk) rfl S.co S.gen rfl (PySem.W.codeRec_of KX hcd) (hb _ _ _ _ ?_)
 refine wpAny_newFunctionEnv_cells S.kind hkind fun env he s1 x=>?_
 subst he;refine⟨lim.keeps x.toInCall.keep,codeAny_func ?_⟩
 obtain⟨t,ht,hq⟩:=hbody A outer s H vs Q E (hr.deeper _) hsp;have I:Inv (qS CX P w K mg base N qual scope f cdv A outer s H E) [] (start N vs) H s1:=aFy S hr.hd e0 hl r x;refine wpAny_mono (ht [] s1 (start N vs) H _ I hq) (fun fl s' hs=>?_) fun e s' hs=>hs
 have fin:∀ {σ':St} {H':Hp} {v:V} {u:Value},Inv (qS CX P w K mg base N qual scope f cdv A outer s H E) [] σ' H' s'->bF v u->Q v H'->CE outer P w H s Q u s' :=
  fun {σ' H' v u} J rv q=>⟨v,H',J.os,J.bare,J.base,J.hok,rv,q⟩
 cases fl with
 | ret u =>
  obtain⟨v,σ',H',J,rv,q⟩:=hs;exact fin J rv q
 | next =>
  obtain⟨σ',H',J,q⟩:=hs;exact fin (v:=V.non) (u:=Value.none) J rfl q
 | brk =>
  obtain⟨_,_,_,q⟩:=hs;exact False.elim q
 | cont =>
  obtain⟨_,_,_,q⟩:=hs;exact False.elim q
end L2
namespace L2
open PySem PySem.Spec PyProof.Rows
section
variable {X:Cx}{x:Str}{p pos:Pos}{e:Expr}{es:List Expr}{t:TA}{id T:String}{r:List V->Hp->VK->Prop}
def tCB (r:List V->Hp->VK->Prop)(t:TA):TE:=fun σ H Q=>t σ H fun vs H1=>r vs H1 Q
theorem iX (hc:kS X (.builtin id) r)(hg:Gl X x)(hm:X.mg x=none)(hv:bootBuiltins x=some (.builtin id))(ha:PA X (e :: es) t)(hn:x ≠ "__name__":=by decide)(hdb:(x==("__debug__":Str))=false:=by decide)
 (he:starEach (e :: es) X.env=(false,eval e X.env) :: starEach es X.env:=by rfl) (hpl:(backTo pos (starEach es X.env)).any (·.1)=false:=by rfl):PE X (.Call (.Name x p) (e :: es) [] pos) (tCB r t):=by
 intro pins s σ H Q I h;refine wpAny_Call_Name_kw (kK I hg hm hv ?_ hn hdb)
 exact PyProof.Rows.callWith_builtin1 (thn (ha pos pins s σ H _ I h) fun us s1 ⟨vs,H1,I1,r1,q1⟩=>hc pins s1 σ H1 vs us Q I1 r1 q1) he hpl
theorem pK (hc:kS X (.type T) r)(hg:Gl X x)(hm:X.mg x=none)(hv:bootBuiltins x=some (.type T))(ha:PA X (e :: es) t)(hn:x ≠ "__name__":=by decide)(hdb:(x==("__debug__":Str))=false:=by decide)
 (he:starEach (e :: es) X.env=(false,eval e X.env) :: starEach es X.env:=by rfl) (hpl:(backTo pos (starEach es X.env)).any (·.1)=false:=by rfl):PE X (.Call (.Name x p) (e :: es) [] pos) (tCB r t):=by
 intro pins s σ H Q I h;refine wpAny_Call_Name_kw (kK I hg hm hv ?_ hn hdb)
 exact Cz (thn (ha pos pins s σ H _ I h) fun us s1 ⟨vs,H1,I1,r1,q1⟩=>hc pins s1 σ H1 vs us Q I1 r1 q1) he hpl
end
end L2
namespace HT
open PySem PyProof.Rows
def iU:List Int->List Int->Bool
 | [],[]=>false
 | [],_ :: _=>true
 | _ :: _,[]=>false
 | x :: xs,y :: ys=>if x=y then iU xs ys else decide (x<y)
theorem aCj (x y:Int)(xs ys:List Int):iU (x :: xs) (y :: ys)=if x=y then iU xs ys else decide (x<y):=rfl
theorem uK:iU [] []=false:=rfl
theorem tN (y:Int)(ys:List Int):iU [] (y :: ys)=true:=rfl
theorem sK (x:Int)(xs:List Int):iU (x :: xs) []=false:=rfl
theorem aJa (A:Around)(s:Shared)(a:Int)(t:Tok)(c:Int)(u:Tok):∃ e,SeqAt.EqAt A s (.int a t) (.int c u) e/\(e=true↔a=c) :=
 ⟨(a==c),SeqAt.EqAt.int_int a t c u,by simp⟩
theorem aHc (A:Around)(s:Shared)(a:Int)(t:Tok)(c:Int)(u:Tok)(prog:Program)(w:World)(E:Value->Shared->Prop)(Q:Value->Shared->Prop)(h:Q (.bool (decide (a<c))) s) :
 wpAny (model prog w) A (richCompare .Lt (.int a t) (.int c u)) Q E s :=
 (Im h:wpAny (model prog w) A (compareOp .Lt (.int a t) (.int c u)) Q E s)
section
open PySem.SeqAt
open PySem.AutoSeq1 (wpAny_loadPart')
open PySem.MeetsSeq PySem.MeetsSeq2 PySem.MeetsSeq3
theorem uW (l b:Addr)(items items2:Array Value)(n n2:Nat)(dd dd2:Option Addr)(sl sl2:Array (Option Value))(ns ms:List Int)(hi:IntsAre items.toList ns)(hj:IntsAre items2.toList ms) :
 Meets (Builtin.«tuple.__lt__» ⟨[.ref l,.ref b],[]⟩)
  (fun _ R s=>s.heap.get? l=some { cls:=.type "tuple",dict:=dd,data:=.seq items n,slots:=sl }/\s.heap.get? b=some { cls:=.type "tuple",dict:=dd2,data:=.seq items2 n2,slots:=sl2 } /\
   R (.ok (.ret (.bool (iU ns ms)))) s) :=
 .of_wp fun prog w A R s h=>by
  obtain⟨hp,g,d,tk,os⟩:=s;obtain⟨hl,hb,h⟩:=h;have f2:=AutoSeq1.sub_tuple_tuple;have z1:items.size=ns.length:=by rw[←hi.length];simp
  have z2:items2.size=ms.length:=by rw[←hj.length];simp
  wp_walk using wpAny_loadPart' hl,wpAny_loadPart' hb,wpAny_forIn_list _ (fun rest b s'=>b.1=none/\s'=⟨hp,g,d,tk,os⟩/\∃ (vs ws:List Value) (ns' ms':List Int),rest=vs.zip ws /\
   IntsAre vs ns'/\IntsAre ws ms'/\ns'.length+items2.size=ms'.length+items.size/\R (.ok (.ret (.bool (iU ns' ms')))) ⟨hp,g,d,tk,os⟩) _
  case turn =>
   rintro⟨y,x⟩ rest b s' ⟨hb',rfl,vs,ws,ns',ms',hz,hvi,hwi,hlen,hR⟩
   cases hvi with
   | nil=>rw[List.zip_nil_left]at hz;cases hz
   | cons a t hvi' =>
    cases hwi with
    | nil=>rw[List.zip_nil_right]at hz;cases hz
    | cons c u hwi' =>
     rw[Fv]at hz;injection hz with hyx hrest
     injection hyx with hy hx
     subst hy hx;rw[aCj]at hR;simp only[Al]at hlen;obtain⟨e,he,hiff⟩:=aJa A.in1 ⟨hp,g,d,tk,os⟩ a t c u;refine wpAny_bind (he prog w _ _ ?_)
     cases e with
     | true =>
      rw[if_pos (hiff.mp rfl)]at hR;wp_walk
      exact⟨rfl,rfl,_,_,_,_,hrest,hvi',hwi',by omega,hR⟩
     | false =>
      rw[if_neg (fun q=>absurd (hiff.mpr q) Db)]at hR;have hri:=aHc A.in1 ⟨hp,g,d,tk,os⟩ a t c u prog w;wp_walk using hri
      exact⟨_,rfl,by simpa using hR⟩
  case fin =>
   rintro⟨b1,b2⟩ s' ⟨hb',rfl,vs,ws,ns',ms',hz,hvi,hwi,hlen,hR⟩
   simp only at hb';subst hb'
   have hv:iU ns' ms'=decide (items.size<items2.size):=by
    cases hvi with
    | nil =>
     cases hwi with
     | nil =>
      simp only[Dr]at hlen;rw[uK];exact(decide_eq_false (by omega)).symm
     | cons c u hw =>
      simp only[Dr,Al]at hlen;rw[tN];exact(decide_eq_true (by omega)).symm
    | cons a t hv =>
     cases hwi with
     | nil =>
      simp only[Dr,Al]at hlen;rw[sK];exact(decide_eq_false (by omega)).symm
     | cons c u hw =>
      rw[Fv]at hz;cases hz
   rw[hv]at hR;wp_walk
   exact⟨_,rfl,by simpa[Builtin.Tuple.tupleCompareSizes] using hR⟩
  case h =>
   exact⟨rfl,rfl,items.toList,items2.toList,ns,ms,rfl,hi,hj,by omega,h⟩
end
section
variable {prog:Program}{w:World}{A:Around}{E:Value->Shared->Prop}{s:Shared}
theorem aC8 {l b:Addr}{items items2:Array Value}{ns ms:List Int}{Q:Value->Shared->Prop}(hl:IsTup s.heap l items)(hb:IsTup s.heap b items2)(hi:IntsAre items.toList ns)(hj:IntsAre items2.toList ms)
 (hu:A.units<cLine) (h:Q (.bool (iU ns ms)) s):wpAny (model prog w) A (compareOp .Lt (.ref l) (.ref b)) Q E s:=by
 obtain⟨⟨cls,dd,data,sl⟩,ho,hc,n,hd⟩:=id hl;obtain⟨⟨cls2,dd2,data2,sl2⟩,ho2,hc2,n2,hd2⟩:=id hb;simp only at hc hd hc2 hd2;subst hc hd hc2 hd2
 exact richCompare_meets_room (op:=.Lt) ⟨_,ho,rfl⟩ ⟨_,ho2,rfl⟩ PySem.F.slot_tuple_lt PySem.F.entry_tuple_lt (PySem.F.args_tuple_lt_2 _ _) (uW l b items items2 n n2 dd dd2 sl sl2 ns ms hi hj)
  ⟨ho,ho2,show Value.bool (iU ns ms)≠Value.notImplemented/\Q (.bool (iU ns ms)) s from ⟨(fun x=>nomatch x),h⟩⟩ hu
def sIx (n d:Nat):Option Int->Nat
 | none=>d
 | some v=>if v<0 then (v+(n:Int)).toNat else min v.toNat n
theorem rG (n d:Nat):sIx n d none=d:=rfl
theorem jK (n d k:Nat):sIx n d (some (k:Int))=min k n:=by
 show (if (k:Int)<0 then ((k:Int)+(n:Int)).toNat else min (k:Int).toNat n)=min k n
 rw[if_neg (by omega),Ec]
end
end HT
namespace L2
open PySem PySem.Spec PyProof.Rows
abbrev TO:=St->Hp->(Option Int->Hp->Prop)->Prop
def PO (X:Cx)(e:Option Expr)(t:TO):Prop :=
 ∀ (pins:List (Addr×Obj)) (s:Shared) (σ:St) (H:Hp) (Q:Option Int->Hp->Prop),Inv X pins σ H s->t σ H Q ->
  wpAny (model X.prog X.w) X.A (evalPart e X.env) (fun u s'=>∃ o H',Inv X pins σ H' s'/\IsPart u o/\Q o H') X.xe s
def aMq:TO:=fun _ H Q=>Q none H
def aT5 (t:TE):TO:=fun σ H Q=>t σ H fun x H1=>∃ i,x=.int i/\Q (some i) H1
theorem aC2 {ns:List Int}:∀ {us:List Value},bA (ns.map V.int) us->IntsAre us ns:=by
 induction ns with
 | nil=>intro us r;rw[Ic]at r;cases r;exact .nil
 | cons n ns ih =>
  intro us r;rw[Ai]at r;cases r with
  | cons r1 r2 =>
   obtain⟨t,e⟩:=r1;subst e;exact .cons n t (ih r2)
section
variable {X:Cx}{e:Expr}{te:TE}{lo hi:Option Expr}{tl th:TO}{pos p2:Pos}
theorem aK9:PO X none aMq:=by
 intro pins s σ H Q I h;rw[evalPart_none];exact wpAny_pure ⟨none,H,I,.none,h⟩
theorem aM3 (h:PE X e te):PO X (some e) (aT5 te):=by
 intro pins s σ H Q I hw;rw[evalPart_some];refine thn (h pins s σ H _ I hw) fun u s1 ⟨x,H1,I1,r1,q1⟩=>?_
 obtain⟨i,rfl,q⟩:=q1;obtain⟨t,rfl⟩:=r1;exact⟨some i,H1,I1,.int i t,q⟩
def SlR (X:Cx)(r:V->Option Int->Option Int->Hp->VK->Prop):Prop :=
 ∀ (pins:List (Addr×Obj)) (s:Shared) (σ:St) (H:Hp) (x:V) (v vl vu:Value) (lo hi:Option Int) (sl:Addr) (Q:VK),Inv X pins σ H s->bF x v->s.heap.IsSliceOf sl vl vu .none->IsPart vl lo->IsPart vu hi->r x lo hi H Q ->
  ∃ T id,typeLookup (.type T) "__getitem__" = pure (some (.builtin id))/\s.TypeIs v T/\wpAny (model X.prog X.w) X.A (getItem v (.ref sl)) (EP X pins σ Q) X.xe s
def tSl (r:V->Option Int->Option Int->Hp->VK->Prop)(te:TE)(tl th:TO):TE:=fun σ H Q=>te σ H fun x H1=>tl σ H1 fun l H2=>th σ H2 fun u H3=>r x l u H3 Q
theorem aJk {r:V->Option Int->Option Int->Hp->VK->Prop}(hr:SlR X r)(he:PE X e te)(hl:PO X lo tl)(hu:PO X hi th):PE X (.Subscript e (.Slice lo hi none p2) pos) (tSl r te tl th):=by
 intro pins s σ H Q I h;refine Subscript_ (thn (he pins s σ H _ I h) fun v s1 ⟨x,H1,I1,r1,q1⟩=>?_)
 refine wpAny_Slice (thn (hl pins s1 σ H1 _ I1 q1) fun vl s2 ⟨l,H2,I2,pl,q2⟩=>thn (hu pins s2 σ H2 _ I2 q2) fun vu s3 ⟨u,H3,I3,pu,q3⟩=>?_)
 rw[evalPart_none];refine wpAny_pure ?_
 have I4:Inv X pins σ H3 { s3 with heap:=s3.heap.push { cls:=.type "slice",data:=.fields #[vl,vu,.none] } }:=I3.kept (t':=s3.toks) fun b ob q=>Ag _ q
 obtain⟨T,id,hT,ht,hg⟩:=hr pins { s3 with heap:=s3.heap.push { cls:=.type "slice",data:=.fields #[vl,vu,.none] } } σ H3 x v vl vu l u s3.heap.objs.size Q I4 r1 (Heap.IsSliceOf.new ..) pl pu q3
 show wpAny (model X.prog X.w) X.A (subscriptTail e (.Slice lo hi none p2) v (.ref s3.heap.objs.size)) (EP X pins σ Q) X.xe { s3 with heap:=s3.heap.push { cls:=.type "slice",data:=.fields #[vl,vu,.none] } }
 exact tail_any (ops:=[.ref s3.heap.objs.size,v]) ht hT hg (by with_unfolding_all rfl)
def aGe (xs:List V)(lo hi:Option Int):List V:=(xs.drop (HT.sIx xs.length 0 lo)).take (HT.sIx xs.length xs.length hi-HT.sIx xs.length 0 lo)
theorem aAf (xs:List V)(lo hi:Option Int):(aGe xs lo hi).length<=xs.length:=by
 unfold aGe;rw[Ax,By];omega
end
end L2
namespace L2
open PySem PySem.Spec PyProof.Rows
def ixN (n:Nat)(i:Int):Option Nat:=if 0<=i then (if i<n then some i.toNat else none) else if -(n:Int)<=i then some (i+n).toNat else none
def atI {α:Type}(xs:List α)(i:Int):Option α:=(ixN xs.length i).bind fun j=>xs[j]?
theorem aE4 {n:Nat}{i:Int}{j:Nat}(h:ixN n i=some j):seqIndex? i n=some j/\j<n/\-(n:Int)<=i/\i<n:=by
 unfold ixN at h;by_cases h0:0<=i
 · rw[if_pos h0]at h
   by_cases h1:i<n
   · rw[if_pos h1]at h
     have e:i.toNat=j:=Cw.inj h;exact⟨by rw[seqIndex_of h0 h1,e],by omega,by omega,h1⟩
   · rw[if_neg h1]at h;cases h
 · rw[if_neg h0]at h
   by_cases h1:-(n:Int)<=i
   · rw[if_pos h1]at h
     have e:(i+n).toNat=j:=Cw.inj h;exact⟨by rw[seqIndex_neg (by omega) h1,e],by omega,h1,by omega⟩
   · rw[if_neg h1]at h;cases h
theorem aFb {α:Type}{xs:List α}{i:Int}{v:α}(h:atI xs i=some v):∃ j,seqIndex? i xs.length=some j/\xs[j]?=some v/\j<xs.length/\-(xs.length:Int)<=i/\i<xs.length:=by
 unfold atI at h;cases e:ixN xs.length i with
 | none=>rw[e]at h;cases h
 | some j =>
  rw[e]at h;obtain⟨h1,h2,h3,h4⟩:=aE4 e;exact⟨j,h1,h,h2,h3,h4⟩
theorem yZ {α:Type}{xs:List α}{j:Nat}{v:α}(h:xs[j]?=some v):atI xs (j:Int)=some v:=by
 have hj:j<xs.length:=(Bl.mp h).1
 have e:ixN xs.length (j:Int)=some j:=by
  unfold ixN;rw[if_pos (by omega),if_pos (by omega)];simp
 unfold atI;rw[e];exact h
def aFe (b:Expr):Prop:=∀ o i,subscripted b false o i=operate [o,i] (getItem o i)
def IxR (X:Cx)(r:R2):Prop :=
 ∀ (value slice:Expr) (pins:List (Addr×Obj)) (s:Shared) (σ:St) (H:Hp) (x y:V) (v u:Value) (Q:VK),Inv X pins σ H s->bF x v->bF y u->r x y H Q ->
  subscripted slice false v u=operate [v,u] (getItem v u)->wpAny (model X.prog X.w) X.A (subscriptTail value slice v u) (EP X pins σ Q) X.xe s
def MtR (X:Cx)(id:String)(r:V->List V->Hp->VK->Prop):Prop :=
 ∀ (pins:List (Addr×Obj)) (s:Shared) (σ:St) (H:Hp) (x:V) (xs:List V) (v:Value) (us:List Value) (Q:VK),Inv X pins σ H s->bF x v->bA xs us->r x xs H Q ->
  wpAny (model X.prog X.w) X.A (call (.builtin id) (v :: us)) (EP X pins σ Q) X.xe s
section
variable {X:Cx}{a b:Expr}{ta tb:TE}{pos:Pos}
theorem aVe {r:R2}(hr:IxR X r)(ha:PE X a ta)(hb:PE X b tb)(hs:aFe b):PE X (.Subscript a b pos) (tOp r ta tb):=by
 intro pins s σ H Q I h;exact Subscript_ (aRm ha hb I h fun v u s2 x y H2 I2 rx ry q=>hr a b pins s2 σ H2 x y v u Q I2 rx ry q (hs _ _))
def aLj (K:PySem.W.Frag):R2:=fun x y H Q=>∃ p xs i v,x=.ref p/\y=.int i/\SqL K H p xs/\atI xs i=some v/\Q v H
def aN1 (K:PySem.W.Frag):R2:=fun x y H Q=>∃ p xs i v,x=.ref p/\y=.int i/\SqT K H p xs/\atI xs i=some v/\Q v H
theorem aNh:IxR X (aLj X.K):=by
 intro value slice pins s σ H x y v u Q I rx ry h hs;obtain⟨p,xs,i,z,rfl,rfl,hq,he,q⟩:=h;cases rx;obtain⟨t,rfl⟩:=ry;obtain⟨its,r,pl,hz⟩:=I.list hq;obtain⟨j,h1,h2,h3,h4,h5⟩:=aFb he;obtain⟨w,ew,rw'⟩:=r.get h2;have hl:=r.length;have hn:=sG;have fin:EP X pins σ Q w s:=⟨z,H,I,rw',q⟩;by_cases h0:0<=i
 · have hj:i.toNat=j:=by
    rw[seqIndex_of h0 h5]at h1;exact Cw.inj h1
   exact item_listR pl.isList h0 (by omega) (by rw[hj];simpa using ew) fin hs
 · have hj:(i+(its.toArray.size:Int)).toNat=j:=by
    rw[seqIndex_neg (by omega) h4]at h1
    rw[Aq,←hl];exact Cw.inj h1
   exact subscriptTail_builtinR (x:=w) pl.isList.typeIs slot_list_getitem.lookup
    (wpAny_getItem_list_neg (Q:=fun r s'=>r=w/\EP X pins σ Q r s') pl.isList (by omega) (by rw[Aq]<;>omega) (by omega) (by rw[hj];simpa using ew) ⟨rfl,fin⟩) hs
theorem aR4:IxR X (aN1 X.K):=by
 intro value slice pins s σ H x y v u Q I rx ry h hs;obtain⟨p,xs,i,z,rfl,rfl,hq,he,q⟩:=h;cases rx;obtain⟨t,rfl⟩:=ry;obtain⟨its,r,pl,hz⟩:=I.tuple hq;obtain⟨j,h1,h2,h3,h4,h5⟩:=aFb he;obtain⟨w,ew,rw'⟩:=r.get h2;have hl:=r.length;have hn:=sG;have fin:EP X pins σ Q w s:=⟨z,H,I,rw',q⟩
 exact subscriptTail_builtinR (x:=w) pl.typeIs slot_tuple_getitem.lookup
  (getItem_tuple (j:=j) (Q:=fun r s'=>r=w/\EP X pins σ Q r s') pl (by omega) (by omega) (by rw[Aq,←hl];exact h1) (by simpa using ew) ⟨rfl,fin⟩) hs
theorem aCb (its:List Value)(n j:Nat)(u:Value):Obj.mapSeq (·.setIfInBounds j u) { cls:=.type "list",data:=.seq its.toArray n }={ cls:=.type "list",data:=.seq (its.set j u).toArray n }:=by
 simp[Obj.mapSeq]
theorem Inv.lst {pins:List (Addr×Obj)}{σ:St}{H:Hp}{s:Shared}{p:Addr}{xs:List V}(I:Inv X pins σ H s)(h:H p=some (.lst xs)) :
 ∃ (its:List Value) (n:Nat),bA xs its/\s.heap.get? p=some { cls:=.type "list",data:=.seq its.toArray n }/\xs.length<=sizeLine:=by
 obtain⟨z,its,n,r,e⟩:=I.hok p _ h;exact⟨its,n,r,e,z⟩
theorem Inv.lstUpd {pins:List (Addr×Obj)}{σ:St}{H:Hp}{s:Shared}{p:Addr}{xs ys:List V}{its its':List Value}{n n':Nat}{f:Obj->Obj}(I:Inv X pins σ H s)(h:H p=some (.lst xs))
 (ho:s.heap.get? p=some { cls:=.type "list",data:=.seq its.toArray n }) (hf:f { cls:=.type "list",data:=.seq its.toArray n }={ cls:=.type "list",data:=.seq its'.toArray n' }) (r:bA ys its') (hz:ys.length<=sizeLine) (t:Nat) :
 Inv X pins σ (upd H p (.lst ys)) { s with heap:=s.heap.update p f,toks:=t }:=by
 have e:(s.heap.update p f).get? p=some { cls:=.type "list",data:=.seq its'.toArray n' }:=by
  rw[Fd f ho (by rw[hf]<;>rfl),hf]
 refine I.write (x:=p) (e:=p) (by rw[h];trivial) (.inl rfl) (fun b u hb q=>(Gc _ _ (Ne.symm hb)).trans q) ⟨_,e⟩ ?_
 exact⟨hz,its',n',r,e⟩
def aOi:V->V->V->Hp->(Hp->Prop)->Prop:=fun o i v H Q=>∃ p xs k j,o=.ref p/\i=.int k/\H p=some (.lst xs)/\ixN xs.length k=some j/\Q (upd H p (.lst (xs.set j v)))
theorem aJd:aU9 X aOi:=by
 intro pins s σ H o i v ov iv u Q I ro ri rv h;obtain⟨p,xs,k,j,rfl,rfl,hp,hj,q⟩:=h;cases ro;obtain⟨t,rfl⟩:=ri;obtain⟨its,n,r,ho,hz⟩:=I.lst hp;obtain⟨h1,h2,h3,h4⟩:=aE4 hj;have hl:=r.length;have hn:=sG
 have I':Inv X pins σ (upd H p (.lst (xs.set j v))) { s with heap:=s.heap.update p (Obj.mapSeq (·.setIfInBounds j u)) } :=
  I.lstUpd hp ho (aCb its n j u) (r.set rv j) (by rw[Cb];exact hz) s.toks
 by_cases h0:0<=k
 · have hk:k.toNat=j:=by
    rw[seqIndex_of h0 h4]at h1;exact Cw.inj h1
   exact PySem.W.ki_setAt ho h0 (by omega) (by rw[Aq,←hl];exact h4) (by rw[hk];exact⟨_,I',q⟩)
 · have hk:(k+(its.toArray.size:Int)).toNat=j:=by
    rw[seqIndex_neg (by omega) h3]at h1
    rw[Aq,←hl];exact Cw.inj h1
   exact PySem.W.ki_setBack ho (by omega) (by rw[Aq,←hl];exact h3) (by omega) (by rw[hk];exact⟨_,I',q⟩)
theorem yE (lo hi:Option Int)(n:Nat):(sliceBounds lo hi none n).1=((HT.sIx n 0 lo:Nat):Int)/\(sliceBounds lo hi none n).2.1=((HT.sIx n n hi:Nat):Int)/\(sliceBounds lo hi none n).2.2=1:=by
 refine⟨?_,?_,rfl⟩
 · cases lo with
   | none=>simp[sliceBounds,HT.sIx]
   | some i =>
    simp only[sliceBounds,HT.sIx,Option.getD_none,show (1:Int)>0 by decide,if_true]
    by_cases h:i<0
    · simp only[h,if_true]<;>omega
    · simp only[h,if_false]<;>omega
 · cases hi with
   | none=>simp[sliceBounds,HT.sIx]
   | some i =>
    simp only[sliceBounds,HT.sIx,Option.getD_none,show (1:Int)>0 by decide,if_true]
    by_cases h:i<0
    · simp only[h,if_true]<;>omega
    · simp only[h,if_false]<;>omega
theorem uO (its:List Value)(lo hi:Option Int):slicePick its.toArray lo hi none=((its.drop (HT.sIx its.length 0 lo)).take (HT.sIx its.length its.length hi-HT.sIx its.length 0 lo)).toArray:=by
 obtain⟨h1,h2,h3⟩:=yE lo hi its.toArray.size;unfold slicePick;rw[h1,h2,h3];simp only[sliceRange_one,pick_run,Aq]<;>rfl
def aT0 (K:PySem.W.Frag):V->Option Int->Option Int->Hp->VK->Prop:=fun x lo hi H Q=>∃ a xs,x=.ref a/\SqL K H a xs/\∀ p,H p=none->Q (.ref p) (upd H p (.lst (aGe xs lo hi)))
theorem aNz:SlR X (aT0 X.K):=by
 intro pins s σ H x v vl vu lo hi sl Q I rx hs pl pu h;obtain⟨a,xs,rfl,hx,q⟩:=h;cases rx;obtain⟨its,r,ht,hz⟩:=I.list hx;have hlen:=r.length;refine⟨"list",_,slot_list_getitem.lookup,ht.isList.typeIs,?_⟩
 refine wpAny_getItem_list_slice ht.isList hs pl pu .none (by simp) ?_ (by rw[Aq]<;>omega)
 rw[uO,←hlen];refine⟨.ref s.heap.objs.size,_,I.laid (t':=s.toks) (o:=.lst (aGe xs lo hi)) (fun b ob q=>Ag _ q) (Am _) ?_,rfl,q _ (I.hok.fresh (Am _))⟩
 exact⟨Bj (aAf xs lo hi) hz,_,0,(r.drop (HT.sIx xs.length 0 lo)).take (HT.sIx xs.length xs.length hi-HT.sIx xs.length 0 lo),Bb _ rfl⟩
theorem xU:kS X (.builtin "len") (fun xs H Q=>∃ p ys,xs=[.ref p]/\(SqL X.K H p ys\/SqT X.K H p ys)/\Q (.int ys.length) H):=by
 intro pins s σ H xs us Q I r h;obtain⟨p,ys,rfl,hq,q⟩:=h;obtain⟨u,rfl,rx⟩:=oG r;cases rx;have hn:=sG;rcases hq with hq | hq
 · obtain⟨its,r',pl,hz⟩:=I.list hq
   have hlen:=r'.length;exact Calls.call_len_list pl.isList (by simp only[Aq]<;>omega) ⟨.int ys.length,H,I.tok _,⟨s.toks+1,by rw[Aq,hlen]⟩,q⟩
 · obtain⟨its,r',pl,hz⟩:=I.tuple hq
   have hlen:=r'.length;exact len_tuple pl (by simp only[Aq]<;>omega) ⟨.int ys.length,H,I.tok _,⟨s.toks+1,by rw[Aq,hlen]⟩,q⟩
theorem xJ:kS X (.type "list") (fun xs H Q=>∃ p ys,xs=[.ref p]/\(SqL X.K H p ys\/SqT X.K H p ys)/\∀ l,H l=none->Q (.ref l) (upd H l (.lst ys))):=by
 intro pins s σ H xs us Q I r h;obtain⟨p,ys,rfl,hq,q⟩:=h;obtain⟨u,rfl,rx⟩:=oG r;cases rx
 have fin:∀ (its:List Value),bA ys its->ys.length<=sizeLine->∀ (h':Heap) (c':Nat),(∀ b o',s.heap.get? b=some o'->h'.get? b=some o') ->
  h'.get? s.heap.objs.size=some { cls:=.type "list",dict:=none,data:=.seq its.toArray c',slots:=#[] }->EP X pins σ Q (.ref s.heap.objs.size) { s with heap:=h' }:=fun its r' hz h' c' kp e =>
  ⟨.ref s.heap.objs.size,_,I.laid (t':=s.toks) kp (Am _) (show bP X.prog X.w _ h' _ (.lst ys) from ⟨hz,its,c',r',e⟩),rfl,q _ (I.hok.fresh (Am _))⟩
 rcases hq with hq | hq
 · obtain⟨its,r',pl,hz⟩:=I.list hq
   have hlen:=r'.length;obtain⟨o,ho,hc,n,hd⟩:=pl.isList;exact call_list_seq p (.inl rfl) ho hc hd (fun h' c' kp e=>fin its r' hz h' c' kp e) (by simp only[Aq]<;>omega)
 · obtain⟨its,r',pl,hz⟩:=I.tuple hq
   have hlen:=r'.length;obtain⟨o,ho,hc,n,hd⟩:=pl;exact call_list_seq p (.inr rfl) ho hc hd (fun h' c' kp e=>fin its r' hz h' c' kp e) (by simp only[Aq]<;>omega)
theorem uV:kS X (.type "tuple") (fun xs H Q=>∃ p ys,xs=[.ref p]/\((SqL X.K H p ys/\∀ l,H l=none->Q (.ref l) (upd H l (.tup ys)))\/(SqT X.K H p ys/\Q (.ref p) H))):=by
 intro pins s σ H xs us Q I r h;obtain⟨p,ys,rfl,h⟩:=h;obtain⟨u,rfl,rx⟩:=oG r;cases rx;rcases h with ⟨hq,q⟩ | ⟨hq,q⟩
 · obtain⟨its,r',pl,hz⟩:=I.list hq
   have hlen:=r'.length;refine call_tuple_list pl.isList (fun h' kp=>?_) (by simp only[Aq]<;>omega)
   have I1:Inv X pins σ H { s with heap:=h' }:=I.kept (t':=s.toks) kp
   have I2:Inv X pins σ (upd H h'.objs.size (.tup ys)) { s with heap:=h'.push { cls:=.type "tuple",data:=.seq its.toArray } } :=
    I1.laid (t':=s.toks) (fun b o e=>Ag _ e) (Am _) (show bP X.prog X.w _ _ _ (.tup ys) from ⟨hz,its,r',IsTup.new _ _⟩)
   exact⟨.ref h'.objs.size,_,I2,rfl,q _ (I1.hok.fresh (Am _))⟩
 · obtain⟨its,r',pl,hz⟩:=I.tuple hq
   exact call_tuple_same pl ⟨.ref p,H,I,rfl,q⟩
def tyV (K:PySem.W.Frag)(T:String)(x:V)(H:Hp):Prop:=match x with
 | .str _=>T = "str"
 | .int _=>T = "int"
 | .ref p=>(T = "list"/\∃ xs,SqL K H p xs)\/(T = "tuple"/\∃ o,K.lookup p=some o/\o.cls=.type "tuple"/\o.dict=none) \/
  (T = "dict"/\((∃ kvs,H p=some (.dK kvs))\/∃ kvs,H p=some (.dT kvs)))\/(T = "set"/\∃ S n,H p=some (.set S n))
 | _=>False
theorem aPp {pins:List (Addr×Obj)}{σ:St}{H:Hp}{s:Shared}{T:String}{x:V}{v:Value}(I:Inv X pins σ H s)(r:bF x v)(ty:tyV X.K T x H) :
 s.TypeIs v T/\∀ a,v=.ref a->∃ ob,s.heap.get? a=some ob/\ob.dict=none:=by
 cases x with
 | str z =>
  obtain⟨t,rfl⟩:=r;cases (show T = "str" from ty)
  exact⟨typeIs_str s z t,fun _ e=>nomatch e⟩
 | int i =>
  obtain⟨t,rfl⟩:=r;cases (show T = "int" from ty)
  exact⟨typeIs_int s i t,fun _ e=>nomatch e⟩
 | ref p =>
  cases r;rcases ty with ⟨rfl,xs,hq⟩ | ⟨rfl,o,hk,hc,hd⟩ | ⟨rfl,hk⟩ | ⟨rfl,S,n,hk⟩
  · obtain⟨its,_,pl,_⟩:=I.list hq
    refine⟨pl.isList.typeIs,fun a e=>?_⟩
    cases e;obtain⟨o,n,e,c,hd,_⟩:=pl;exact⟨o,e,hd⟩
  · refine⟨⟨o,I.kIn p o hk,hc⟩,fun a e=>?_⟩
    cases e;exact⟨o,I.kIn _ o hk,hd⟩
  · have z:∃ o,s.heap.get? p=some o/\o.ExactDict:=by
     rcases hk with ⟨kvs,hk⟩ | ⟨kvs,hk⟩
     · obtain⟨_,_,_,_,o,_,_,e,ex,_⟩:=I.hok p _ hk
       exact⟨o,e,ex⟩
     · obtain⟨_,_,_,_,o,_,_,e,ex,_⟩:=I.hok p _ hk
       exact⟨o,e,ex⟩
    obtain⟨o,e,ex⟩:=z;refine⟨⟨o,e,ex.1⟩,fun a e2=>?_⟩
    cases e2;exact⟨o,e,ex.2.1⟩
  · obtain⟨o,_,_,_,e,ex,_⟩:=I.hok p _ hk
    refine⟨⟨o,e,ex.1⟩,fun a e2=>?_⟩
    cases e2;exact⟨o,e,ex.2.1⟩
 | _=>exact False.elim ty
def tBM (K:PySem.W.Frag)(T:String)(r:V->List V->Hp->VK->Prop)(to:TE)(t:TA):TE:=fun σ H Q=>to σ H fun x H1=>tyV K T x H1/\t σ H1 fun xs H2=>r x xs H2 Q
variable {o e:Expr}{es:List Expr}{to:TE}{t:TA}{name:Str}{apos cpos:Pos}{T id:String}{r:V->List V->Hp->VK->Prop}
theorem aSq (pa:PlainAttrs T)(slot:Slot T name id)(hty:typeOf (.builtin id)=pure (.type "method_descriptor"))(hm:MtR X id r)(ho:PE X o to)(ha:PA X (e :: es) t)
 (hbase:attributeBase o name X.env (eval o X.env)=eval o X.env:=by rfl)
 (hfew:((backTo cpos (starEach (e :: es) X.env)).all (fun x=>!x.1)&&(backToKw cpos (keywordEach [] X.env)).all (fun x=>x.1.isSome)
  && decide ((e :: es).length+([]:List Keyword).length+(if ([]:List Keyword).isEmpty then 0 else 1)<30))=true:=by rfl)
 (hline:(apos.endLine==cpos.line)=true:=by rfl) (hs:starEach (e :: es) X.env=(false,eval e X.env) :: starEach es X.env:=by rfl) (hplain:(backTo cpos (starEach es X.env)).any (·.1)=false:=by rfl) :
 PE X (.Call (.Attribute o name apos) (e :: es) [] cpos) (tBM X.K T r to t):=by
 intro pins s σ H Q I h;refine wpAny_Call_method_late hbase hfew hline rfl (thn (ho pins s σ H _ I h) fun v s1 ⟨x,H1,I1,r1,ty,q1⟩=>?_)
 obtain⟨h1,h2⟩:=aPp I1 r1 ty;refine⟨T,id,pa,slot,hty,h1,h2,?_⟩
 have hA:=ha cpos pins s1 σ H1 _ I1 q1;rw[hs]at hA ⊢;refine Calls.callWith_builtin (by show (false||(backTo cpos (starEach es X.env)).any (·.1))=false;rw[hplain]<;>rfl) (Calls.evalArgs_plain ?_)
 exact thn hA fun us s2 ⟨vs,H2,I2,r2,q2⟩=>hm pins s2 σ H2 x vs v us Q I2 r1 r2 q2
end
end L2
namespace L2
open PySem PySem.Spec PyProof.Rows
def MtM (X:Cx)(id:String)(r:V->List V->Hp->VK->Prop):Prop :=
 ∀ (pins:List (Addr×Obj)) (s:Shared) (σ:St) (H:Hp) (x:V) (xs:List V) (v:Value) (us:List Value) (Q:VK),Inv X pins σ H s->bF x v->bA xs us->r x xs H Q ->
  wpAny (model X.prog X.w) X.A (call (.builtin id) (v :: us)) (EP X pins σ Q) X.xe s
theorem bA.one:∀ {x:V} {us:List Value},bA [x] us->∃ u,us=[u]/\bF x u
 | _,_,.cons r .nil=>⟨_,rfl,r⟩
theorem bA.two:∀ {x y:V} {us:List Value},bA [x,y] us->∃ u v,us=[u,v]/\bF x u/\bF y v
 | _,_,_,.cons r (.cons q .nil)=>⟨_,_,rfl,r,q⟩
theorem bA.zero:∀ {us:List Value},bA [] us->us=[]
 | _,.nil=>rfl
theorem bA.rep {xs:List V}{us:List Value}(h:bA xs us):∀ k:Nat,bA (Aw k xs).flatten (Aw k us).flatten
 | 0=>.nil
 | k+1=>by
  rw[Dp,Dp,Ep,Ep];exact bA.append h (bA.rep h k)
theorem vY (its:List Value):∀ (k:Nat) (acc:List Value),
 List.foldl (fun x1 x2=>x1++x2) acc.toArray (Aw k its.toArray)=(acc++(Aw k its).flatten).toArray
 | 0,acc=>by simp
 | k+1,acc=>by
  have e:acc.toArray++its.toArray=(acc++its).toArray:=by simp
  have e2:(acc++its)++(Aw k its).flatten=acc++(Aw (k+1) its).flatten:=by
   rw[Dp,Ep,Bn]
  rw[←e2,←vY its k (acc++its),←e,Dp,Dd]
section
variable {X:Cx}{pins:List (Addr×Obj)}{σ:St}{H:Hp}{s:Shared}{l b:Addr}{xs ys zs:List V}
theorem Inv.lset {its its':List Value}{n:Nat}{f:Array Value->Array Value}{t':Nat}(I:Inv X pins σ H s)(hH:H l=some (.lst xs))
 (e:s.heap.get? l=some { cls:=.type "list",data:=.seq its.toArray n }) (hf:f its.toArray=its'.toArray) (hv:bA ys its') (hz:ys.length<=sizeLine) :
 Inv X pins σ (upd H l (.lst ys)) { s with heap:=s.heap.update l (Obj.mapSeq f),toks:=t' }:=by
 have q:=PySem.IsL.update e f;rw[hf]at q;refine I.write (x:=l) (e:=l) (by rw[hH];exact trivial) (.inl rfl) (fun b' u hb hu=>(Gc s.heap (Obj.mapSeq f) (Ne.symm hb)).trans hu) ⟨_,q⟩ ?_
 exact⟨hz,its',_,hv,q⟩
theorem Inv.lnew {its:List Value}{t':Nat}(I:Inv X pins σ H s)(hv:bA ys its)(hz:ys.length<=sizeLine) :
 Inv X pins σ (upd H s.heap.objs.size (.lst ys)) { s with heap:=s.heap.push { cls:=.type "list",data:=.seq its.toArray },toks:=t' } :=
 I.laid (fun _ _ q=>Ag _ q) (Am _) ⟨hz,its,0,hv,Bb _ rfl⟩
theorem Inv.fresh (I:Inv X pins σ H s):H s.heap.objs.size=none:=I.hok.fresh (Am _)
theorem Inv.lstM (I:Inv X pins σ H s)(hH:H l=some (.lst xs)):xs.length<=sizeLine/\∃ (its:List Value) (n:Nat),bA xs its/\xs.length=its.length/\s.heap.get? l=some { cls:=.type "list",data:=.seq its.toArray n }:=by
 obtain⟨z,its,n,r,e⟩:=I.hok l _ hH;exact⟨z,its,n,r,r.length,e⟩
theorem aHs {n:Nat}(h:n<=sizeLine):Builtin.List.listTooLong n=false:=by
 unfold Builtin.List.listTooLong;exact decide_eq_false (by omega)
end
section
variable {X:Cx}
def aLf:V->List V->Hp->VK->Prop:=fun x vs H Q=>∃ l xs y,x=.ref l/\vs=[y]/\H l=some (.lst xs)/\xs.length<sizeLine/\Q .non (upd H l (.lst (xs++[y])))
theorem vO:MtM X "list.append" aLf:=by
 intro pins s σ H x vs v us Q I rx rv h;obtain⟨l,xs,y,rfl,rfl,hH,hz,q⟩:=h;cases rx;obtain⟨u,rfl,ru⟩:=rv.one;obtain⟨z,its,n,r,hl,e⟩:=I.lstM hH;refine call_meets F.slot_list_append ⟨_,e,rfl⟩ F.entry_list_append (F.args_list_append_2 _ _) (PySem.list_append l its.toArray n u (by rw[Aq];omega)) ⟨e,?_⟩
 refine⟨.non,_,I.lset (its':=its++[u]) hH e (by simp) (r.append (.cons ru .nil)) ?_,rfl,q⟩
 rw[Ak,Ar];omega
def aT4:R2:=fun x y H Q=>∃ l k xs,x=.ref l/\y=.int k/\H l=some (.lst xs)/\-(2^63)<=k/\k<2^63/\xs.length*k.toNat<=sizeLine /\
 ∀ p,H p=none->Q (.ref p) (upd H p (.lst (Aw k.toNat xs).flatten))
theorem aN2 {α:Type}(xs:List α)(k:Nat):(Aw k xs).flatten.length=k*xs.length:=by
 induction k with
 | zero=>simp
 | succ k ih=>rw[Dp,Ep,Ak,ih,Gw,Nat.add_comm]
theorem aPr:OpR X (binaryOp .Mult) aT4:=by
 intro pins s σ H x y v u Q I rx ry h;obtain⟨l,k,xs,rfl,rfl,hH,h1,h2,hz,q⟩:=h;cases rx;obtain⟨t,rfl⟩:=ry;obtain⟨z,its,n,r,hl,e⟩:=I.lstM hH;have hlen:its.toArray.size*k.toNat<=sizeLine:=by rw[Aq,←hl];exact hz
 have hcap:¬ its.toArray.size*k.toNat>(2^63-1)/8:=by
  have:(sizeLine:Nat)<=(2^63-1)/8:=by decide
  omega
 have hfit:¬ (!Builtin.List.listFitsIndex k)=true:=by
  rw[fitsIndex_both h1 h2];exact Db
 have hlong:¬ Builtin.List.listTooLong (its.toArray.size*k.toNat)=true:=by
  rw[aHs hlen];exact Db
 have hnew:List.foldl (fun x1 x2=>x1++x2) #[] (Aw (if its.toArray.isEmpty=true then 0 else k.toNat) its.toArray)=(Aw k.toNat its).flatten.toArray:=by
  have f0:∀ m:Nat,List.foldl (fun x1 x2=>x1++x2) #[] (Aw m its.toArray)=(Aw m its).flatten.toArray:=fun m=>by
   have:=vY its m []
   rw[Dq]at this;exact this
  rw[f0];cases its with
  | nil=>simp
  | cons a r'=>rw[if_neg (by simp)]
 refine wpAny_binaryOp_repeat_ref (T:="list") (U:="int") (by decide) ⟨_,e,rfl⟩ (fun s'=>typeIs_int s' k t) noFill_list_mul F.fills_int_mul F.slot_int_rmul repeat_list F.slot_int_index.lookup
  (call_meets F.slot_int_rmul (typeIs_int s k t) F.entry_int_rmul (F.args_int_rmul_2 _ _) (int___rmul___int_list k t l its.toArray n)
   ⟨e,rfl,⟨_,e,rfl⟩,call_meets F.slot_list_mul ⟨_,e,rfl⟩ F.entry_list_mul (F.args_list_mul_2 _ _) (AutoListH.list___mul___list_int_3 l its.toArray n k t hfit hcap hlong) ⟨e,?_⟩⟩)
 rw[hnew];exact⟨.ref _,_,I.lnew (t':=s.toks) (r.rep k.toNat) (by rw[aN2,Nat.mul_comm];exact hz),rfl,q _ I.fresh⟩
end
end L2
namespace Att
open PySem PySem.W PySem.Calls PyProof.Rows
theorem qP {P:Params}{h:Heap}:∀ (ns:List Int) (vs:List Value),WellAll P h vs (ns.map WData.int)->IntsAre vs ns:=by
 intro ns;induction ns with
 | nil =>
  intro vs w;rw[Ic]at w;cases w;exact .nil
 | cons n ns ih =>
  intro vs w;rw[Ai]at w;cases w with
  | cons a b =>
   cases a;exact .cons _ _ (ih _ b)
theorem aFo {l:OpenLaw}{n:Nat}(hn:l.most=some n){P:Params}{h:Heap}{args:List WData}{vals:List Value}
 (hpre:l.row.toRowW.claim.pre args=true) (hwl:WellAll P h vals args) :
 ∃ a vs ns,vals=[Value.ref a]/\args=[WData.list (ns.map WData.int)]/\h.get? a=some { cls:=.type "list",data:=.seq vs.toArray }/\IntsAre vs ns/\ns.length<=n:=by
 have hsh:WShape.hasAll [] args [.list .int]=true:=(pre_splitW hpre).1;have hc:l.pre.holds [] { args:=args }=true:=(pre_splitW hpre).2;obtain⟨d,r,rfl,h1,h2⟩:=hasAllW_cons hsh;obtain rfl:=hasAllW_nil h2;obtain⟨xs,rfl,h3⟩:=hasW_list h1;obtain⟨ns,rfl⟩:=items_int h3
 have hlen:ns.length<=n:=by
  unfold OpenLaw.pre at hc
  have h4:(WTm.not (.lt (.lit (.int (n:Int))) (.len (.arg 0)))).holds [] { args:=[.list (ns.map .int)] }=true:=by
   have h4:=(holds_andW hc).1;rw[hn]at h4;exact h4
  have h5:=condW_of h4 (w_not (w_lt w_lit (w_len_list (w_arg rfl))));rw[Ad]at h5;refine Nat.le_of_not_lt fun q=>?_
  have q':(n:Int)<((ns.length:Nat):Int):=by omega
  first
   | (rw[decide_eq_true q']at h5;exact absurd h5 (by decide))
   | (simp at h5;omega)
 cases hwl with
 | cons w1 w2 =>
  cases w2;cases w1 with
  | list ho hall=>exact⟨_,_,ns,rfl,rfl,ho,qP ns _ hall,hlen⟩
theorem aGd (l:OpenLaw)(args:List WData):l.row.toRowW.claim.post args (.bool true) args=true :=
 postW_of (r:=l.row.toRowW) (X:=(true==true))
  (show WShape.has [] (.bool true) .bool=true by first | rfl | decide | simp[WShape.has,WShape.arms,WShape.armsAll])
  (show (WTm.eq .res (.lit (.bool true))).value [] { args:=args,res:=some (.bool true),after:=args }=some (.bool (true==true)) from w_eq_bool (w_res rfl) w_lit) rfl
theorem zP {l:OpenLaw}{n:Nat}{q:Program}{loose:List Str}{XP:(Str->Option Value)->Heap->Prop}{YP:World->Heap->Prop}{d:DefRec}
 (hn:l.most=some n) (hdf:d.params.defaults=[])
 (call:∀ (w:World) (s₀ s₁:Shared) (mg mb:Str->Option Value) (fa:Addr) (o:Obj) (pm cd doc:Value) (a:Addr) (vs:List Value) (ns:List Int),
  Ground q loose [] XP w s₀ mg mb s₁.heap->YP w s₁.heap ->
  s₁.heap.get? fa=some o->o.data=.func (docDef d.name d.params d.body d.scope pm cd doc)->s₁.heap.CodeRec cd d.name->mg d.name=some (.ref fa) ->
  s₁.heap.get? a=some { cls:=.type "list",data:=.seq vs.toArray }->IntsAre vs ns->ns.length<=n->s₁.gens=#[] ->
  codeAny (model l.prog w) callerA (.call (.ref fa) ⟨[.ref a],[]⟩) (fun r s'=>r=.ok (.ret (.bool true))/\OldK s₁.heap s'.heap/\s'.os=s₁.os/\AllBare s'.gens) s₁) :
 WalkO q loose XP YP l.row.toRowW d [] (fun f vs=>PySem.call f vs):=by
 intro w s₀ s₁ mg mb G Y fa o pm cd doc dV kV ho hd hcd hD hmg hg args vals as hpre hlay hrd hwl hlo;obtain rfl:dV=.none:=Dflts.none hD hdf;obtain rfl:kV=.none:=Dflts.noKw hD;obtain⟨a,vs,ns,rfl,rfl,hobj,hints,hlen⟩:=aFo hn hpre hwl;refine enter_call (codeAny_mono (call w s₀ s₁ mg mb fa o pm cd doc a vs ns G Y ho (fd_plain hd) hcd hmg hobj hints hlen hg) fun r s' hq=>?_)
 obtain⟨rfl,h2,h3,h4⟩:=hq;exact⟨.inl ⟨.bool true,.bool true,[],rfl,fun _=>rfl,.bool true,aGd l _,fun _=>⟨Do,fun _ hm=>(nomatch hm)⟩⟩,h2,h3,h4⟩
end Att
namespace L2
open PySem PySem.Spec PyProof.Rows
theorem uZ:∀ {vs:List Value} {ns:List Int},IntsAre vs ns->bA (ns.map V.int) vs
 | _,_,.nil=>.nil
 | _,_,.cons n t h=>.cons ⟨t,rfl⟩ (uZ h)
def aP6 (H:Hp):Prop:=∀ b,H b=none\/∃ o xs,H b=some (.frz o (.lst xs))
theorem aHz {P:Program}{w:World}{K:PySem.W.Frag}{mg mb:Str->Option Value}{CX:CXT}{k:Nat}{fa a:Addr}{fd:FuncData}{x:Str}{sp:Sp}{s₁:Shared}{vs:List Value}{ns:List Int}
 (KX:K.In s₁.heap) (hns:s₁.heap.Ns mainGlobals mg) (hb:s₁.heap.Ns builtinsNs mb) (hbb:∀ x:Str,x ≠ "__name__"->mb x=bootBuiltins x) (hlim:s₁.heap.NoLimit) (hg:s₁.gens=#[])
 (ha:s₁.heap.get? a=some { cls:=.type "list",data:=.seq vs.toArray }) (hi:IntsAre vs ns) (hl:ns.length<=sizeLine) (hr:Room k callerA)
 (F:∀ base:Heap,K.In base->base.Ns mainGlobals mg->FnOk P w K mg base CX k fa fd [x] sp) (hbind:∀ (s:Shared) (u:Value),BindsTo s fd ⟨[u],[]⟩ [(x,u)])
 (hsp:∀ H:Hp,aP6 H->SqL K H a (ns.map V.int)->sp [.ref a] H (fun v _=>v=.bl true) fun _ _ _=>False)
 (hCX:∀ H e s',CX [] H s₁ (fun _ _ _=>False) e s'->False) :
 codeAny (model P w) callerA (.call (.ref fa) ⟨[.ref a],[]⟩) (fun r s'=>r=.ok (.ret (.bool true))/\OldK s₁.heap s'.heap/\s'.os=s₁.os/\AllBare s'.gens) s₁:=by
 have rv:=uZ hi;have lenV:=hi.length
 have core:∀ H:Hp,aP6 H->SqL K H a (ns.map V.int)->HOk P w H s₁.heap->(∀ b,H b≠none->b=a)->(H a≠none->K.lookup a=none) ->
  codeAny (model P w) callerA (.call (.ref fa) ⟨[.ref a],[]⟩) (fun r s'=>r=.ok (.ret (.bool true))/\OldK s₁.heap s'.heap/\s'.os=s₁.os/\AllBare s'.gens) s₁:=by
  intro H hO hS hok hA hK;have base_of:∀ {b:Addr} {o:Obj},s₁.heap.get? b=some o->H b=none->(yU s₁.heap H).get? b=some o:=fun e n=>aKj e n
  have noA:∀ {b:Addr} {o:Obj} {es:Array DictEntry} {ep:Nat},s₁.heap.get? b=some o->o.data=.dict es ep->H b=none:=fun {b o es ep} e d=>by
   cases q:H b with
   | none=>rfl
   | some u =>
    have e':b=a:=hA b (by rw[q];simp)
    subst e';rw[ha]at e;cases e;have d':Data.seq vs.toArray _=Data.dict es ep:=d;cases d'
  have nsK:∀ {b:Addr} {m:Str->Option Value},s₁.heap.Ns b m->(yU s₁.heap H).Ns b m:=fun {b m} ⟨o,es,ep,e,d,r⟩=>⟨o,es,ep,base_of e (noA e d),d,r⟩
  have hKb:K.In (yU s₁.heap H):=fun b o e=>base_of (KX b o e) (by
   cases q:H b with
   | none=>rfl
   | some u =>
    have e':b=a:=hA b (by rw[q];simp)
    subst e'
    rw[hK (by rw[q];simp)]at e;cases e)
  have hM:Mod K mg (yU s₁.heap H):=⟨hKb,nsK hns,⟨mb,nsK hb,hbb⟩,let ⟨mc,h1,h2⟩:=hlim;⟨mc,nsK h1,h2⟩⟩
  have e0:Env0 P w K mg (yU s₁.heap H) callerA [] s₁ H:=⟨rfl,hM,fun b o e=>aKt e,Nat.le_of_eq (aFw _ _),trivial,fun b hb=>absurd (show b∈([]:List Addr) from hb) (by simp),hok,.of_eq hg⟩
  refine codeAny_mono ((F _ hKb (nsK hns)).run callerA [] s₁ H ⟨[.ref a],[]⟩ [.ref a] [.ref a] _ _ hr e0 (hbind s₁ (.ref a)) (.cons rfl .nil) (hsp H hO hS)) fun r s' h=>?_
  cases r with
  | error e=>exact(hCX H e s' h).elim
  | ok fl =>
   cases fl with
   | next=>exact False.elim h
   | brk=>exact False.elim h
   | cont=>exact False.elim h
   | ret u =>
    obtain⟨v,H',os,bare,un,hok',r',q⟩:=h;have q':v=.bl true:=q;subst q';obtain rfl:u=Value.bool true:=r';refine⟨rfl,OldK.of_keep fun b o e=>?_,os,bare⟩
    cases q:H b with
    | none=>exact un.keep b o e q (by intro z;exact absurd (show b∈([]:List Addr) from z) (by simp)) (by simp)
    | some u =>
     rcases hO b with z | ⟨ob,xs,z⟩
     · rw[q]at z;cases z
     · have z2:=un.frzs b ob _ z
       obtain⟨e1,_⟩:=hok b _ z;obtain⟨e2,_⟩:=hok' b _ z2;rw[e]at e1;cases e1;exact e2
 cases hk:K.lookup a with
 | some o =>
  have e:=KX a o hk;rw[ha]at e;cases e;refine core (fun _=>none) (fun _=>.inl rfl) (.inr ⟨_,vs.toArray,_,hk,rfl,rfl,rfl,by rw[Aq,lenV];exact hl,by simpa using rv⟩) (fun b u z=>by have z':(none:Option HO)=some u:=z;cases z') (fun b z=>absurd rfl z) fun z=>absurd rfl z
 | none =>
  refine core (fun b=>if b=a then some (.frz { cls:=.type "list",data:=.seq vs.toArray } (.lst (ns.map V.int))) else none) (fun b=>?_) (.inl (.inr ⟨{ cls:=.type "list",data:=.seq vs.toArray },if_pos rfl⟩)) (fun b u z=>?_) (fun b z=>?_) fun _=>hk
  · by_cases hb:b=a
    · exact .inr ⟨_,_,if_pos hb⟩
    · exact .inl (if_neg hb)
  · by_cases hb:b=a
    · have z':=(if_pos hb).symm.trans z
      cases z';subst hb;exact⟨ha,by rw[Ad];exact hl,vs,_,rv,ha⟩
    · have z':=(if_neg hb).symm.trans z
      cases z'
  · by_cases hb:b=a
    · exact hb
    · exact absurd (if_neg hb) z
end L2
namespace L2
open PySem PySem.Spec PyProof.Rows
theorem aNv {l:PySem.W.OpenLaw}{n k:Nat}{q:Program}{loose:List Str}{XP:(Str->Option Value)->Heap->Prop}{YP:World->Heap->Prop}{d:DefRec}{K:Params->PySem.W.Frag}{CX:World->CXT}{sp:World->Sp}{x:Str}
 (hn:l.most=some n) (hn2:n<=sizeLine) (hdf:d.params.defaults=[]) (hr:Room k callerA)
 (hY:∀ (w:World) (h:Heap),YP w h->(K w.params).In h)
 (F:∀ (w:World) (mg:Str->Option Value) (fa:Addr) (h:Heap),(K w.params).In h->h.Ns mainGlobals mg->mg d.name=some (.ref fa) ->
  ∃ fd:FuncData,(∀ (s:Shared) (u:Value),BindsTo s fd ⟨[u],[]⟩ [(x,u)]) /\
   ∀ base:Heap,(K w.params).In base->base.Ns mainGlobals mg->FnOk l.prog w (K w.params) mg base (CX w) k fa fd [x] (sp w))
 (hsp:∀ (w:World) (H:Hp) (a:Addr) (ns:List Int),ns.length<=n->aP6 H->SqL (K w.params) H a (ns.map V.int)->sp w [.ref a] H (fun v _=>v=.bl true) fun _ _ _=>False)
 (hCX:∀ (w:World) (H:Hp) (s:Shared) (e:Value) (s':Shared),CX w [] H s (fun _ _ _=>False) e s'->False) :
 PySem.W.WalkO q loose XP YP l.row.toRowW d [] (fun f vs=>PySem.call f vs):=by
 refine Att.zP hn hdf fun w s₀ s₁ mg mb fa o pm cd doc a vs ns G Y ho hd hcd hmg hobj hints hlen hg=>?_
 have KX:=hY w _ Y;obtain⟨fd,hb,hF⟩:=F w mg fa _ KX G.T.g hmg;exact aHz KX G.T.g G.T.b G.T.builtins G.T.nolimit hg hobj hints (Bj hlen hn2) hr hF hb (fun H hO hS=>hsp w H a ns hlen hO hS) fun H e s'=>hCX w H s₁ e s'
end L2
namespace L2
open PySem PySem.Spec PyProof.Rows
def aKs (s:Stmt)(j:Nat):Stmt:=match s with
 | .ClassDef _ _ _ body _ _ _ _ _ _ _=>body.getD j (.Pass ⟨0,0,0,0⟩)
 | _=>.Pass ⟨0,0,0,0⟩
def gL (s:Stmt):Arguments:=match s with
 | .FunctionDef _ a _ _ _ _ _ _ _ _=>a
 | _=>{ posonlyargs:=[],args:=[],vararg:=none,kwonlyargs:=[],kw_defaults:=[],kwarg:=none,defaults:=[] }
def eO (s:Stmt):List Stmt:=match s with
 | .FunctionDef _ _ b _ _ _ _ _ _ _=>b
 | _=>[]
def aN (s:Stmt):Scope:=match s with
 | .FunctionDef _ _ _ _ _ _ sc _ _ _=>sc
 | _=>{ kind:=.function,names:=[],isGenerator:=false,isCoroutine:=false }
abbrev E0:XK:=fun _ _ _=>False
structure Fun (K:PySem.W.Frag)(x qual:Str)(st:Stmt)(f:Addr)(fd:FuncData):Prop where
 ex:∃ (oc:Value) (od:Option Addr) (kV doc pm:Value) (an:Option Addr) (cdv ct:Value) (osl:Array (Option Value)),
  fd=Dv x qual (gL st) (eO st) (aN st) .none kV doc pm an cdv ct/\K.lookup f=some ⟨oc,od,.func fd,osl⟩/\Fh K cdv qual=true
 kp:Ei K (.ref f)=true
section
variable {P:Program}{w:World}{K:PySem.W.Frag}{mg:Str->Option Value}{base:Heap}
theorem Fun.binds {x qual:Str}{st:Stmt}{f:Addr}{fd:FuncData}{ps:List Str}(F:Fun K x qual st f fd)
 (h:∀ (kV doc pm:Value) (an:Option Addr) (cdv ct:Value) (us:List Value),us.length=ps.length->bindArgs (Dv x qual (gL st) (eO st) (aN st) .none kV doc pm an cdv ct) ⟨us,[]⟩=pure (ps.zip us)):mG K fd ps []:=by
 obtain⟨oc,od,kV,doc,pm,an,cdv,ct,osl,rfl,lk,hcd⟩:=F.ex;exact .all (h kV doc pm an cdv ct)
theorem aC4 {x qual:Str}{st:Stmt}{f:Addr}{oc:Value}{od an:Option Addr}{osl:Array (Option Value)}{kV doc pm cdv ct:Value}(l:K.lookup f=some ⟨oc,od,.func (Dv x qual (gL st) (eO st) (aN st) .none kV doc pm an cdv ct),osl⟩)
 (c:Fh K cdv qual=true) (k:Ei K (.ref f)=true):Fun K x qual st f (Dv x qual (gL st) (eO st) (aN st) .none kV doc pm an cdv ct):=⟨⟨oc,od,kV,doc,pm,an,cdv,ct,osl,rfl,l,c⟩,k⟩
end
section
variable {X:Cx}
theorem pv (i:Nat){x:Str}{pos:Pos}(hN:X.N[i]?=some x:=by rfl)(hv:Vis X.env.scope x:=by first | exact Or.inl rfl | exact Or.inr (Or.inl rfl) | exact Or.inr (Or.inr rfl))(hd:(x==("__debug__":Str))=false:=by decide)
 (hcd:(x==("__classdict__":Str))=false:=by decide):PE X (.Name x pos) (xK i):=pO hN hv hd hcd
end
theorem aHn {A B:Prop}(h:B):if false=true then A else B:=by
 rw[if_neg Db];exact h
theorem aI5 {A B:Prop}(h:A):if true=true then A else B:=by
 rw[if_pos rfl];exact h
def aD (H H':Hp):Prop:=∀ b o,H b=some o->H' b=some o
theorem aD.refl (H:Hp):aD H H:=fun _ _ h=>h
theorem aD.trans {H H1 H2:Hp}(a:aD H H1)(b:aD H1 H2):aD H H2:=fun c o h=>b c o (a c o h)
theorem aD.free {H H':Hp}(e:aD H H'){l:Addr}(h:H' l=Ij):H l=Ij:=by
 cases q:H l with
 | none=>rfl
 | some o =>
  rw[e l o q]at h;cases h
theorem aD.seq {K:PySem.W.Frag}{H H':Hp}{a:Addr}{xs:List V}(e:aD H H')(h:SqL K H a xs):SqL K H' a xs:=by
 rcases h with (h | ⟨o,h⟩) | h
 · exact .inl (.inl (e _ _ h))
 · exact .inl (.inr ⟨o,e _ _ h⟩)
 · exact .inr h
end L2
namespace L2
open PySem PySem.Spec PyProof.Rows
section
variable {pg:Program}{w:World}{A:Around}
abbrev nox:Value->Shared->Prop:=fun _ _=>False
abbrev wpN {α:Type}(pg:Program)(w:World)(A:Around)(t:Sem α)(Q:α->Shared->Prop)(s:Shared):Prop:=wpAny (model pg w) A t Q nox s
def aH7 (ifs:List Expr)(env:Env):Sem Bool :=
 forIn ifs true fun c r =>
  if r=true then do
   let ok ← isTrue c env (eval c env)
   pure (ForInStep.yield ok)
  else pure (ForInStep.yield r)
def aJ8 (pg:Program)(w:World)(A:Around)(elt tg:Expr)(ifs:List Expr)(it acc:Value)(env:Env)(J:Shared->Prop)(v:Value)(s:Shared):Prop :=
 wpN pg w A (letOwnedTupleGo tg it v) (fun _ sa=>wpN pg w A (assign tg env v) (fun _ sb=>wpN pg w A (aH7 ifs env) (fun ok sc =>
  if ok=true then wpN pg w A (eval elt env) (fun x sd=>wpN pg w A (call (.builtin "list.append") [acc,x]) (fun _ se=>J se) sd) sc else J sc) sb) sa) s
theorem mo {α:Type}{t:Sem α}{Q Q':α->Shared->Prop}{E:Value->Shared->Prop}{s:Shared}(h:wpN pg w A t Q s)(k:∀ a s',Q a s'->Q' a s'):wpAny (model pg w) A t Q' E s :=
 wpAny_mono h k (fun _ _ f=>False.elim f)
theorem xC {elt target iter:Expr}{ifs:List Expr}{scope:Scope}{pos:Pos}{it acc:Value}{env:Env}{R:Result->Shared->Prop}{s₀:Shared}(I:Nat->Shared->Prop)
 (turn:∀ n s,I n s->wpN pg w A (pyNext it) (fun r s₁=>match r with
  | none=>R (.ok .next) s₁
  | some v=>aJ8 pg w A elt target ifs it acc env (fun s'=>∃ m,m<n/\I m s') v s₁) s)
 (top:Nat) (start:I top s₀):codeAny (model pg w) A (.compLoop (.ListComp elt [⟨target,iter,ifs,0⟩] scope pos) 0 it acc env) R s₀:=by
 apply codeAny_loop rfl I _ top start
 intro n s hI;apply wpAny_noted
 rw[compTurn_list];refine wpAny_bind (wpAny_standAt (wpAny_bind (mo (turn n s hI) ?_)))
 rintro (_ | v) s₁ goal
 · exact wpAny_pure goal
 · refine wpAny_bind (mo goal fun _ sa ga=>wpAny_bind (mo ga fun _ sb gb=>wpAny_bind (mo gb ?_)))
   rintro (_ | _) sc gc
   · exact wpAny_pure (And.intro rfl gc)
   · refine wpAny_bind (wpAny_bind (mo gc fun x sd gd=>wpAny_bind (mo gd fun _ se ge=>?_)))
     exact wpAny_pure (wpAny_pure (And.intro rfl ge))
end
theorem bY:∀ (names:List (Str×NameKind)) (n:Nat) (acc:List (Str×Addr)),cellsFrom n names acc=cellsFrom n names []++acc
 | [],_,_=>rfl
 | (x,k) :: r,n,acc=>by
  unfold cellsFrom;split
  · rw[bY r (n+1) ((x,n) :: acc),bY r (n+1) [(x,n)],Bn];rfl
  · exact bY r n acc
theorem iG:∀ (names:List (Str×NameKind)) (n:Nat) {x:Str} {c:Addr},(x,c)∈cellsFrom n names []->(x,NameKind.cell)∈names
 | [],_,_,_,h=>by simp[cellsFrom]at h
 | (y,k) :: r,n,x,c,h=>by
  unfold cellsFrom at h;split at h
  · rename_i hk
    rw[bY]at h;have two:=Av.mp h;rcases two with h | h
    · exact Ac _ (iG r _ h)
    · have e:(x,c)=(y,n):=by simpa using h
      have e2:k=NameKind.cell:=by simpa using hk
      cases e;rw[e2];exact Ab
  · exact Ac _ (iG r n h)
def iF (cells:List (Str×Addr)):List (Str×NameKind)->List (Str×Addr)->List (Str×Addr)
 | [],acc=>acc
 | (n,k) :: r,acc=>iF cells r (if k==.free then ((cells.lookup n).map fun c=>(n,c)).toList++acc else acc)
theorem tF {cells:List (Str×Addr)}:∀ (names:List (Str×NameKind)) (acc:List (Str×Addr)) {x:Str} {c:Addr},(x,c)∈iF cells names acc->(x,c)∈acc\/cells.lookup x=some c
 | [],_,_,_,h=>.inl h
 | (n,k) :: r,acc,x,c,h=>by
  unfold iF at h;rcases tF r _ h with h | h
  · split at h
    · have two:=Av.mp h
      rcases two with h | h
      · cases e:cells.lookup n with
        | none=>rw[e]at h;simp at h
        | some c' =>
         rw[e]at h;have e2:(x,c)=(n,c'):=by simpa using h
         cases e2;exact .inr e
      · exact .inl h
    · exact .inl h
  · exact .inr h
theorem nY {cells:List (Str×Addr)}:∀ (names:List (Str×NameKind)) (acc:List (Str×Addr)) {x:Str} {c:Addr},((x,c)∈acc\/((x,NameKind.free)∈names/\cells.lookup x=some c))->(x,c)∈iF cells names acc
 | [],_,_,_,h=>h.elim id fun h=>by simp at h
 | (n,k) :: r,acc,x,c,h=>by
  unfold iF;refine nY r _ ?_
  rcases h with h | ⟨h,e⟩
  · left
    split
    · exact Az _ h
    · exact h
  · rcases Aj.mp h with h | h
    · cases h
      left
      rw[if_pos (by rfl),e]
      simp
    · exact .inr ⟨h,e⟩
theorem uS {scope:Scope}{env:Env}(h:∀ y∈scope.names,y.2=.free->∃ c,env.cells.lookup y.1=some c):closureFor scope env=pure (iF env.cells scope.names []):=by
 unfold closureFor
 have go:∀ (names:List (Str×NameKind)) (acc:List (Str×Addr)),(∀ y∈names,y.2=.free->∃ c,env.cells.lookup y.1=some c) ->
  (forIn names acc fun x r=>match x with
   | (name,kind)=>if (kind==NameKind.free)=true then do let a ← cellOf env name;pure (ForInStep.yield ((name,a) :: r)) else pure (ForInStep.yield r):Sem (List (Str×Addr)))=pure (iF env.cells names acc):=by
  intro names;induction names with
  | nil=>intro acc _;rfl
  | cons y r ih =>
   obtain⟨n,k⟩:=y;intro acc hh;rw[List.forIn_cons];unfold iF;by_cases hk:(k==NameKind.free)=true
   · have e2:k=NameKind.free:=by simpa using hk
     obtain⟨c,hc⟩:=hh (n,k) Ab e2;have hcell:cellOf env n=pure c:=by unfold cellOf;rw[hc]
     simp only[hk,if_true,hcell,pure_bind,hc,Fq,Option.toList_some,List.singleton_append];exact ih _ fun y hy=>hh y (Ac _ hy)
   · simp only[hk,if_false,pure_bind]
     exact ih _ fun y hy=>hh y (Ac _ hy)
 have:=go scope.names [] h
 simp only[this,pure_bind]
theorem mL {α:Type}:∀ {l:List (Str×α)} {x:Str} {a:α},(l.map (·.1)).Nodup->(x,a)∈l->l.lookup x=some a
 | (y,b) :: r,x,a,hn,h=>by
  have hn:=Br.mp (show (y :: r.map (·.1)).Nodup from hn)
  rcases Aj.mp h with h | h
  · cases h
    simp
  · have hne:x≠y:=fun e=>hn.1 (by rw[←e];exact Ah.mpr ⟨(x,a),h,rfl⟩)
    rw[Bu,beq_false_of_ne hne];exact mL hn.2 h
theorem bN {α:Type}:∀ {l:List (Str×α)} {x:Str},x∈l.map (·.1)->∃ a,l.lookup x=some a
 | (y,b) :: r,x,h=>by
  rw[Bu];cases e:x==y with
  | true=>exact⟨b,rfl⟩
  | false =>
   rw[Ai]at h;rcases Aj.mp h with h | h
   · rw[h]at e;simp at e
   · exact bN h
def zQ (scope:Scope)(C:Addr)(env:Env):Env:=compEnvC scope (cellsFrom (C+1) scope.names (iF env.cells scope.names [])) C env
def cF (X:Cx)(scope:Scope)(N:List Str)(fp:List Addr)(s:Shared)(H:Hp):Cx :=
 { X with N:=N,s₀:=s,H₀:=H,env:=zQ scope s.heap.objs.size X.env,outer:=X.stack,stack:=X.stack,ex:=fp,fn:=fun x=>decide (scope.names.lookup x=some .cell),pn:=[],xe:=fun _ _=>False }
structure CompOk (X:Cx)(scope:Scope)(N:List Str)(k:Nat)(fs:List Nat):Prop where
 kind:scope.kind=.function
 nd:(scope.names.map (·.1)).Nodup
 free:∀ y∈scope.names,y.2=.free->y.1∈X.env.cells.map (·.1)
 len:N.length=k+fs.length
 out:∀ (j i:Nat),fs[j]?=some i->∃ x,N[k+j]?=some x/\X.N[i]?=some x/\scope.names.lookup x=some .free/\(X.env.kindOf x=some .cell\/X.env.kindOf x=some .free)
def eQ (k:Nat)(fs:List Nat)(σ:St):St:=Aw k none++fs.map fun i=>(σ[i]?).join
def uX (k:Nat)(g:TG):Prop:=∀ x σ H Q,g x σ H Q->g x σ H fun σ' H'=>Q σ' H'/\σ'.length=σ.length/\∀ i,k<=i->σ'[i]?=σ[i]?
def aBn (k:Nat)(g:TGs):Prop:=∀ x σ H Q,g x σ H Q->g x σ H fun σ' H'=>Q σ' H'/\σ'.length=σ.length/\∀ i,k<=i->σ'[i]?=σ[i]?
theorem aJ7 {k i:Nat}(h:i<k):uX k (zF i):=fun x σ H Q q=>⟨q,by simp,fun j hj=>by rw[Ay (by omega)]⟩
theorem aKf {k:Nat}:aBn k aMv:=fun x σ H Q ⟨e,q⟩=>⟨e,q,rfl,fun _ _=>rfl⟩
def aAb (g:TG):Prop:=∀ x σ H Q Q',(∀ σ' H',Q σ' H'->Q' σ' H')->g x σ H Q->g x σ H Q'
def pY (g:TGs):Prop:=∀ x σ H Q Q',(∀ σ' H',Q σ' H'->Q' σ' H')->g x σ H Q->g x σ H Q'
theorem aFf {i:Nat}:aAb (zF i):=fun _ _ _ _ _ h q=>h _ _ q
theorem aFm:pY aMv:=fun _ _ _ _ _ h ⟨e,q⟩=>⟨e,h _ _ q⟩
theorem aCx {t:TG}{u:TGs}(h1:aAb t)(h2:pY u):pY (aDs t u):=fun x σ H Q Q' h ⟨v,r,e,q⟩=>⟨v,r,e,h1 _ _ _ _ _ (fun σ' H' q'=>h2 _ _ _ _ _ h q') q⟩
theorem aH3 {K:PySem.W.Frag}{n:Nat}{u:TGs}(h:pY u):aAb (aMi K n u):=fun x σ H Q Q' hq ⟨a,xs,e,h1,h2,q⟩=>⟨a,xs,e,h1,h2,h _ _ _ _ _ hq q⟩
theorem aFn {k:Nat}{t:TG}{u:TGs}(m1:aAb t)(m2:pY u)(h1:uX k t)(h2:aBn k u):aBn k (aDs t u):=fun x σ H Q ⟨v,r,e,q⟩=>by
 refine⟨v,r,e,?_⟩
 refine m1 _ _ _ _ _ (fun σ' H' q'=>?_) (h1 _ _ _ _ q)
 obtain⟨q1,l1,a1⟩:=q';refine m2 _ _ _ _ _ (fun σ2 H2 q2=>?_) (h2 _ _ _ _ q1)
 obtain⟨q3,l3,a3⟩:=q2;exact⟨q3,l3.trans l1,fun i hi=>(a3 i hi).trans (a1 i hi)⟩
theorem aN4 {k n:Nat}{K:PySem.W.Frag}{u:TGs}(h:aBn k u):uX k (aMi K n u):=fun x σ H Q ⟨a,xs,e,h1,h2,q⟩=>⟨a,xs,e,h1,h2,h _ _ _ _ q⟩
section
variable {X:Cx}{pins:List (Addr×Obj)}{σ:St}{H:Hp}{s:Shared}{scope:Scope}{N:List Str}{k:Nat}{fs:List Nat}{fp:List Addr}
theorem CompOk.clos (C:CompOk X scope N k fs):closureFor scope X.env=pure (iF X.env.cells scope.names []):=uS fun y hy hf=>bN (C.free y hy hf)
theorem CompOk.names (C:CompOk X scope N k fs):∀ y∈scope.names,y.2=.local->scope.names.lookup y.1=some .local:=fun y hy e=>mL C.nd (by rw[←e];exact hy)
theorem aBe {cells:List (Str×Addr)}{names:List (Str×NameKind)}{x:Str}{c:Addr}(h:(iF cells names []).lookup x=some c):cells.lookup x=some c :=
 (tF names [] (mem_of_lookup h)).elim (fun z=>by simp at z) id
theorem gQ {cells:List (Str×Addr)}{C:Nat}{x:Str}{c:Addr}(h:(cellsFrom (C+1) scope.names (iF cells scope.names [])).lookup x=some c) :
 (x,c)∈cellsFrom (C+1) scope.names []\/cells.lookup x=some c:=by
 rw[bY]at h;rcases Av.mp (mem_of_lookup h) with z | z
 · exact .inl z
 · exact .inr ((tF _ _ z).elim (fun z=>by simp at z) id)
theorem wW {env:Env}{x:Str}:(relabel scope env).names.lookup x=some .cell\/(relabel scope env).names.lookup x=some .free->scope.names.lookup x=some .cell\/scope.names.lookup x=some .free:=by
 unfold relabel;generalize scope.names=names
 induction names with
 | nil=>simp
 | cons y r ih =>
  obtain⟨n,kd⟩:=y;simp only[Ai];by_cases hx:(x==n)=true
  · split
    · rename_i hc
      intro _
      have:(kd==NameKind.free)=true:=by
       have hc:=Ct.mp hc;exact(Ct.mp hc.1).1
      have e:kd=NameKind.free:=by simpa using this
      rw[Bu,hx,e];exact .inr rfl
    · intro h
      simp only[Bu,hx]at h ⊢;exact h
  · have hx':(x==n)=false:=by simpa using hx
    intro h
    have h':(El x (r.map fun x=>match x with | (n,k)=>if (k==NameKind.free&&env.scope.kind==.function&&env.kindOf n==some .cell)=true then (n,NameKind.cell) else (n,k))=some .cell\/El x (r.map fun x=>match x with | (n,k)=>if (k==NameKind.free&&env.scope.kind==.function&&env.kindOf n==some .cell)=true then (n,NameKind.cell) else (n,k))=some .free):=by
     split at h<;>simpa only[Bu,hx'] using h
    rw[Bu,hx'];exact ih h'
theorem oO {env:Env}{x:Str}:scope.names.lookup x=some .free->(relabel scope env).names.lookup x=some .cell\/(relabel scope env).names.lookup x=some .free:=by
 unfold relabel;generalize scope.names=names
 induction names with
 | nil=>simp
 | cons y r ih =>
  obtain⟨n,kd⟩:=y;simp only[Ai];intro h;by_cases hx:(x==n)=true
  · rw[Bu,hx]at h
    cases h;split
    · left;rw[Bu,hx]
    · right;rw[Bu,hx]
  · have hx':(x==n)=false:=by simpa using hx
    rw[Bu,hx']at h;have:=ih h
    split<;>simpa only[Bu,hx'] using this
theorem aL9 (C:CompOk X scope N k fs)(I:Inv X pins σ H s)(hf:∀ b∈fp,mX X pins H b)(ho:∀ b∈fp,b<s.heap.objs.size):(cF X scope N fp s H).Ok where
 mod:=I.ok.mod
 kind:=C.kind
 glob:=I.ok.glob
 blt:=I.ok.blt
 above:=Am _
 inj:=fun x y c hx hy=>by
  have ok:=cellsFrom_ok scope.names (s.heap.push { cls:=.type "dict",data:=.dict #[] }) (s.heap.objs.size+1) [] ⟨fun _ _ hm=>(nomatch hm),Do⟩ (by rw[Cd];exact Am _)
  rw[Cd]at ok;have old:∀ z c,X.env.cells.lookup z=some c->c<s.heap.objs.size:=fun z c e=>let ⟨_,q⟩:=I.cell z c e;q.lt
  rcases gQ hx with h1 | h1<;>rcases gQ hy with h2 | h2
  · exact name_of_addr ok.apart h1 h2
  · exact absurd (old _ _ h2) (Nat.not_lt.mpr (Fe (ok.empty _ _ h1).2))
  · exact absurd (old _ _ h1) (Nat.not_lt.mpr (Fe (ok.empty _ _ h2).2))
  · exact I.ok.inj x y c h1 h2
 has:=fun x h=>by
  have h':scope.names.lookup x=some .cell\/scope.names.lookup x=some .free:=wW h
  have:((cellsFrom (s.heap.objs.size+1) scope.names (iF X.env.cells scope.names [])).lookup x).isSome=true:=by
   refine Ev _ _ _ ?_
   rcases h' with h' | h'
   · exact .inl h'
   · right
     obtain⟨c,hc⟩:=bN (C.free _ (mem_of_lookup h') rfl);have hm:x∈(iF X.env.cells scope.names []).map (·.1):=Ah.mpr ⟨(x,c),nY _ _ (.inr ⟨mem_of_lookup h',hc⟩),rfl⟩;obtain⟨a,ha⟩:=bN hm;rw[ha];rfl
  exact Fp.mp this
 cab:=fun x c hx hl=>by
  have hx':scope.names.lookup x=some .cell:=of_decide_eq_true hx;have hsome:((cellsFrom (s.heap.objs.size+1) scope.names []).lookup x).isSome=true:=Ev _ _ _ (.inl hx');obtain⟨c',hc'⟩:=Fp.mp hsome;have hl':(cellsFrom (s.heap.objs.size+1) scope.names (iF X.env.cells scope.names [])).lookup x=some c:=hl;rw[bY,List.lookup_append,hc']at hl';cases hl';have ok:=cellsFrom_ok scope.names (s.heap.push { cls:=.type "dict",data:=.dict #[] }) (s.heap.objs.size+1) [] ⟨fun _ _ hm=>(nomatch hm),Do⟩ (by rw[Cd];exact Am _)
  rw[Cd]at ok;exact Fe (ok.empty _ _ (mem_of_lookup hc')).2
 hd:=I.ok.hd
 frames:=I.ok.frames
 stk:=.inl rfl
 exf:=fun b hb=>⟨Bq (ho b hb),fun x c e z=>by
  have ok:=cellsFrom_ok scope.names (s.heap.push { cls:=.type "dict",data:=.dict #[] }) (s.heap.objs.size+1) [] ⟨fun _ _ hm=>(nomatch hm),Do⟩ (by rw[Cd];exact Am _)
  rw[Cd]at ok;rcases gQ (cells:=X.env.cells) e with h1 | h1
  · have h2:=(ok.empty _ _ h1).2
    have h3:=ho b hb;rw[z]at h2;exact Ef _ (An h3 (Fe h2))
  · exact(hf b hb).2.2.2.2.1 x c h1 z⟩
 bs:=I.bs
 bsz:=Bj I.ok.bsz I.sz
 noex:=fun b o e hb=>by
  rcases (hf b hb).2.2.2.1 with z | z
  · exact I.ok.noex b o e z
  · exact absurd (An (Ap e) (Bj I.ok.bsz z)) (Ef _)
 exfs:=fun b hb z=>by
  rcases Aj.mp (I.stkSub b z) with e | e
  · exact(hf b hb).2.1 e
  · exact(hf b hb).2.2.1 e
 funs:=I.stack
 frf:=I.stkFree
theorem aCw (σ:St):(eQ k fs σ).length=k+fs.length:=by simp[eQ]
theorem sT {σ:St}{i:Nat}{v:V}(h:(eQ k fs σ)[i]?=some (some v)):∃ j i',i=k+j/\fs[j]?=some i'/\σ[i']?=some (some v):=by
 unfold eQ at h;by_cases hi:i<k
 · rw[Bm (by simpa using hi),List.getElem?_replicate_of_lt hi]at h
   cases h
 · rw[Au (by simpa using Nat.le_of_not_lt hi),Cy,Ao]at h
   cases e:fs[i-k]? with
   | none=>rw[e]at h;cases h
   | some i' =>
    rw[e]at h;refine⟨i-k,i',by omega,e,?_⟩
    have h':(σ[i']?).join=some v:=Cw.inj h;cases e2:σ[i']? with
    | none=>rw[e2]at h';cases h'
    | some o =>
     rw[e2]at h';have:o=some v:=h'
     rw[this]
theorem aG8 (C:CompOk X scope N k fs)(I:Inv X pins σ H s)(hf:∀ b∈fp,mX X pins H b)(ho:∀ b∈fp,b<s.heap.objs.size) :
 Inv (cF X scope N fp s H) [] (eQ k fs σ) H { s with heap:=pushCells (s.heap.push { cls:=.type "dict",data:=.dict #[] }) scope.names }:=by
 have keep:∀ b o,s.heap.get? b=some o->(pushCells (s.heap.push { cls:=.type "dict",data:=.dict #[] }) scope.names).get? b=some o:=fun b o e=>pushCells_keeps _ _ b o (Ag _ e);have ok:=cellsFrom_ok scope.names (s.heap.push { cls:=.type "dict",data:=.dict #[] }) (s.heap.objs.size+1) [] ⟨fun _ _ hm=>(nomatch hm),Do⟩ (by rw[Cd];exact Am _)
 rw[Cd]at ok;refine⟨aL9 C I hf ho,rfl,I.bare,Un.kept keep,⟨fun _=>none,?_,fun i x v hN hσ hv=>?_⟩,fun x c e=>?_,I.hok.fresh (Am _),fun x c e=>?_,(fun p hp=>by simp[cF]at hp),I.hok.kept keep,by rw[aCw];exact C.len.symm⟩
 · exact(Heap.Ns.new s.heap (.type "dict")).keeps (pushCells_keeps _ _)
 · obtain⟨j,i',rfl,hj,hσ'⟩:=sT hσ
   obtain⟨y,hy1,hy2,hy3,hy4⟩:=C.out j i' hj;have e:y=x:=Cw.inj (hy1.symm.trans hN);subst e;obtain⟨m,hn,hl⟩:=I.loc
   have hvis:Vis X.env.scope y:=by
    rcases hy4 with z | z
    · exact .inr (.inl z)
    · exact .inr (.inr z)
   obtain⟨u,ru,lk⟩:=hl i' y v hy2 hσ' hvis;refine⟨u,ru,.inr ⟨?_,?_⟩⟩
   · exact oO hy3
   · rcases lk with ⟨hk,_⟩ | ⟨_,c,hc,hcell⟩
     · rcases hy4 with z | z<;>(rw[hk]at z;cases z)
     · refine⟨c,?_,hcell.keeps keep⟩
       show (cellsFrom (s.heap.objs.size+1) scope.names (iF X.env.cells scope.names [])).lookup y=some c
       have h1:(cellsFrom (s.heap.objs.size+1) scope.names []).lookup y=none:=by
        cases e2:(cellsFrom (s.heap.objs.size+1) scope.names []).lookup y with
        | none=>rfl
        | some c' =>
         have:=mL C.nd (iG _ _ (mem_of_lookup e2))
         rw[hy3]at this;cases this
       have h2:y∈(iF X.env.cells scope.names []).map (·.1):=Ah.mpr ⟨(y,c),nY _ _ (.inr ⟨mem_of_lookup hy3,hc⟩),rfl⟩;obtain⟨c2,hc2⟩:=bN h2;have h3:=aBe hc2;rw[hc]at h3;cases h3;rw[bY,List.lookup_append,h1,hc2];rfl
 · rcases gQ (cells:=X.env.cells) e with h1 | h1
   · exact⟨none,(ok.empty _ _ h1).1⟩
   · obtain⟨v,z⟩:=I.cell x c h1
     exact⟨v,z.keeps keep⟩
 · rcases gQ (cells:=X.env.cells) e with h1 | h1
   · exact I.hok.fresh (Fe (ok.empty _ _ h1).2)
   · exact I.freeC x c h1
end
end L2
namespace L2
open PySem PySem.Spec PyProof.Rows
theorem zI {M:Model}{A:Around}{E:Value->Shared->Prop}{s:Shared}{scope:Scope}{env:Env}{Q:Env->Shared->Prop}
 (h:Q (newEnv scope s.heap.objs.size env.globals (cellsFrom (s.heap.objs.size+1) scope.names (iF env.cells scope.names [])) env.qual none .none (some env) builtinsNs)
  { s with heap:=pushCells (s.heap.push { cls:=.type "dict",data:=.dict #[] }) scope.names }) :
 wpAny M A (newFunctionEnv scope env.globals (iF env.cells scope.names []) [] env.qual none .none (some env)) Q E s:=by
 have sz:(s.heap.push { cls:=.type "dict",data:=.dict #[] }).objs.size=s.heap.objs.size+1:=Cd ..;unfold newFunctionEnv;rw[if_pos (show (some env).isSome=true from rfl)]
 apply wpAny_bind
 apply wpAny_alloc
 apply wpAny_bind
 apply wpAny_layCells
 · intro name kind cells
   cases e:kind==NameKind.cell<;>simp[e]
 · rw[sz]
   apply wpAny_bind
   apply wpAny_pure
   exact wpAny_pure h
def tG (J:It)(k:Nat)(fs:List Nat)(g:TG)(tb:St->Hp->(Option V->Hp->Prop)->Prop)(σ:St)(acc:Addr)(Qf:Hp->Prop)(H:Hp):Prop :=
 ∃ W:Nat->Nat->List V->Hp->Prop,(∃ m,W 0 m [] (upd H acc (.lst [])))/\∀ i m ys H2,W i m ys H2->H2 acc=some (.lst ys) /\
  ((J.stop i H2/\Qf H2)\/(J.go i H2/\ys.length<sizeLine/\∀ x H3,J.yld i H2 x H3->g x (eQ k fs σ) H3 fun σ4 H4=>tb σ4 H4 fun o H5 =>
   match o with
   | some v=>H5 acc=some (.lst ys)/\∃ m',m'<m/\W (i+1) m' (ys++[v]) (upd H5 acc (.lst (ys++[v])))
   | none=>∃ m',m'<m/\W (i+1) m' ys H5))
def PB (X:Cx)(ifs:List Expr)(elt:Expr)(tb:St->Hp->(Option V->Hp->Prop)->Prop):Prop :=
 ∀ (pins:List (Addr×Obj)) (s:Shared) (σ:St) (H:Hp) (Q:Option V->Hp->Prop),Inv X pins σ H s->tb σ H Q ->
  wpAny (model X.prog X.w) X.A (aH7 ifs X.env)
   (fun ok s1=>if ok=true then wpAny (model X.prog X.w) X.A (eval elt X.env) (fun u s2=>∃ v H',Inv X pins σ H' s2/\bF v u/\Q (some v) H') X.xe s1 else ∃ H',Inv X pins σ H' s1/\Q none H') X.xe s
def aV0 (te:TE):St->Hp->(Option V->Hp->Prop)->Prop:=fun σ H Q=>te σ H fun v H'=>Q (some v) H'
def bIf (tc:TT)(te:TE):St->Hp->(Option V->Hp->Prop)->Prop:=fun σ H Q=>tc σ H fun b H1=>if b=true then te σ H1 fun v H'=>Q (some v) H' else Q none H1
theorem aQ1 {X:Cx}{elt:Expr}{te:TE}(he:PE X elt te):PB X [] elt (aV0 te):=by
 intro pins s σ H Q I h;refine wpAny_tests_nil ?_
 rw[if_pos rfl];exact thn (he pins s σ H _ I h) fun u s2 ⟨v,H',I',r,q⟩=>⟨v,H',I',r,q⟩
theorem aUw {X:Cx}{elt c:Expr}{te:TE}{tc:TT}(hc:PT X c tc)(he:PE X elt te):PB X [c] elt (bIf tc te):=by
 intro pins s σ H Q I h;refine wpAny_tests_one (thn (hc pins s σ H _ I h) fun b s1 ⟨H1,I1,q1⟩=>?_)
 cases b with
 | true =>
  rw[if_pos rfl]at q1 ⊢;exact thn (he pins s1 σ H1 _ I1 q1) fun u s2 ⟨v,H',I',r,q⟩=>⟨v,H',I',r,q⟩
 | false =>
  rw[if_neg Db]at q1 ⊢;exact⟨H1,I1,q1⟩
section
variable {X:Cx}{pins:List (Addr×Obj)}{σ:St}{H:Hp}{s:Shared}{scope:Scope}{N:List Str}{k:Nat}{fs:List Nat}{tg iter elt:Expr}{ifs:List Expr}{pos:Pos}{g:TG}{tb:St->Hp->(Option V->Hp->Prop)->Prop}
theorem tU {J:It}{fp:List Addr}{it:Addr}{tn:Nat->Heap->Prop}{Qf:Addr->Hp->Prop}{RR:Value->Addr->Result->Shared->Prop}{E:Value->Shared->Prop}(hc:X.calm=true)(C:CompOk X scope N k fs)(I:Inv X pins σ H s)
 (T:Turn X.prog X.w X.K tg J fp it tn) (t0:tn 0 s.heap) (f0:∀ b∈fp,mX X pins H b) (hg:∀ fp s H,PG (cF X scope N fp s H) tg g) (gl:uX k g) (hb:∀ fp s H,PB (cF X scope N fp s H) ifs elt tb)
 (h:∀ acc,H acc=none->tG J k fs g tb σ acc (Qf acc) H)
 (hRR:∀ (acc B:Addr) (H':Hp) (s':Shared) (m:Str->Option Value),Qf acc H'->Inv X pins σ H' s'->mX X pins H' B->s'.heap.Ns B m->RR (.ref acc) B (.ok .next) s') :
 wpAny (model X.prog X.w) X.A (newList []) (fun acc s₃=>wpAny (model X.prog X.w) X.A (newFunctionEnv scope X.env.globals (iF X.env.cells scope.names []) [] X.env.qual none .none (some X.env)) (fun cenv s₄ =>
  codeAny (model X.prog X.w) X.A (.compStart (.ListComp elt [⟨tg,iter,ifs,0⟩] scope pos) 0 (.ref it) acc { cenv with scope:=relabel scope X.env }) (RR acc cenv.locals) s₄) E s₃) E s:=by
 have hfr:H s.heap.objs.size=none:=I.fresh;refine wpAny_newObj_type ?_
 have I1:Inv X pins σ (upd H s.heap.objs.size (.lst [])) { s with heap:=s.heap.push { cls:=.type "list",data:=.seq ([]:List Value).toArray } }:=I.lnew (t':=s.toks) (its:=[]) .nil (Cc _)
 obtain⟨W,⟨m0,w0⟩,turn⟩:=h _ hfr;generalize hacc:s.heap.objs.size=acc at *
 generalize hs1:({ s with heap:=s.heap.push { cls:=.type "list",data:=.seq ([]:List Value).toArray } }:Shared)=s1 at *
 have keep1:∀ b o,s.heap.get? b=some o->s1.heap.get? b=some o:=fun b o e=>by rw[←hs1];exact Ag _ e
 have fpl:∀ b∈fp,b<s.heap.objs.size:=fun b hb=>let ⟨o,e,_⟩:=T.obj _ _ t0 b hb;Ap e
 have sz1:s1.heap.objs.size=acc+1:=by rw[←hs1,←hacc];exact Cd ..
 have f1:∀ b∈fp,mX X pins (upd H acc (.lst [])) b:=fun b hb=>⟨by rw[aH (Bq (by rw[←hacc];exact fpl b hb))];exact(f0 b hb).1,(f0 b hb).2⟩
 have ho1:∀ b∈fp,b<s1.heap.objs.size:=fun b hb=>by rw[sz1,←hacc];exact Nat.lt_succ_of_lt (fpl b hb)
 have t1:tn 0 s1.heap:=T.keep _ _ _ t0 fun b _ o e=>keep1 b o e;refine zI ?_
 have I2:=aG8 (fp:=fp) C I1 f1 ho1;have keep2:∀ b o,s1.heap.get? b=some o->(pushCells (s1.heap.push { cls:=.type "dict",data:=.dict #[] }) scope.names).get? b=some o:=fun b o e=>pushCells_keeps _ _ b o (Ag _ e);generalize hs2:({ s1 with heap:=pushCells (s1.heap.push { cls:=.type "dict",data:=.dict #[] }) scope.names }:Shared)=s2 at *
 have t2:tn 0 s2.heap:=T.keep _ _ _ t1 fun b _ o e=>by rw[←hs2];exact keep2 b o e
 have stat:∀ {H':Hp},(∀ b∈fp,H' b=none)->∀ b∈fp,mX (cF X scope N fp s1 (upd H acc (.lst []))) [] H' b:=fun {H'} hn b hb =>
  ⟨hn b hb,((I2.ok.exf b hb)).1,I2.ok.exfs b hb,.inl hb,(I2.ok.exf b hb).2,(fun p hp=>by simp[cF]at hp)⟩
 have aMy:∀ {σ':St} {H':Hp} {s':Shared},Inv (cF X scope N fp s1 (upd H acc (.lst []))) [] σ' H' s'->Inv X pins σ H' s'/\mX X pins H' s1.heap.objs.size/\∃ m,s'.heap.Ns s1.heap.objs.size m:=fun {σ' H' s'} J=>by
  refine⟨I1.call' (ch:=fp) J.os J.base J.hok J.bare fun b hb=>⟨(f1 b hb).2.2.2.1,(f1 b hb).2.1,(f1 b hb).2.2.2.2.1,(f1 b hb).2.2.2.2.2⟩,I1.fpOk (Am _) J.free,?_⟩
  obtain⟨m,hn,_⟩:=J.loc;exact⟨m,hn⟩
 have loop:codeAny (model X.prog X.w) X.A (.compLoop (.ListComp elt [⟨tg,iter,ifs,0⟩] scope pos) 0 (.ref it) (.ref acc) (zQ scope s1.heap.objs.size X.env)) (RR (.ref acc) s1.heap.objs.size) s2:=by
  refine xC (fun n s'=>∃ i σ' H' ys,Inv (cF X scope N fp s1 (upd H acc (.lst []))) [] σ' H' s'/\tn i s'.heap/\(∀ b∈fp,H' b=none)/\W i n ys H'/\σ'.length=(eQ k fs σ).length/\∀ j,k<=j->σ'[j]?=(eQ k fs σ)[j]?) ?_ m0
   ⟨0,_,_,[],I2,t2,fun b hb=>(f1 b hb).1,w0,rfl,fun _ _=>rfl⟩
  rintro n s3 ⟨i,σ3,H3,ys,I3,st3,fr3,w3,len3,ag3⟩
  have I3':=I3.weak (σ':=eQ k fs σ) len3.symm fun j v e=>by
   obtain⟨j',i',rfl,_,_⟩:=sT e;rw[ag3 _ (Ci _ _)];exact e
  obtain⟨ha,hcase⟩:=turn i n ys H3 w3;rcases hcase with ⟨stop,q⟩ | ⟨go,hlt,step⟩
  · refine thn (T.done (cF X scope N fp s1 (upd H acc (.lst []))) rfl rfl rfl hc i [] s3 _ H3 _ I3' (stat fr3) st3 stop) fun r s4 ⟨hr,I4⟩=>?_
    subst hr;obtain⟨b1,b2,m,b3⟩:=aMy I4;exact hRR acc _ H3 s4 m q b1 b2 b3
  · refine thn (T.item (cF X scope N fp s1 (upd H acc (.lst []))) rfl rfl rfl hc i [] s3 _ H3 _ I3' (stat fr3) st3 go) fun r s4 ⟨u,hr,h4⟩=>?_
    subst hr;refine thn h4 fun _ s5 ⟨x,H5,I5,r5,y5,st5,fr5⟩=>?_
    have I5':=I5.pinned (stat fr5) (T.obj _ _ st5);refine thn (hg _ _ _ _ s5 _ H5 x u _ I5' r5 (gl _ _ _ _ (step x H5 y5))) fun _ s6 ⟨σ6,H6,I6,q6,len6,ag6⟩=>?_
    refine thn (hb _ _ _ _ s6 σ6 H6 _ I6 q6) fun ok s7 q7=>?_
    have again:∀ {H8:Hp} {s8:Shared} {ys':List V} {m':Nat},Inv (cF X scope N fp s1 (upd H acc (.lst []))) ([]++sI fp s5.heap) σ6 H8 s8->m'<n->W (i+1) m' ys' H8 ->
     ∃ m,m<n/\∃ i σ' H' ys,Inv (cF X scope N fp s1 (upd H acc (.lst []))) [] σ' H' s8/\tn i s8.heap/\(∀ b∈fp,H' b=none)/\W i m ys H'/\σ'.length=(eQ k fs σ).length/\∀ j,k<=j->σ'[j]?=(eQ k fs σ)[j]?:=fun {H8 s8 ys' m'} I8 hm w8=>by
     refine⟨m',hm,i+1,σ6,H8,ys',I8.unpinned,T.keep _ _ _ st5 fun b hb o e=>(I8.pin (b,o) (Az _ (Az _ (gP hb e)))).1,fun b hb=>?_,w8,len6,ag6⟩
     obtain⟨o,e,d⟩:=T.obj _ _ st5 b hb;exact(I8.pin (b,o) (Az _ (Az _ (gP hb e)))).2.1
    cases ok with
    | false =>
     rw[if_neg Db]at q7 ⊢;obtain⟨H8,I8,m',hm,w8⟩:=q7;exact again I8 hm w8
    | true =>
     rw[if_pos rfl]at q7 ⊢;refine thn q7 fun u8 s8 ⟨v,H8,I8,r8,ha8,m',hm,w8⟩=>?_
     refine thn (vO _ s8 σ6 H8 (.ref acc) [v] (.ref acc) [u8] (fun _ H'=>H'=upd H8 acc (.lst (ys++[v]))) I8 rfl (.cons r8 .nil) ⟨acc,ys,v,rfl,rfl,ha8,hlt,rfl⟩) fun _ s9 ⟨_,H9,I9,_,e9⟩=>?_
     subst e9;exact again I9 hm w8
 exact codeAny_compStart_list loop (T.self _ 0 _ _ _ t2 loop)
def aO0 (wi:TI)(k:Nat)(fs:List Nat)(g:TG)(tb:St->Hp->(Option V->Hp->Prop)->Prop):TE:=fun σ H Q=>wi σ H fun J H1=>∀ acc,H1 acc=none->tG J k fs g tb σ acc (fun H2=>Q (.ref acc) H2) H1
theorem aEi {wi:TI}(hc:X.calm=true)(C:CompOk X scope N k fs)(hi:PI X tg iter wi)(hg:∀ fp s H,PG (cF X scope N fp s H) tg g)(gl:uX k g)(hb:∀ fp s H,PB (cF X scope N fp s H) ifs elt tb)
 (hs:∀ x,foldedSetIterable iter X.env x=pure x:=by intro _;rfl):PE X (.ListComp elt [⟨tg,iter,ifs,0⟩] scope pos) (aO0 wi k fs g tb):=by
 intro pins s σ H Q I h;rw[eval_ListComp];refine wpAny_comprehension_free (use:=none) rfl hs C.clos C.kind C.names (thn (hi pins s σ H _ I h) fun v s1 h1=>thn h1 fun itv s2 h2=>?_)
 obtain⟨it,fp,tn,J,H2,e,I2,T,st2,f2,q2⟩:=h2;subst e;refine tU (RR:=fun acc B=>compPost (model X.prog X.w) X.A X.xe none (EP X pins σ Q) acc B) hc C I2 T st2 f2 hg gl hb q2 ?_
 intro acc B H' s' m q I' F n;exact⟨m,n,fun h' sb=>⟨.ref acc,H',I'.turned (t':=s'.toks) (fun b o hb e=>sb.extBut b o hb e) F.1 F.2.1 F.2.2.2.1 F.2.2.2.2.1 F.2.2.2.2.2,rfl,q⟩⟩
def aQ7 (i:Nat)(wi:TI)(k:Nat)(fs:List Nat)(g:TG)(tb:St->Hp->(Option V->Hp->Prop)->Prop):TS:=fun D σ H=>wi σ H fun J H1=>∀ acc,H1 acc=none->tG J k fs g tb σ acc (fun H2=>D.nx (σ.set i (some (.ref acc))) H2) H1
theorem aNo {wi:TI}{i:Nat}{y:Str}{py spos:Pos}(hc:X.calm=true)(hN:X.N.Nodup)(hi':X.N[i]?=some y)(hy:X.env.scope.names.lookup y=some .local)(C:CompOk X scope N k fs)(hi:PI X tg iter wi)(hg:∀ fp s H,PG (cF X scope N fp s H) tg g)(gl:uX k g)
 (hb:∀ fp s H,PB (cF X scope N fp s H) ifs elt tb) (hsw:swapsWith (.ListComp elt [⟨tg,iter,ifs,0⟩] scope pos) (some (.Name y py)) spos.line X.env=pure true)
 (hs:∀ x,foldedSetIterable iter X.env x=pure x:=by intro _;rfl):PS X (.Assign [.Name y py] (.ListComp elt [⟨tg,iter,ifs,0⟩] scope pos) spos) (aQ7 i wi k fs g tb):=by
 intro pins s σ H D I h;refine(exec_Assign_Name_used _ _ _ _ hsw).symm▸wpAny_bind (wpAny_standAt (wpAny_bind ?_))
 show wpAny _ X.A (do let _ ← comprehension (.ListComp elt [⟨tg,iter,ifs,0⟩] scope pos) scope X.env _ (newList []) false (eval iter X.env) (some (assign (.Name y py) X.env))) _ _ s
 refine wpAny_bind (wpAny_mono (wpAny_comprehension_free (use:=some (assign (.Name y py) X.env)) (Q:=fun _ s'=>SP X pins D .next s') rfl hs C.clos C.kind C.names
  (thn (hi pins s σ H _ I h) fun v s1 h1=>thn h1 fun itv s2 h2=>?_)) (fun _ s' hq=>wpAny_pure (wpAny_pure hq)) fun _ _ e=>e)
 obtain⟨it,fp,tn,J,H2,e,I2,T,st2,f2,q2⟩:=h2;subst e;refine tU (RR:=fun acc B=>compPost (model X.prog X.w) X.A X.xe (some (assign (.Name y py) X.env)) (fun _ s'=>SP X pins D .next s') acc B) hc C I2 T st2 f2 hg gl hb q2 ?_
 intro acc B H' s' m q I' F n
 have hoB:∃ o,s'.heap.get? B=some o/\∀ v,o.data≠.cell v:=by
  obtain⟨o,es,ep,ho,hd,_⟩:=n;exact⟨o,ho,fun v z=>by rw[hd]at z;cases z⟩
 have I'':=I'.pinned (fp:=[B]) (fun b hb=>by rw[As.mp hb];exact F) (fun b hb=>by rw[As.mp hb];exact hoB)
 show wpAny _ X.A (assign (.Name y py) X.env (.ref acc)) _ _ _
 refine wpAny_assign_Name (lI (v:=.ref acc) I'' hN hi' (.inl hy) rfl (fun s3 I3=>?_) (.inr hy))
 obtain⟨o,ho,_⟩:=hoB;have pin:=(I3.pin (B,o) (Az _ (Az _ (gP (As.mpr rfl) ho)))).1;refine⟨m,n.at' fun o' e'=>?_,fun h' sb=>?_⟩
 · rw[ho]at e'
   cases e';exact pin
 · exact⟨_,H',(I3.unpinned).turned (t':=s3.toks) (fun b o hb e=>sb.extBut b o hb e) F.1 F.2.1 F.2.2.2.1 F.2.2.2.2.1 F.2.2.2.2.2,q⟩
end
end L2
namespace Zp
open PySem
section
variable {prog:Program}{w:World}{A:Around}{E:Value->Shared->Prop}{s:Shared}
def Out (N:List Addr)(h h':Heap):Prop:=∀ c o,c∉N->h.get? c=some o->h'.get? c=some o
theorem Out.of {a:Addr}{N:List Addr}{h h':Heap}(e:Heap.ExtBut a h h')(m:a∈N):Out N h h':=fun c o n q=>e c o (fun x=>n (x▸m)) q
theorem Out.then {N:List Addr}{h h1 h2:Heap}(a:Out N h h1)(b:Out N h1 h2):Out N h h2:=fun c o n q=>b c o n (a c o n q)
theorem Out.up {N:List Addr}{h h1:Heap}{o:Obj}(a:Out N h h1):Out N h (h1.push o):=fun c u n q=>Ag o (a c u n q)
variable {z TI TO T i1 i2 l1 l2:Addr}{f:Bool}{oT:Obj}{k:Nat}{xs ys:Array Value}
theorem nxt {o:Obj}{Q:Option Value->Shared->Prop}(ho:s.heap.get? z=some o)(hc:o.cls=.type "zip")
 (h:wpAny (model prog w) A.in1 (Builtin.«zip.__next__» ⟨[.ref z],[]⟩) (fun r s'=>∃ v,r=.done (.ret v)/\Q (some v) s') (fun e s'=>∃ a u,e=.ref a/\s'.heap.get? a=some u/\u.cls=.type "StopIteration"/\Q none s') s):wpAny (model prog w) A (pyNext (.ref z)) Q E s:=by
 have ty:s.TypeIs (.ref z) "zip":=⟨o,ho,hc⟩;refine wpAny_bind (wpAny_attempt (wpAny_mono (Q:=fun r s'=>∃ v,r=some v/\Q (some v) s') (wpAny_callSpecial?_slot ty F.slot_zip_next (wpAny_call_entry F.slot_zip_next ty F.entry_zip_next (wpAny_mono h ?_ fun _ _ e=>e) (F.args_zip_next_1 _))) ?_ ?_))
 · rintro _ s' ⟨v,rfl,q⟩
   exact⟨v,rfl,v,rfl,q⟩
 · rintro _ s' ⟨v,rfl,q⟩
   exact wpAny_pure q
 · rintro _ s' ⟨a,u,rfl,e1,e2,q⟩
   exact wpAny_bind (wpAny_isInstance (T:="StopIteration") (b:=true) ⟨u,e1,e2⟩ isSubtype_stop (wpAny_pure q))
end
end Zp
namespace Zp
open PySem
def mk (vs:List Value)(c:Nat):Obj:={ cls:=.type "list",data:=.seq vs.toArray c }
section
variable {prog:Program}{w:World}{A:Around}{z S:Addr}{P:Nat->List Value->Heap->Prop}{L:List Value->Heap->Prop}{R:Result->Shared->Prop}
theorem upd {E:Value->Shared->Prop}{s:Shared}{vs:List Value}{c:Nat}{f:Array Value->Array Value}{Q:Unit->Shared->Prop}(e:s.heap.get? S=some (mk vs c))(l:vs.length<=1)(m:(f vs.toArray).size<=1)
 (q:∀ h' c',h'.get? S=some (mk (f vs.toArray).toList c')->Heap.SameBut S s.heap h'->Q () { s with heap:=h' }):wpAny (model prog w) A (updateSeq S f) Q E s :=
 have one:1<=sizeLine:=by decide
 wpAny_updateSeq e rfl (q _ _ (Fd _ e rfl) (Heap.SameBut.update ..)) (by simp;omega) (by omega)
end
end Zp
namespace Zp
open PySem
structure Pl (old z TI TO i1 i2 l1 l2 S:Addr):Prop where
 ap:ZipApart z TI TO i1 i2 l1 l2
 new:∀ a∈[z,TO,i1,i2],old<=a
 low:∀ a∈[z,TO,i1,i2],a<S
 lo2:∀ a∈[TI,l1,l2],a<S
section
variable {h0 h h':Heap}{old z TI TO i1 i2 l1 l2 S:Addr}{xs ys:Array Value}{n:Nat}{vs:List Value}
theorem Pl.ns (P:Pl old z TI TO i1 i2 l1 l2 S):S∉[z,TO,i1,i2]:=fun m=>Ef _ (P.low _ m)
theorem Pl.lt (P:Pl old z TI TO i1 i2 l1 l2 S){b:Addr}(m:b<old):b∉[z,TO,i1,i2]:=fun k=>Nat.not_le.mpr m (P.new _ k)
end
end Zp
namespace L2
open PySem PySem.Spec PyProof.Rows
mutual
inductive Has (K:PySem.W.Frag) (H:Hp):V->PyData->Prop
 | non:Has K H .non .none
 | bl (b:Bool):Has K H (.bl b) (.bool b)
 | int (i:Int):Has K H (.int i) (.int i)
 | str (x:Str):Has K H (.str x) (.str x)
 | lst {a:Addr} {xs:List V} {ds:List PyData}:SqL K H a xs->HasAll K H xs ds->Has K H (.ref a) (.list ds)
 | tup {a:Addr} {xs:List V} {ds:List PyData}:SqT K H a xs->HasAll K H xs ds->Has K H (.ref a) (.tuple ds)
inductive HasAll (K:PySem.W.Frag) (H:Hp):List V->List PyData->Prop
 | nil:HasAll K H [] []
 | cons {v:V} {d:PyData} {vs:List V} {ds:List PyData}:Has K H v d->HasAll K H vs ds->HasAll K H (v :: vs) (d :: ds)
end
theorem aD.seqT {K:PySem.W.Frag}{H H':Hp}{a:Addr}{xs:List V}(e:aD H H')(h:SqT K H a xs):SqT K H' a xs:=by
 rcases h with (h | ⟨o,h⟩) | h
 · exact .inl (.inl (e _ _ h))
 · exact .inl (.inr ⟨o,e _ _ h⟩)
 · exact .inr h
mutual
theorem Has.same {K:PySem.W.Frag}{H H':Hp}(e:aD H H'):∀ {v:V} {d:PyData},Has K H v d->Has K H' v d
 | _,_,.non=>.non
 | _,_,.bl b=>.bl b
 | _,_,.int i=>.int i
 | _,_,.str x=>.str x
 | _,_,.lst h r=>.lst (e.seq h) (HasAll.same e r)
 | _,_,.tup h r=>.tup (e.seqT h) (HasAll.same e r)
theorem HasAll.same {K:PySem.W.Frag}{H H':Hp}(e:aD H H'):∀ {v:List V} {d:List PyData},HasAll K H v d->HasAll K H' v d
 | _,_,.nil=>.nil
 | _,_,.cons h r=>.cons (Has.same e h) (HasAll.same e r)
end
mutual
theorem Has.reads {X:Cx}{pins:List (Addr×Obj)}{σ:St}{H:Hp}{s:Shared}(I:Inv X pins σ H s):∀ {v:V} {d:PyData},Has X.K H v d->∀ {u:Value},bF v u->∃ as,Reads s.heap u d as
 | _,_,.non,u,r=>by cases (show u=Value.none from r);exact⟨_,.none⟩
 | _,_,.bl b,u,r=>by cases (show u=Value.bool b from r);exact⟨_,.bool b⟩
 | _,_,.int i,u,r=>by obtain⟨t,rfl⟩:=(show ∃ t,u=Value.int i t from r);exact⟨_,.int i t⟩
 | _,_,.str x,u,r=>by obtain⟨t,rfl⟩:=(show ∃ t,u=Value.str x t from r);exact⟨_,.str x t⟩
 | _,_,.lst (a:=a) h r,u,q=>by
  cases (show u=Value.ref a from q)
  obtain⟨its,rv,p,_⟩:=I.list h;obtain⟨as,ra⟩:=HasAll.reads I r rv;obtain⟨o,ho,hc,n,hd⟩:=p.isList;exact⟨_,.list ho hc hd (by rw[List.toList_toArray];exact ra)⟩
 | _,_,.tup (a:=a) h r,u,q=>by
  cases (show u=Value.ref a from q)
  obtain⟨its,rv,p,_⟩:=I.tuple h;obtain⟨as,ra⟩:=HasAll.reads I r rv;obtain⟨o,ho,hc,n,hd⟩:=p;exact⟨_,.tuple ho hc hd (by rw[List.toList_toArray];exact ra)⟩
theorem HasAll.reads {X:Cx}{pins:List (Addr×Obj)}{σ:St}{H:Hp}{s:Shared}(I:Inv X pins σ H s):∀ {vs:List V} {ds:List PyData},HasAll X.K H vs ds->∀ {us:List Value},bA vs us->∃ as,ReadsAll s.heap us ds as
 | _,_,.nil,us,r=>by cases r;exact⟨_,.nil⟩
 | _,_,.cons h t,us,r=>by
  cases r with
  | cons r1 r2 =>
   obtain⟨a1,h1⟩:=Has.reads I h r1;obtain⟨a2,h2⟩:=HasAll.reads I t r2;exact⟨_,.cons h1 h2⟩
end
section
variable {X:Cx}
def aVv (K:PySem.W.Frag):R2:=fun x y H Q=>∃ d e,Has K H x d/\Has K H y e/\SeqAt.shaped d=true/\SeqAt.shaped e=true/\Q (.bl (PyData.eqv d e)) H
def aWb (K:PySem.W.Frag):R2:=fun x y H Q=>∃ d e,Has K H x d/\Has K H y e/\SeqAt.shaped d=true/\SeqAt.shaped e=true/\Q (.bl (!PyData.eqv d e)) H
theorem aIa (hu:X.A.units+64<cLine):OpR X (compareOp .Eq) (aVv X.K):=by
 intro pins s σ H x y v u Q I rx ry h;obtain⟨d,e,hd,he,sd,se,q⟩:=h;obtain⟨as,ra⟩:=hd.reads I rx;obtain⟨bs,rb⟩:=he.reads I ry;exact SeqAt.compareEq_shaped ra rb sd se hu ⟨.bl _,H,I,rfl,q⟩
theorem aRp (hu:X.A.units+64<cLine):OpR X (compareOp .NotEq) (aWb X.K):=by
 intro pins s σ H x y v u Q I rx ry h;obtain⟨d,e,hd,he,sd,se,q⟩:=h;obtain⟨as,ra⟩:=hd.reads I rx;obtain⟨bs,rb⟩:=he.reads I ry;exact SeqAt.compareNe_shaped ra rb sd se hu ⟨.bl _,H,I,rfl,q⟩
theorem pR:∀ {ns:List Int} {us:List Value},bA (ns.map V.int) us->IntsAre us ns:=fun r=>aC2 r
theorem aJo:kS X (.builtin "isinstance") (fun xs H Q=>∃ x t n b,xs=[x,.ty n]/\TyOf X.K H x t/\Gz X.K t (.type n)=some b/\Q (.bl b) H):=by
 intro pins s σ H xs us Q I r h;obtain⟨x,t,n,b,rfl,ty,e,q⟩:=h;obtain⟨u,v,rfl,r1,r2⟩:=aJp r;cases (show v=Value.type n from r2)
 exact aF2 I r1 ty e fun tk=>⟨.bl b,H,I.tok tk,rfl,q⟩
end
end L2
namespace L2
open PySem PySem.Spec PyProof.Rows
theorem Inv.turnedNew {X:Cx}{pins:List (Addr×Obj)}{σ:St}{H:Hp}{s:Shared}{h':Heap}{t':Nat}{fp:List Addr}{a:Addr}{o:HO}(I:Inv X pins σ H s)
 (k:∀ b u,b∉fp->s.heap.get? b=some u->h'.get? b=some u) (hf:∀ b∈fp,mX X pins H b) (ho:∀ b∈fp,∃ u,h'.get? b=some u) (hp:s.heap.objs.size<=a) (new:bP X.prog X.w (upd H a o) h' a o) :
 Inv X pins σ (upd H a o) { s with heap:=h',toks:=t' }:=by
 have fr:H a=none:=I.hok.fresh hp
 have nfp:∀ b u,H b=some u->b∉fp:=fun b u e z=>by
  have:=(hf b z).1
  rw[e]at this;cases this
 refine I.step (g':=s.gens) (d':=s.drawn) (ch:=fp) (fun b hb=>⟨(hf b hb).2.2.2.1,(hf b hb).2.1,(hf b hb).2.2.2.2.1,(hf b hb).2.2.2.2.2⟩) (fun b u _ _ hc e _=>k b u hc e) (fun b u _ _ hc e _=>⟨u.slots,k b u hc e⟩)
  (fun b u _ e n=>?_) (fun b u hc e=>⟨u,k b u hc e⟩) (fun b xs e=>?_) (fun b u v e=>?_) (fun b ps e=>⟨#[],?_⟩) (fun m hm=>?_) (fun b u e=>?_) I.bare
 · rw[aH (Bq (An (Ap e) hp))];exact n
 · rw[aH (aZ e fr)];exact e
 · rw[aH (aZ e fr)];exact e
 · rw[aH (aZ e fr),e];simp
 · obtain⟨ob,es,ep,hob,r⟩:=hm
   exact⟨ob,es,ep,k _ ob (fun z=>(hf _ z).2.1 rfl) hob,r⟩
 · by_cases hb:b=a
   · subst hb
     rw[aX]at e;cases e;exact new
   · rw[aH hb]at e
     refine(I.hok b u e).stay (fun c v hc q=>k c v ?_ q) (fun c q=>by rw[aH (aZ q fr)];exact q) fun c xs q=>by rw[aH (aZ q fr)];exact q
     rcases hc with z | z
     · rw[z];exact nfp b u e
     · exact nfp c _ z
theorem Inv.turnedL {X:Cx}{pins:List (Addr×Obj)}{σ:St}{H:Hp}{s:Shared}{h':Heap}{t':Nat}{fp:List Addr}(I:Inv X pins σ H s)
 (k:∀ b u,b∉fp->s.heap.get? b=some u->h'.get? b=some u) (hf:∀ b∈fp,mX X pins H b):Inv X pins σ H { s with heap:=h',toks:=t' }:=by
 have nfp:∀ b u,H b=some u->b∉fp:=fun b u e z=>by
  have:=(hf b z).1
  rw[e]at this;cases this
 refine I.step (g':=s.gens) (d':=s.drawn) (ch:=fp) (fun b hb=>⟨(hf b hb).2.2.2.1,(hf b hb).2.1,(hf b hb).2.2.2.2.1,(hf b hb).2.2.2.2.2⟩) (fun b u _ _ hc e _=>k b u hc e) (fun b u _ _ hc e _=>⟨u.slots,k b u hc e⟩)
  (fun b u _ _ n=>n) (fun b u hc e=>⟨u,k b u hc e⟩) (fun b xs e=>e) (fun b u v e=>e) (fun b ps e=>⟨#[],by rw[e];simp⟩) (fun m hm=>?_) (fun b u e=>?_) I.bare
 · obtain⟨ob,es,ep,hob,r⟩:=hm
   exact⟨ob,es,ep,k _ ob (fun z=>(hf _ z).2.1 rfl) hob,r⟩
 · refine(I.hok b u e).stay (fun c v hc q=>k c v ?_ q) (fun c q=>q) fun c xs q=>q
   rcases hc with z | z
   · rw[z];exact nfp b u e
   · exact nfp c _ z
def Itz (K:PySem.W.Frag)(a b:Addr):It :=
  ⟨fun i H=>∃ xs ys x y,SqL K H a xs/\SqL K H b ys/\xs[i]?=some x/\ys[i]?=some y,
   fun i H v H'=>∃ t x y,v=.ref t/\H t=none/\H'=upd H t (.tup [x,y])/\(∀ xs,SqL K H a xs->xs[i]?=some x)/\∀ ys,SqL K H b ys->ys[i]?=some y,
   fun i H=>∃ xs ys,SqL K H a xs/\SqL K H b ys/\(xs.length<=i\/ys.length<=i)⟩
def ZTn (z TI TO i1 i2 a b:Addr)(i:Nat)(h:Heap):Prop:=IsZip h z TI TO .none/\IsPair h TI (.ref i1) (.ref i2)/\(∃ u v,IsPair h TO u v)/\h.IsListIter i1 a i/\h.IsListIter i2 b i
theorem aIo {P:Program}{w:World}{K:PySem.W.Frag}{es:List Expr}{k:Nat}{pos:Pos}{z TI TO i1 i2 a b:Addr}(D:ZipApart z TI TO i1 i2 a b) :
 Turn P w K (.Tuple es k pos) (Itz K a b) [z,TI,TO,i1,i2] z (ZTn z TI TO i1 i2 a b) where
 mem:=by simp
 obj:=fun i h st c hc=>by
  obtain⟨hz,hTI,⟨u,v,hTO⟩,⟨o1,e1,c1,d1⟩,⟨o2,e2,c2,d2⟩⟩:=st;simp only[Aj,Bc,or_false]at hc;rcases hc with rfl | rfl | rfl | rfl | rfl
  · exact⟨_,hz,fun v z=>nomatch z⟩
  · exact⟨_,hTI,fun v z=>nomatch z⟩
  · exact⟨_,hTO,fun v z=>nomatch z⟩
  · exact⟨o1,e1,fun v z=>by rw[d1]at z;cases z⟩
  · exact⟨o2,e2,fun v z=>by rw[d2]at z;cases z⟩
 keep:=fun i h h' st kp=>by
  obtain⟨hz,hTI,⟨u,v,hTO⟩,h1,h2⟩:=st;exact⟨kp _ (by simp) _ hz,kp _ (by simp) _ hTI,⟨u,v,kp _ (by simp) _ hTO⟩,h1.at fun o e=>kp _ (by simp) o e,h2.at fun o e=>kp _ (by simp) o e⟩
 item:=by
  intro X hP hw hK hc i pins s σ H E I hf st hg;subst hP hw hK;obtain⟨xs,ys,x,y,ha,hb,hx,hy⟩:=hg;obtain⟨us,ru,pu,_⟩:=I.list ha;obtain⟨vs,rv,pv,_⟩:=I.list hb;obtain⟨u,eu,rxu⟩:=ru.get hx;obtain⟨v,ev,ryv⟩:=rv.get hy;obtain⟨hz,hTI,⟨u0,v0,hTO⟩,h1,h2⟩:=st;refine wpAny_pyNext_zip_item D hz hTI hTO h1 h2 pu.isList pv.isList (x:=u) (y:=v) (by simpa using eu) (by simpa using ev) fun h' b1 b2 b3 b4 b5 b6 b7=>⟨_,rfl,?_⟩
  refine wpAny_letOwnedTupleGo_zip b1 fun hp2 c1 cs=>?_
  have nz:s.heap.objs.size≠z:=Gx (Ap hz)
  have kp:∀ c o,c∉[z,TI,TO,i1,i2]->s.heap.get? c=some o->hp2.get? c=some o:=fun c o hc' e=>by
   simp only[Aj,Bc,or_false,not_or]at hc';exact cs.extBut c o hc'.1 (b7 c o hc'.1 hc'.2.2.1 hc'.2.2.2.1 hc'.2.2.2.2 e)
  have st':ZTn z TI TO i1 i2 a b (i+1) hp2:=⟨c1,cs.extBut _ _ D.TIz (b7 _ _ D.TIz D.TITO D.TIi1 D.TIi2 hTI),⟨_,_,cs.extBut _ _ D.TOz b2⟩,b3.extBut cs.extBut D.i1z,b4.extBut cs.extBut D.i2z⟩;have pr:IsPair hp2 s.heap.objs.size u v:=cs.extBut _ _ nz b5;have fr:H s.heap.objs.size=none:=I.fresh
  refine⟨.ref s.heap.objs.size,upd H s.heap.objs.size (.tup [x,y]),I.turnedNew (t':=s.toks) kp hf (fun c hc'=>?_) (Am _) ⟨by show 2<=sizeLine;decide,[u,v],.cons rxu (.cons ryv .nil),⟨_,pr,rfl,_,rfl⟩⟩,rfl,
   ⟨_,x,y,rfl,fr,rfl,fun zs hq=>by rw[I.list_inj hq ha];exact hx,fun zs hq=>by rw[I.list_inj hq hb];exact hy⟩,st',fun c hc'=>?_⟩
  · obtain⟨d1,d2,⟨p,q,d3⟩,⟨p1,d4,_⟩,⟨p2,d5,_⟩⟩:=st'
    simp only[Aj,Bc,or_false]at hc';rcases hc' with rfl | rfl | rfl | rfl | rfl
    · exact⟨_,d1⟩
    · exact⟨_,d2⟩
    · exact⟨_,d3⟩
    · exact⟨_,d4⟩
    · exact⟨_,d5⟩
  · have:c<s.heap.objs.size:=by
     obtain⟨p1,d4,_⟩:=h1;obtain⟨p2,d5,_⟩:=h2;simp only[Aj,Bc,or_false]at hc';rcases hc' with rfl | rfl | rfl | rfl | rfl
     · exact Ap hz
     · exact Ap hTI
     · exact Ap hTO
     · exact Ap d4
     · exact Ap d5
    rw[aH (Bq this)];exact(hf c hc').1
 done:=by
  intro X hP hw hK hc i pins s σ H E I hf st hg;subst hP hw hK;obtain⟨xs,ys,ha,hb,hend⟩:=hg;obtain⟨us,ru,pu,_⟩:=I.list ha;obtain⟨vs,rv,pv,_⟩:=I.list hb;have lu:=ru.length;have lv:=rv.length;obtain⟨hz,hTI,⟨u0,v0,hTO⟩,h1,h2⟩:=st;refine wpAny_pyNext_zip_end (I.ok.hd hc) D hz hTI hTO h1 h2 pu.isList pv.isList ?_ fun h' kp=>⟨rfl,I.turnedL (t':=s.toks) (fun c o hc' e=>?_) hf⟩
  · rcases hend with q | q
    · exact .inl (Array.getElem?_eq_none (by rw[Aq];omega))
    · exact .inr (Array.getElem?_eq_none (by rw[Aq];omega))
  · simp only[Aj,Bc,or_false,not_or]at hc'
    exact kp c o hc'.1 hc'.2.2.1 hc'.2.2.2.1 hc'.2.2.2.2 e
 self:=fun _ _ _ _ _ st h=>wpAny_pyIter_zip st.1 h
def aVz (K:PySem.W.Frag)(ta:TA):TI:=fun σ H R=>ta σ H fun vs H1=>∃ a b,vs=[.ref a,.ref b]/\(∃ xs,SqL K H1 a xs)/\(∃ ys,SqL K H1 b ys)/\R (Itz K a b) H1
theorem aSh {X:Cx}{es:List Expr}{k:Nat}{tp:Pos}{a b:Expr}{t:TA}{p pos:Pos}(hc:X.calm=true)(hg:Gl X "zip")(hm:X.mg "zip" = none)(ha:PA X [a,b] t)
 (hs:starEach [a,b] X.env=[(false,eval a X.env),(false,eval b X.env)]:=by rfl) (hs2:starEach [b] X.env=[(false,eval b X.env)]:=by rfl) :
 PI X (.Tuple es k tp) (.Call (.Name "zip" p) [a,b] [] pos) (aVz X.K t):=by
 intro pins s σ H R I h;refine Call_ (kK I hg hm boot_zip (Cz (thn (ha pos pins s σ H _ I h) fun us s1 ⟨vs,H1,I1,r1,x,y,e,⟨xs,hx⟩,⟨ys,hy⟩,q⟩=>?_) (by rw[hs,hs2]) (by rw[hs2];rfl)))
 subst e;obtain⟨u,v,rfl,rx,ry⟩:=aJp r1;cases rx;cases ry;obtain⟨us',ru,pu,zu⟩:=I1.list hx;obtain⟨vs',rv,pv,zv⟩:=I1.list hy;have a1:x<s1.heap.objs.size:=by obtain⟨_,e,_⟩:=pu.isList;exact Ap e
 have a2:y<s1.heap.objs.size:=by obtain⟨_,e,_⟩:=pv.isList;exact Ap e
 refine call_zip_2 pu.isList pv.isList fun h1 hz hTI hTO hi1 hi2 hsz hk=>?_
 refine wpAny_pyIter_zip hz ?_
 have big:∀ c∈[s1.heap.objs.size+4,s1.heap.objs.size+2,s1.heap.objs.size+3,s1.heap.objs.size,s1.heap.objs.size+1],s1.heap.objs.size<=c:=fun c hc'=>by
  simp only[Aj,Bc,or_false]at hc';rcases hc' with rfl | rfl | rfl | rfl | rfl
  · exact Ci _ 4
  · exact Ci _ 2
  · exact Ci _ 3
  · exact Am _
  · exact Ci _ 1
 exact⟨_,[s1.heap.objs.size+4,s1.heap.objs.size+2,s1.heap.objs.size+3,s1.heap.objs.size,s1.heap.objs.size+1],_,_,H1,rfl,I1.kept (t':=s1.toks) hk,aIo (zipApart_new a1 a2),⟨hz,hTI,⟨_,_,hTO⟩,hi1,hi2⟩,
  fun c hc'=>I1.fpOk (big c hc') (I1.hok.fresh (big c hc')),q⟩
section
variable {X:Cx}
def aS5 (i j:Int):Prop:=i.natAbs.log2<1000000/\j.natAbs.log2<1000000
def aT1 (i j:Int):Prop:=0<j/\j.natAbs.log2<9000
theorem pC {i:Int}(h:i.natAbs.log2<1000000):Builtin.Int.intBits i<=2^20:=by
 have million:1000000<(2:Nat)^20:=by decide
 unfold Builtin.Int.intBits
 first
  | omega
  | (split<;>omega)
theorem aMp:OpR X (binaryOp .Mult) (rI aS5 fun i j=>.int (i*j)):=opI fun _ _ _ _ _ _ _ hc q=>mul_int q (.of_bits (pC hc.1) (pC hc.2))
theorem aIy:OpR X (binaryOp .FloorDiv) (rI aT1 fun i j=>.int (i/j)):=opI fun i j _ _ _ _ _ hc q=>by
 have h1:(0:Int)<j:=hc.1;exact floordiv_int (by omega) (by rw[Fm i (by omega)];exact q) (.inl (PyProof.noPylong_of_log2 hc.2))
end
end L2
namespace L2
open PySem PySem.Spec PyProof.Rows
def aK (P:Program)(w:World)(K:PySem.W.Frag)(mg:Str->Option Value)(base:Heap)(CX:CXT)(k:Nat)(x:Str)(ps:List Str)(sp:Sp):Prop :=
 ∃ (f:Addr) (fd:FuncData),FnOk P w K mg base CX k f fd ps sp/\mg x=some (.ref f)/\Ei K (.ref f)=true/\mG K fd ps []
def bU (K:PySem.W.Frag)(mg:Str->Option Value)(x:Str)(st:Stmt)(ps:List Str):Prop :=
 ∃ (f:Addr) (fd:FuncData),Fun K x x st f fd/\mg x=some (.ref f)/\mG K fd ps []
theorem aK.mono {P:Program}{w:World}{K:PySem.W.Frag}{mg:Str->Option Value}{base:Heap}{CX:CXT}{j k:Nat}{x:Str}{ps:List Str}{sp:Sp}(c:aK P w K mg base CX j x ps sp)(h:j<=k):aK P w K mg base CX k x ps sp :=
 let ⟨f,fd,F,m,kp,b⟩:=c
 ⟨f,fd,F.mono h,m,kp,b⟩
theorem bW {K:PySem.W.Frag}{mg:Str->Option Value}{h:Heap}{x:Str}{st:Stmt}{ps:List Str}{f:Addr}{oc:Value}{od an:Option Addr}{osl:Array (Option Value)}{kV doc pm cdv ct:Value}(X:K.In h)(G:h.Ns mainGlobals mg)
 (a:Ch K mainGlobals x=some (some (.ref f))) (l:K.lookup f=some ⟨oc,od,.func (Dv x x (gL st) (eO st) (aN st) .none kV doc pm an cdv ct),osl⟩)
 (c:Fh K cdv x=true) (kp:Ei K (.ref f)=true)
 (hb:∀ (kV doc pm:Value) (an:Option Addr) (cdv ct:Value) (us:List Value),us.length=ps.length->bindArgs (Dv x x (gL st) (eO st) (aN st) .none kV doc pm an cdv ct) ⟨us,[]⟩=pure (ps.zip us)):bU K mg x st ps:=by
 have F:=aC4 (st:=st) l c kp;exact⟨f,_,F,Hr X G a,F.binds hb⟩
def aEx (sc:Scope)(XN:List Str)(scope:Scope)(N:List Str)(k:Nat)(fs:List Nat):Bool :=
 scope.kind==.function&&decide (scope.names.map (·.1)).Nodup&&scope.names.all (fun y=>y.2 != .free||((sc.names.filter (·.2==.cell)).map (·.1)).contains y.1)&&N.length==k+fs.length &&
  fs.zipIdx.all fun p=>match N[k+p.2]?,XN[p.1]? with
   | some x,some y=>decide (x=y)&&scope.names.lookup x==some .free&&sc.names.lookup x==some .cell
   | _,_=>false
theorem iC:∀ (names:List (Str×NameKind)) (n:Nat),∀ x,x∈(names.filter (·.2==.cell)).map (·.1)->x∈(cellsFrom n names []).map (·.1)
 | [],_,x,h=>by simp at h
 | (y,k) :: r,n,x,h=>by
  unfold cellsFrom;by_cases hk:(k==NameKind.cell)=true
  · rw[if_pos hk,bY,Ca,Av]
    rw[Bv (by exact hk),Ai,Aj]at h
    rcases h with h | h
    · right;simp[h]
    · left;exact iC r (n+1) x h
  · rw[if_neg hk]
    rw[Bx (by exact hk)]at h
    exact iC r n x h
theorem bD {X:Cx}{sc scope:Scope}{n k:Nat}{N XN:List Str}{fs:List Nat}(hN:X.N=XN)(he:X.env.cells=cellsFrom n sc.names [])(hs:X.env.scope=sc)(h:aEx sc XN scope N k fs=true):CompOk X scope N k fs:=by
 unfold aEx at h;simp only[Ct]at h;obtain⟨⟨⟨⟨h1,h2⟩,h3⟩,h4⟩,h5⟩:=h;refine⟨by simpa using h1,of_decide_eq_true h2,fun y hy hf=>?_,by simpa using h4,fun j i e=>?_⟩
 · have:=Fn.mp h3 y hy
   rw[hf]at this;have c:((sc.names.filter (·.2==.cell)).map (·.1)).contains y.1=true:=by simpa using this
   rw[he];exact iC _ _ _ (by simpa using c)
 · have hm:(i,j)∈fs.zipIdx:=by
    rw[Gr];exact e
   have:=Fn.mp h5 (i,j) hm
   dsimp only at this
   cases e1:N[k+j]? with
   | none=>rw[e1]at this;cases this
   | some x =>
    cases e2:XN[i]? with
    | none=>rw[e1,e2]at this;cases this
    | some y =>
     rw[e1,e2]at this;simp only[Df]at this;obtain⟨⟨q1,q2⟩,q3⟩:=this;have q1':x=y:=of_decide_eq_true q1;subst q1';refine⟨x,rfl,by rw[hN];exact e2,by simpa using q2,.inl ?_⟩
     show X.env.scope.names.lookup x=some .cell
     rw[hs];simpa using q3
theorem aD.upd_new {H:Hp}{a:Addr}{o:HO}(h:H a=none):aD H (upd H a o):=fun b u e=>by rw[aH (aZ e h)];exact e
theorem aD.none {H H':Hp}(e:aD H H'){l:Addr}(h:H' l=Ij):H l=Ij:=e.free h
end L2
namespace Mir
open PySem
inductive XC where
 | NotAlike | BadCount | BadRows | BadRow | OtherSpace | BadSize | BadPlaces | ZeroSum | NoBox | BadTable | NoLine | BadName | NoRow | NoName
 deriving DecidableEq
def XC.nm:XC->Str
 | .NotAlike=>"NotAlike" | .BadCount=>"BadCount" | .BadRows=>"BadRows" | .BadRow=>"BadRow" | .OtherSpace=>"OtherSpace" | .BadSize=>"BadSize" | .BadPlaces=>"BadPlaces"
 | .ZeroSum=>"ZeroSum" | .NoBox=>"NoBox" | .BadTable=>"BadTable" | .NoLine=>"NoLine" | .BadName=>"BadName" | .NoRow=>"NoRow" | .NoName=>"NoName"
inductive D where
 | non | bl (b:Bool) | int (i:Int) | str (x:Str)
 | lst (ds:List D) | tup (ds:List D)
 | obj (c:Nat) (ds:List D)
 | dct (ks:List (List Int)) (ds:List D)
 | any
 | exc (c:XC) (ds:List D)
mutual
/-- no list within -/
def D.imm:D->Bool
 | .lst _=>false
 | .obj _ _=>false
 | .dct _ _=>false
 | .any=>false
 | .tup ds=>D.imms ds
 | .exc _ ds=>D.imms ds
 | _=>true
def D.imms:List D->Bool
 | []=>true
 | d :: r=>d.imm&&D.imms r
end
def D.con:D->Bool
 | .lst _=>true
 | .dct _ _=>true
 | _=>false
inductive Kd where
 | shr | own | tmp | old
 deriving DecidableEq
@[simp] def Kd.rd:Kd->Kd
 | .old=>.shr
 | k=>k
structure Res where
 k:Kd
 fr:Bool
 d:D
abbrev Env:=List (Option Res)
structure Xc where
 c:XC
 ds:List D
inductive R (α:Type) where
 | ok (a:α) | exc (x:Xc) | stk
@[simp] def R.bind {α β:Type}:R α->(α->R β)->R β
 | .ok a,f=>f a
 | .exc x,_=>.exc x
 | .stk,_=>.stk
instance:Monad R where
 pure:=.ok
 bind:=R.bind
@[simp] theorem R.ok_bind {α β:Type} (a:α) (f:α->R β):(R.ok a >>= f)=f a:=rfl
@[simp] theorem R.pure_bind' {α β:Type} (a:α) (f:α->R β):((pure a:R α) >>= f)=f a:=rfl
@[simp] theorem R.exc_bind {α β:Type} (x:Xc) (f:α->R β):(R.exc x >>= f)=.exc x:=rfl
@[simp] theorem R.stk_bind {α β:Type} (f:α->R β):((R.stk:R α) >>= f)=.stk:=rfl
@[simp] theorem R.pure_eq {α:Type} (a:α):(pure a:R α)=.ok a:=rfl
abbrev FE:=Env->R Res
abbrev FT:=Env->R Bool
@[simp] def sc (d:D):Res:=⟨.shr,true,d⟩
def Res.give (r:Res):R Res:=if r.k=.own then .stk else .ok ⟨.shr,r.fr,r.d⟩
def vE (i:Nat):FE:=fun ρ=>match ρ[i]? with
 | some (some e)=>.ok ⟨e.k.rd,e.fr||e.d.imm,e.d⟩
 | _=>.stk
def cE (d:D):FE:=fun _=>.ok (sc d)
def asI:D->R Int
 | .int i=>.ok i
 | _=>.stk
def asB:D->R Bool
 | .bl b=>.ok b
 | _=>.stk
def asL:D->R (List D)
 | .lst ds=>.ok ds
 | _=>.stk
def asS:D->R (List D)
 | .lst ds=>.ok ds
 | .tup ds=>.ok ds
 | _=>.stk
def i2E (C:Int->Int->Bool)(g:Int->Int->Int)(a b:FE):FE:=fun ρ=>do
 let x ← a ρ
 let y ← b ρ
 let i ← asI x.d
 let j ← asI y.d
 if C i j then .ok (sc (.int (g i j))) else .stk
def aIs (g:Int->Int->Bool)(a b:FE):FE:=fun ρ=>do
 let x ← a ρ
 let y ← b ρ
 let i ← asI x.d
 let j ← asI y.d
 .ok (sc (.bl (g i j)))
def nA (a:FE):FE:=fun ρ=>do
 let x ← a ρ
 let i ← asI x.d
 .ok (sc (.int (-i)))
def C0:Int->Int->Bool:=fun _ _=>true
def CM:Int->Int->Bool:=fun i j=>decide (i.natAbs.log2<1000000)&&decide (j.natAbs.log2<1000000)
def CD:Int->Int->Bool:=fun _ j=>decide (0<j)&&decide (j.natAbs.log2<9000)
def CP:Int->Int->Bool:=fun _ j=>decide (0<j)
def cR:=i2E C0 (fun i j=>i+j)
def mK:=i2E C0 (fun i j=>i-j)
def cX:=i2E CM (fun i j=>i*j)
def kI:=i2E CD (fun i j=>i/j)
def gZ:=i2E CP (fun i j=>i%j)
def ltE:=aIs fun i j=>decide (i<j)
def gtE:=aIs fun i j=>decide (j<i)
end Mir
namespace Mir
open PySem L2
noncomputable def cut (H:Hp)(B:Addr->Prop):Hp:=fun a=>haveI:=Classical.propDecidable (B a);if B a then none else H a
theorem aM {H:Hp}{B:Addr->Prop}{a:Addr}{o:HO}:cut H B a=some o↔¬ B a/\H a=some o:=by
 unfold cut;by_cases h:B a
 · simp[h]
 · simp[h]
def stab:HO->Bool
 | .tup _=>true
 | .ext _=>true
 | .frz _ u=>stab u
 | _=>false
def Ban (fr:Bool)(H0:Hp)(B:Addr->Prop):Addr->Prop:=fun a=>B a\/(fr=true/\∃ o,H0 a=some o/\stab o=false)
noncomputable abbrev aU (fr:Bool)(H0 H:Hp)(B:Addr->Prop):Hp:=cut H (Ban fr H0 B)
theorem fV {H:Hp}{B:Addr->Prop}:aD (cut H B) H:=fun b o e=>(aM.mp e).2
theorem eM {H H':Hp}{B B':Addr->Prop}(s:∀ b o,H b=some o->¬ B b->H' b=some o)(h:∀ b,B' b->B b\/H b=none):aD (cut H B) (cut H' B'):=fun b o e=>by
 obtain⟨n,e⟩:=aM.mp e;refine aM.mpr ⟨fun z=>?_,s b o e n⟩
 rcases h b z with h | h
 · exact n h
 · rw[h]at e;cases e
theorem aP {fr:Bool}{H0 H H':Hp}{B B':Addr->Prop}(s:∀ b o,H b=some o->¬ B b->H' b=some o)(h:∀ b,B' b->B b\/H b=none):aD (aU fr H0 H B) (aU fr H0 H' B') :=
 eM (fun b o e n=>s b o e fun z=>n (.inl z)) fun b z=>by
  rcases z with z | z
  · exact(h b z).imp .inl id
  · exact .inl (.inr z)
theorem iN {fr:Bool}{H0 H:Hp}{B:Addr->Prop}:aD (aU fr H0 H B) (aU false H0 H B) :=
 eM (fun _ _ e _=>e) fun b z=>by
  rcases z with z | ⟨z,_⟩
  · exact .inl (.inl z)
  · cases z
theorem aD.rd {H H':Hp}{a:Addr}{u:HO}(e:aD H H')(h:Rd H a u):Rd H' a u:=by
 rcases h with h | ⟨o,h⟩
 · exact .inl (e _ _ h)
 · exact .inr ⟨o,e _ _ h⟩
def clK (K:PySem.W.Frag)(c:XC):Addr:=match Ch K mainGlobals c.nm with
 | some (some (.ref C))=>C
 | _=>0
def aTh (a C:Addr)(h:Heap):Prop:=∃ o,h.get? a=some o/\o.cls=.ref C/\PySem.W.notCls o=true
def aWg (a C dx:Addr)(h:Heap):Prop:=∃ o,h.get? a=some o/\o.cls=.ref C/\PySem.W.notCls o=true/\o.dict=some dx
def aEe (a:Addr)(p:Int)(h:Heap):Prop:=∃ mA t,h.Ns1 a mA/\mA "place" = some (.int p t)
def aE6:Nat->Str
 | 0=>"Flat"
 | _=>"Cleared"
def dU:Nat->List Str
 | 0=>["many","rows"]
 | _=>["bottom","heads","lines"]
def clO (K:PySem.W.Frag)(c:Nat):Addr:=match Ch K mainGlobals (aE6 c) with
 | some (some (.ref C))=>C
 | _=>0
variable {K:PySem.W.Frag}
def aCg (K:PySem.W.Frag)(G:Hp)(c:XC)(ds:List D)(v:V):Prop:=∃ a φ,v=.ref a/\G a=some (.ext φ)/\(∀ h,φ h->aTh a (clK K c) h)/\match ds with
 | []=>True
 | [.int p]=>∃ dx,φ=aWg a (clK K c) dx/\G dx=some (.ext (aEe dx p))
 | _=>False
theorem aCg.map {G G':Hp}{c:XC}{ds:List D}{v:V}(h:aCg K G c ds v)(f:∀ b φ,G b=some (.ext φ)->G' b=some (.ext φ)):aCg K G' c ds v:=by
 obtain⟨a,φ,h1,h2,h3,h4⟩:=h;refine⟨a,φ,h1,f _ _ h2,h3,?_⟩
 split at h4
 · trivial
 · obtain⟨dx,h5,h6⟩:=h4
   exact⟨dx,h5,f _ _ h6⟩
 · exact h4.elim
def cH (ks:List (List Int))(kvs:List (List Key×V)):Prop:=kvs.map (·.1)=ks.map (·.map Sum.inl)
mutual
def Rep (K:PySem.W.Frag)(G:Hp):D->V->Prop
 | .non,v=>v=.non
 | .bl b,v=>v=.bl b
 | .int i,v=>v=.int i
 | .str x,v=>v=.str x
 | .lst ds,v=>∃ a xs,v=.ref a/\Rd G a (.lst xs)/\aE K G ds xs
 | .tup ds,v=>∃ a xs,v=.ref a/\G a=some (.tup xs)/\aE K G ds xs
 | .obj c ds,v=>∃ a dx fs,v=.ref a/\G a=some (.ins (clO K c) dx fs)/\fs.map (·.1)=dU c/\aE K G ds (fs.map (·.2))
 | .any,_=>True
 | .dct ks ds,v=>∃ a kvs,v=.ref a/\Rd G a (.dT kvs)/\cH ks kvs/\aE K G ds (kvs.map (·.2))
 | .exc c ds,v=>aCg K G c ds v
def aE (K:PySem.W.Frag)(G:Hp):List D->List V->Prop
 | [],xs=>xs=[]
 | d :: r,xs=>∃ x xr,xs=x :: xr/\Rep K G d x/\aE K G r xr
end
mutual
theorem Rep.same {G G':Hp}(e:aD G G'):∀ {d:D} {v:V},Rep K G d v->Rep K G' d v
 | .non,_,h=>h
 | .bl _,_,h=>h
 | .int _,_,h=>h
 | .str _,_,h=>h
 | .lst _,_,⟨a,xs,h1,h2,h3⟩=>⟨a,xs,h1,aD.rd e h2,aE.same e h3⟩
 | .tup _,_,⟨a,xs,h1,h2,h3⟩=>⟨a,xs,h1,e _ _ h2,aE.same e h3⟩
 | .obj _ _,_,⟨a,dx,fs,h1,h2,h3,h4⟩=>⟨a,dx,fs,h1,e _ _ h2,h3,aE.same e h4⟩
 | .any,_,h=>h
 | .dct _ _,_,⟨a,xs,h1,h2,h3,h4⟩=>⟨a,xs,h1,aD.rd e h2,h3,aE.same e h4⟩
 | .exc _ _,_,h=>aCg.map h fun _ _ q=>e _ _ q
theorem aE.same {G G':Hp}(e:aD G G'):∀ {ds:List D} {vs:List V},aE K G ds vs->aE K G' ds vs
 | [],_,h=>h
 | _ :: _,_,⟨x,xr,h1,h2,h3⟩=>⟨x,xr,h1,Rep.same e h2,aE.same e h3⟩
end
theorem aE.length {G:Hp}:∀ {ds:List D} {vs:List V},aE K G ds vs->ds.length=vs.length
 | [],vs,h=>by have e:vs=[]:=h;rw[e];rfl
 | _ :: _,_,⟨x,xr,h1,_,h3⟩=>by rw[h1];simp[aE.length h3]
theorem aE.get {G:Hp}:∀ {ds:List D} {vs:List V} {i:Nat} {d:D},aE K G ds vs->ds[i]?=some d->∃ v,vs[i]?=some v/\Rep K G d v
 | [],_,_,_,_,e=>by simp at e
 | _ :: _,_,0,_,⟨x,xr,h1,h2,_⟩,e=>by simp at e;subst e;exact⟨x,by rw[h1];rfl,h2⟩
 | _ :: _,_,i+1,d,⟨x,xr,h1,_,h3⟩,e=>by
  obtain⟨v,a,b⟩:=aE.get (i:=i) (d:=d) h3 (by simpa using e)
  exact⟨v,by rw[h1];simpa using a,b⟩
theorem aE.append {G:Hp}:∀ {ds es:List D} {vs ws:List V},aE K G ds vs->aE K G es ws->aE K G (ds++es) (vs++ws)
 | [],_,_,_,h,q=>by rw[show _=[] from h];exact q
 | _ :: _,_,_,_,⟨x,xr,h1,h2,h3⟩,q=>by subst h1;exact⟨x,_,rfl,h2,aE.append h3 q⟩
theorem aE.take {G:Hp}:∀ {ds:List D} {vs:List V} (n:Nat),aE K G ds vs->aE K G (ds.take n) (vs.take n)
 | _,_,0,_=>by simp only[List.take_zero];rfl
 | [],_,_+1,h=>by rw[show _=[] from h];rfl
 | _ :: _,_,n+1,⟨x,xr,h1,h2,h3⟩=>by subst h1;exact⟨x,_,rfl,h2,aE.take n h3⟩
theorem aE.drop {G:Hp}:∀ {ds:List D} {vs:List V} (n:Nat),aE K G ds vs->aE K G (ds.drop n) (vs.drop n)
 | _,_,0,h=>h
 | [],_,_+1,h=>by rw[show _=[] from h];rfl
 | _ :: _,_,n+1,⟨x,xr,h1,_,h3⟩=>by subst h1;exact aE.drop n h3
theorem aE.set {G:Hp}{d:D}{v:V}(r:Rep K G d v):∀ {ds:List D} {vs:List V} (i:Nat),aE K G ds vs->aE K G (ds.set i d) (vs.set i v)
 | [],_,_,h=>by rw[show _=[] from h];rfl
 | _ :: _,_,0,⟨x,xr,h1,_,h3⟩=>by subst h1;exact⟨v,xr,rfl,r,h3⟩
 | _ :: _,_,i+1,⟨x,xr,h1,h2,h3⟩=>by subst h1;exact⟨x,_,rfl,h2,aE.set r i h3⟩
theorem aE.one {G:Hp}{d:D}{v:V}(r:Rep K G d v):aE K G [d] [v]:=⟨v,[],rfl,r,rfl⟩
theorem wO {H0 H:Hp}{B:Addr->Prop}{a:Addr}{o:HO}(s:aD H0 H)(st:stab o=true)(e:aU false H0 H B a=some o):aU true H0 H B a=some o:=by
 obtain⟨n,e⟩:=aM.mp e;refine aM.mpr ⟨fun z=>?_,e⟩
 rcases z with z | ⟨_,o',q1,q2⟩
 · exact n (.inl z)
 · rw[s a o' q1]at e;cases e;rw[st]at q2;cases q2
mutual
theorem Rep.imm {H0 H:Hp}{B:Addr->Prop}(s:aD H0 H):∀ {d:D} {v:V},d.imm=true->Rep K (aU false H0 H B) d v->Rep K (aU true H0 H B) d v
 | .non,_,_,h=>h
 | .bl _,_,_,h=>h
 | .int _,_,_,h=>h
 | .str _,_,_,h=>h
 | .lst _,_,i,_=>by cases i
 | .tup ds,_,i,⟨a,xs,h1,h2,h3⟩=>by
  refine⟨a,xs,h1,?_,aE.imm s (by simpa[D.imm] using i) h3⟩
  exact wO s rfl h2
 | .obj _ _,_,i,_=>by cases i
 | .any,_,i,_=>by cases i
 | .dct _ _,_,i,_=>by cases i
 | .exc _ _,_,_,h=>aCg.map h fun _ _ q=>wO s rfl q
theorem aE.imm {H0 H:Hp}{B:Addr->Prop}(s:aD H0 H):∀ {ds:List D} {vs:List V},D.imms ds=true->aE K (aU false H0 H B) ds vs->aE K (aU true H0 H B) ds vs
 | [],_,_,h=>h
 | d :: r,_,i,⟨x,xr,h1,h2,h3⟩=>by
  have i':d.imm=true/\D.imms r=true:=by simpa[D.imms] using i
  exact⟨x,xr,h1,Rep.imm s i'.1 h2,aE.imm s i'.2 h3⟩
end
theorem Rep.fr {H0 H:Hp}{B:Addr->Prop}{fr:Bool}{d:D}{v:V}(s:aD H0 H)(h:Rep K (aU fr H0 H B) d v):Rep K (aU (fr||d.imm) H0 H B) d v:=by
 cases fr with
 | true=>exact h
 | false =>
  cases e:d.imm with
  | false=>exact h
  | true=>exact Rep.imm s e h
def iS (K:PySem.W.Frag)(G:Hp)(d:D)(o:HO):Prop:=match d with
 | .lst ds=>∃ vs,o=.lst vs/\aE K G ds vs
 | .dct ks ds=>∃ kvs,o=.dT kvs/\cH ks kvs/\aE K G ds (kvs.map (·.2))
 | _=>False
theorem iS.same {G G':Hp}(e:aD G G'){d:D}{o:HO}(h:iS K G d o):iS K G' d o:=by
 cases d with
 | lst ds=>obtain⟨vs,h1,h2⟩:=h;exact⟨vs,h1,aE.same e h2⟩
 | dct ks ds=>obtain⟨kvs,h1,h2,h3⟩:=h;exact⟨kvs,h1,h2,aE.same e h3⟩
 | _=>exact h.elim
theorem iS.con {G:Hp}{d:D}{o:HO}(h:iS K G d o):d.con=true:=by
 cases d with
 | lst ds=>rfl
 | dct ks ds=>rfl
 | _=>exact h.elim
theorem iS.imm {G:Hp}{d:D}{o:HO}(h:iS K G d o):d.imm=false:=by
 cases d with
 | lst ds=>rfl
 | dct ks ds=>rfl
 | _=>exact h.elim
theorem iS.stab {G:Hp}{d:D}{o:HO}(h:iS K G d o):stab o=false:=by
 cases d with
 | lst ds=>obtain⟨vs,h1,h2⟩:=h;subst h1;rfl
 | dct ks ds=>obtain⟨kvs,h1,h2,h3⟩:=h;subst h1;rfl
 | _=>exact h.elim
theorem iS.lst {G:Hp}{ds:List D}{vs:List V}(h:aE K G ds vs):iS K G (.lst ds) (.lst vs):=⟨vs,rfl,h⟩
theorem iS.rep {G G':Hp}{a:Addr}{d:D}{o:HO}(h:iS K G d o)(e:aD G G')(q:G' a=some o):Rep K G' d (.ref a):=by
 cases d with
 | lst ds=>obtain⟨vs,h1,h2⟩:=h;subst h1;exact⟨a,vs,rfl,Rd.of q,aE.same e h2⟩
 | dct ks ds=>obtain⟨kvs,h1,h2,h3⟩:=h;subst h1;exact⟨a,kvs,rfl,Rd.of q,h2,aE.same e h3⟩
 | _=>exact h.elim
def nK (K:PySem.W.Frag)(H0 H:Hp)(B:Addr->Prop)(v:V)(e:Res):Prop :=
 match e.k with
 | .shr=>Rep K (aU e.fr H0 H B) e.d v
 | .own=>∃ a o,v=.ref a/\B a/\H0 a=none/\H a=some o/\iS K (aU e.fr H0 H B) e.d o
 | .tmp=>False
 | .old=>e.fr=false/\Rep K (cut H0 B) e.d v
structure DenE (K:PySem.W.Frag)(H0 H:Hp)(B:Addr->Prop)(σ:St)(ρ:Env):Prop where
 len:ρ.length=σ.length
 sam:aD H0 H
 bnd:∀ b,B b->∃ o,H b=some o/\stab o=false
 ent:∀ (i:Nat) (e:Res),ρ[i]?=some (some e)->∃ v,σ[i]?=some (some v)/\nK K H0 H B v e
def aI (K:PySem.W.Frag)(H0 H H':Hp)(B:Addr->Prop)(v:V)(r:Res):Prop :=
 match r.k with
 | .shr=>Rep K (aU r.fr H0 H' B) r.d v
 | .own=>∃ a o,v=.ref a/\B a/\H0 a=none/\H' a=some o/\iS K (aU r.fr H0 H' B) r.d o
 | .tmp=>∃ a o,v=.ref a/\H a=none/\H' a=some o/\iS K (aU r.fr H0 H' fun b=>B b\/b=a) r.d o
 | .old=>False
section
variable {H0 H H' H'':Hp}{B B':Addr->Prop}{v:V}{r e:Res}{σ:St}{ρ:Env}
theorem nK.mono (g:nK K H0 H B v e)(s:aD H H'):nK K H0 H' B v e:=by
 unfold nK at g ⊢;have m:∀ fr,aD (aU fr H0 H B) (aU fr H0 H' B):=fun fr=>aP (fun b o e _=>s b o e) fun b z=>.inl z;cases k:e.k with
 | shr=>rw[k]at g;exact Rep.same (m _) g
 | own=>rw[k]at g;obtain⟨a,o,h1,h2,h3,h4,h5⟩:=g;exact⟨a,o,h1,h2,h3,s _ _ h4,h5.same (m _)⟩
 | tmp=>rw[k]at g;exact g
 | old=>rw[k]at g;exact g
theorem DenE.mono (d:DenE K H0 H B σ ρ)(s:aD H H'):DenE K H0 H' B σ ρ :=
 ⟨d.len,d.sam.trans s,fun b h=>let ⟨o,e,n⟩:=d.bnd b h;⟨o,s _ _ e,n⟩,fun i e h=>let ⟨v,a,g⟩:=d.ent i e h;⟨v,a,g.mono s⟩⟩
theorem aI.mono (g:aI K H0 H H' B v r)(s:aD H' H''):aI K H0 H H'' B v r:=by
 unfold aI at g ⊢;have m:∀ fr (B:Addr->Prop),aD (aU fr H0 H' B) (aU fr H0 H'' B):=fun fr B=>aP (fun b o e _=>s b o e) fun b z=>.inl z;cases k:r.k with
 | shr=>rw[k]at g;exact Rep.same (m _ _) g
 | own=>rw[k]at g;obtain⟨a,o,h1,h2,h3,h4,h5⟩:=g;exact⟨a,o,h1,h2,h3,s _ _ h4,h5.same (m _ _)⟩
 | tmp=>rw[k]at g;obtain⟨a,o,h1,h2,h3,h4⟩:=g;exact⟨a,o,h1,h2,s _ _ h3,h4.same (m _ _)⟩
 | old=>rw[k]at g;exact g
theorem aI.sc {d:D}(h:Rep K (aU true H0 H' B) d v):aI K H0 H H' B v (sc d):=h
theorem aI.con (g:aI K H0 H H' B v r)(e:r.k≠.shr):∃ a o,v=.ref a/\H' a=some o/\iS K (aU r.fr H0 H' B) r.d o:=by
 unfold aI at g;cases k:r.k with
 | shr=>exact absurd k e
 | own=>rw[k]at g;obtain⟨a,o,h1,_,_,h4,h5⟩:=g;exact⟨a,o,h1,h4,h5⟩
 | tmp=>rw[k]at g;obtain⟨a,o,h1,_,h3,h4⟩:=g;exact⟨a,o,h1,h3,h4.same (aP (fun b o e _=>e) fun b z=>.inl (.inl z))⟩
 | old=>rw[k]at g;exact g.elim
theorem aI.list {ds:List D}(g:aI K H0 H H' B v r)(e:r.d=.lst ds):∃ a xs,v=.ref a/\Rd H' a (.lst xs)/\aE K (aU r.fr H0 H' B) ds xs:=by
 by_cases k:r.k=.shr
 · unfold aI at g
   rw[k,e]at g;obtain⟨a,xs,h1,h2,h3⟩:=g;exact⟨a,xs,h1,aD.rd fV h2,h3⟩
 · obtain⟨a,o,h1,h2,h3⟩:=g.con k
   rw[e]at h3;obtain⟨vs,h4,h5⟩:=h3;subst h4;exact⟨a,vs,h1,Rd.of h2,h5⟩
theorem aI.dict {ks:List (List Int)}{ds:List D}(g:aI K H0 H H' B v r)(e:r.d=.dct ks ds):∃ a kvs,v=.ref a/\Rd H' a (.dT kvs)/\cH ks kvs/\aE K (aU r.fr H0 H' B) ds (kvs.map (·.2)):=by
 by_cases k:r.k=.shr
 · unfold aI at g
   rw[k,e]at g;obtain⟨a,xs,h1,h2,h3,h4⟩:=g;exact⟨a,xs,h1,aD.rd fV h2,h3,h4⟩
 · obtain⟨a,o,h1,h2,h3⟩:=g.con k
   rw[e]at h3;obtain⟨kvs,h4,h5,h6⟩:=h3;subst h4;exact⟨a,kvs,h1,Rd.of h2,h5,h6⟩
theorem aI.shr_of (g:aI K H0 H H' B v r)(h:r.d.con=false):Rep K (aU r.fr H0 H' B) r.d v:=by
 by_cases k:r.k=.shr
 · unfold aI at g
   rw[k]at g;exact g
 · obtain⟨a,o,h1,h2,h3⟩:=g.con k
   rw[h3.con]at h;cases h
theorem aI.int {i:Int}(g:aI K H0 H H' B v r)(e:r.d=.int i):v=.int i:=by
 have:=g.shr_of (by rw[e];rfl)
 rw[e]at this;exact this
theorem aI.bl {b:Bool}(g:aI K H0 H H' B v r)(e:r.d=.bl b):v=.bl b:=by
 have:=g.shr_of (by rw[e];rfl)
 rw[e]at this;exact this
theorem aI.tuple {ds:List D}(g:aI K H0 H H' B v r)(e:r.d=.tup ds):∃ a xs,v=.ref a/\H' a=some (.tup xs)/\aE K (aU r.fr H0 H' B) ds xs:=by
 have:=g.shr_of (by rw[e];rfl)
 rw[e]at this;obtain⟨a,xs,h1,h2,h3⟩:=this;exact⟨a,xs,h1,fV _ _ h2,h3⟩
theorem aI.give {r':Res}(den:DenE K H0 H B σ ρ)(g:aI K H0 H H' B v r)(e:r.give=.ok r'):r'=⟨.shr,r.fr,r.d⟩/\Rep K (aU r.fr H0 H' B) r.d v:=by
 unfold Res.give at e;unfold aI at g;cases k:r.k with
 | shr=>rw[k]at g e;simp at e;exact⟨e.symm,g⟩
 | own=>rw[k]at e;simp at e
 | old=>rw[k]at g;exact g.elim
 | tmp =>
  rw[k]at g e;simp at e
  obtain⟨a,o,h1,h2,h3,h4⟩:=g;refine⟨e.symm,?_⟩
  subst h1;refine h4.rep (aP (fun b o e _=>e) fun b z=>.inl (.inl z)) (aM.mpr ⟨fun z=>?_,h3⟩)
  rcases z with z | ⟨_,o,z,_⟩
  · obtain⟨o,q,_⟩:=den.bnd a z;rw[h2]at q;cases q
  · rw[den.sam _ _ z]at h2;cases h2
theorem nK.res (s:aD H0 H)(g:nK K H0 H B v e):aI K H0 H H B v ⟨e.k.rd,e.fr||e.d.imm,e.d⟩:=by
 unfold nK at g;unfold aI;cases k:e.k with
 | shr=>rw[k]at g;exact Rep.fr s g
 | own =>
  rw[k]at g;obtain⟨a,o,h1,h2,h3,h4,h5⟩:=g;refine⟨a,o,h1,h2,h3,h4,?_⟩
  rw[h5.imm,Gj];exact h5
 | tmp=>rw[k]at g;exact g.elim
 | old =>
  rw[k]at g;refine Rep.fr s (Rep.same ?_ g.2)
  rw[g.1];intro b o q;obtain⟨n,q⟩:=aM.mp q;refine aM.mpr ⟨fun z=>?_,s b o q⟩
  rcases z with z | ⟨z,_⟩
  · exact n z
  · cases z
end
structure XP where
 p:Xc->St->Hp->Prop
 mono:∀ {x:Xc} {σ:St} {H H':Hp},p x σ H->aD H H'->p x σ H'
def XP0:XP:=⟨fun _ _ _=>False,fun h _=>h⟩
def tE (K:PySem.W.Frag)(P:XP)(f:FE):TE:=fun σ H Q=>∃ H0 B ρ,DenE K H0 H B σ ρ/\match f ρ with
 | .ok r=>∀ v H',aD H H'->aI K H0 H H' B v r->Q v H'
 | .exc x=>P.p x σ H
 | .stk=>False
def tT (K:PySem.W.Frag)(P:XP)(f:FT):TT:=fun σ H Q=>∃ H0 B ρ,DenE K H0 H B σ ρ/\match f ρ with
 | .ok b=>∀ H',aD H H'->Q b H'
 | .exc x=>P.p x σ H
 | .stk=>False
theorem PE.imp {X:Cx}{e:Expr}{t t':TE}(p:PE X e t)(h:∀ σ H Q,t' σ H Q->t σ H Q):PE X e t':=fun pins s σ H Q I q=>p pins s σ H Q I (h σ H Q q)
theorem PT.imp {X:Cx}{e:Expr}{t t':TT}(p:PT X e t)(h:∀ σ H Q,t' σ H Q->t σ H Q):PT X e t':=fun pins s σ H Q I q=>p pins s σ H Q I (h σ H Q q)
theorem eV {X:Cx}{P:XP}{f:FE}{H0 H:Hp}{B:Addr->Prop}{σ:St}{ρ:Env}{Q:VK}{r:Res}(d:DenE X.K H0 H B σ ρ)(e:f ρ=.ok r)
 (h:∀ v H',aD H H'->DenE X.K H0 H' B σ ρ->aI X.K H0 H H' B v r->Q v H'):tE X.K P f σ H Q :=
 ⟨H0,B,ρ,d,by rw[e];exact fun v H' s g=>h v H' s (d.mono s) g⟩
theorem dA {X:Cx}{P:XP}{f:FE}{H0 H:Hp}{B:Addr->Prop}{σ:St}{ρ:Env}{Q:VK}{x:Xc}(d:DenE X.K H0 H B σ ρ)(e:f ρ=.exc x)(h:P.p x σ H):tE X.K P f σ H Q :=
 ⟨H0,B,ρ,d,by rw[e];exact h⟩
end Mir
namespace Mir
open PySem
abbrev FEs:=List FE
def evs:FEs->Env->R (List Res)
 | [],_=>.ok []
 | f :: r,ρ=>do
  let x ← f ρ
  let xs ← evs r ρ
  .ok (x :: xs)
def gives:List Res->R (Bool×List D)
 | []=>.ok (true,[])
 | r :: rs=>do
  let x ← r.give
  let y ← gives rs
  .ok (x.fr&&y.1,x.d :: y.2)
def dF (fs:FEs):FE:=fun ρ=>do
 let rs ← evs fs ρ
 let y ← gives rs
 if y.2.length<=sizeLine then .ok ⟨.tmp,y.1,.lst y.2⟩ else .stk
def eW (fs:FEs):FE:=fun ρ=>do
 let rs ← evs fs ρ
 let y ← gives rs
 if y.2.length<=sizeLine then .ok ⟨.shr,y.1,.tup y.2⟩ else .stk
def cB (a:FE):FE:=fun ρ=>do
 let x ← a ρ
 let ds ← asS x.d
 .ok (sc (.int ds.length))
def bG (a i:FE):FE:=fun ρ=>do
 let x ← a ρ
 let y ← i ρ
 let ds ← asS x.d
 let j ← asI y.d
 match L2.atI ds j with
 | some d=>.ok ⟨.shr,x.fr||d.imm,d⟩
 | none=>.stk
def mT (a:FE):FE:=fun ρ=>do
 let x ← a ρ
 let ds ← asS x.d
 .ok ⟨.tmp,x.fr,.lst ds⟩
def aGl (a:FE):FE:=fun ρ=>do
 let x ← a ρ
 let ds ← asS x.d
 .ok ⟨.shr,x.fr,.tup ds⟩
def eN (a b:FE):FE:=fun ρ=>do
 let x ← a ρ
 let y ← b ρ
 let xs ← asL x.d
 let ys ← asL y.d
 if xs.length+ys.length<=sizeLine then .ok ⟨.tmp,x.fr&&y.fr,.lst (xs++ys)⟩ else .stk
def mQ (xs:List D)(lo hi:Option Int):List D:=(xs.drop (HT.sIx xs.length 0 lo)).take (HT.sIx xs.length xs.length hi-HT.sIx xs.length 0 lo)
abbrev FO:=Env->R (Option Int)
def noO:FO:=fun _=>.ok none
def soO (a:FE):FO:=fun ρ=>do
 let x ← a ρ
 let i ← asI x.d
 .ok (some i)
def eI (a:FE)(lo hi:FO):FE:=fun ρ=>do
 let x ← a ρ
 let l ← lo ρ
 let h ← hi ρ
 let ds ← asL x.d
 .ok ⟨.tmp,x.fr,.lst (mQ ds l h)⟩
mutual
def gB:D->Option PyData
 | .non=>some .none
 | .bl b=>some (.bool b)
 | .int i=>some (.int i)
 | .str x=>some (.str x)
 | .lst ds=>(mC ds).map .list
 | .tup ds=>(mC ds).map .tuple
 | _=>none
def mC:List D->Option (List PyData)
 | []=>some []
 | d :: r=>(gB d).bind fun p=>(mC r).map (p :: ·)
end
def lB (x y:D):R Bool:=match gB x,gB y with
 | some p,some q=>if SeqAt.shaped p&&SeqAt.shaped q then .ok (PyData.eqv p q) else .stk
 | _,_=>.stk
def eqE (a b:FE):FE:=fun ρ=>do
 let x ← a ρ
 let y ← b ρ
 let t ← lB x.d y.d
 .ok (sc (.bl t))
def neE (a b:FE):FE:=fun ρ=>do
 let x ← a ρ
 let y ← b ρ
 let t ← lB x.d y.d
 .ok (sc (.bl (!t)))
def aUd:D->Bool
 | .non=>true
 | _=>false
def aFh:D->R Bool
 | .any=>.stk
 | d=>.ok (aUd d)
def aBx (a:FE):FE:=fun ρ=>do
 let x ← a ρ
 let b ← aFh x.d
 .ok (sc (.bl b))
def aBr (a:FE):FE:=fun ρ=>do
 let x ← a ρ
 let b ← aFh x.d
 .ok (sc (.bl (!b)))
def bT (a:FE):FT:=fun ρ=>do
 let x ← a ρ
 asB x.d
def aCn (t:FT):FT:=fun ρ=>do
 let b ← t ρ
 .ok (!b)
def orT (t u:FT):FT:=fun ρ=>do
 let b ← t ρ
 if b then .ok true else u ρ
def aC6 (a b:FE):FE:=fun ρ=>do
 let x ← a ρ
 let t ← asB x.d
 if t then b ρ else .ok (sc (.bl false))
def ifE (t:FT)(a b:FE):FE:=fun ρ=>do
 let c ← t ρ
 if c then a ρ else b ρ
structure Its where
 st:Bool
 fr:Bool
 ds:List D
abbrev FI:=Env->R Its
def cN (a:FE):FI:=fun ρ=>do
 let x ← a ρ
 let ds ← asL x.d
 .ok ⟨x.k != .own,x.fr,ds⟩
def aWh (a:FE):FI:=fun ρ=>do
 let x ← a ρ
 match x.d with
 | .tup ds=>.ok ⟨true,x.fr,ds⟩
 | _=>.stk
def rS (lo:Int)(n:Nat):List D:=(Af n).map fun (i:Nat)=>.int (lo+(i:Int))
def dX (a:FE):FI:=fun ρ=>do
 let x ← a ρ
 let j ← asI x.d
 if -(2^62)<=j/\j<2^62 then .ok ⟨true,true,rS 0 j.toNat⟩ else .stk
def nJ (a b:FE):FI:=fun ρ=>do
 let x ← a ρ
 let y ← b ρ
 let i ← asI x.d
 let j ← asI y.d
 if -(2^62)<=i/\i<2^62/\-(2^62)<=j/\j<2^62 then .ok ⟨true,true,rS i (j-i).toNat⟩ else .stk
def xD:List D->List D->List D:=List.zipWith fun a b=>.tup [a,b]
def nN (a b:FE):FI:=fun ρ=>do
 let x ← a ρ
 let y ← b ρ
 let xs ← asL x.d
 let ys ← asL y.d
 .ok ⟨x.k != .own&&y.k != .own,x.fr&&y.fr,xD xs ys⟩
inductive Tg where
 | nm (i:Nat) | tp (ts:List Tg)
mutual
def Tg.bind (fr:Bool):Tg->D->Env->R Env
 | .nm i,d,ρ=>.ok (ρ.set i (some ⟨.shr,fr,d⟩))
 | .tp ts,.tup ds,ρ=>Tg.binds fr ts ds ρ
 | .tp _,_,_=>.stk
def Tg.binds (fr:Bool):List Tg->List D->Env->R Env
 | [],[],ρ=>.ok ρ
 | t :: ts,d :: ds,ρ=>do
  let ρ1 ← Tg.bind fr t d ρ
  Tg.binds fr ts ds ρ1
 | _,_,_=>.stk
end
def dP (k:Nat)(fs:List Nat)(ρ:Env):Env:=Aw k none++fs.map fun i=>(ρ[i]?).join
abbrev FB:=Env->R (Option Res)
def bE (f:FE):FB:=fun ρ=>do
 let x ← f ρ
 .ok (some x)
def bIf (t:FT)(f:FE):FB:=fun ρ=>do
 let c ← t ρ
 if c then (do let x ← f ρ;.ok (some x)) else .ok none
def fL (tg:Tg)(b:FB)(fr:Bool)(ρ:Env):List D->R (Bool×List D)
 | []=>.ok (true,[])
 | d :: r=>do
  let ρ1 ← tg.bind fr d ρ
  match b ρ1 with
  | .ok (some x)=>do
   let x' ← x.give
   let y ← fL tg b fr ρ r
   .ok (x'.fr&&y.1,x'.d :: y.2)
  | .ok none=>fL tg b fr ρ r
  | _=>.stk
def aW (it:FI)(k:Nat)(fs:List Nat)(tg:Tg)(b:FB):FE:=fun ρ=>do
 let x ← it ρ
 let y ← fL tg b x.fr (dP k fs ρ) x.ds
 if x.ds.length<=sizeLine then .ok ⟨.tmp,y.1,.lst y.2⟩ else .stk
abbrev Φ:=List D->R Res
def aL (φ:Φ)(fs:FEs):FE:=fun ρ=>do
 let rs ← evs fs ρ
 let r ← φ (rs.map (·.d))
 if r.fr=true then .ok ⟨if r.k=.shr then .shr else .tmp,true,r.d⟩ else do
  let y ← gives rs
  .ok ⟨if r.k=.shr then .shr else .tmp,y.1,r.d⟩
inductive RS where
 | nx (ρ:Env) | rt (r:Res) | bk (ρ:Env) | ct (ρ:Env) | exc (x:Xc) (ρ:Env) | stk
abbrev FS:=Env->RS
def R.at (r:R α)(ρ:Env)(k:α->RS):RS:=match r with
 | .ok a=>k a
 | .exc x=>.exc x ρ
 | .stk=>.stk
def cI:FS:=.nx
def aJ (s t:FS):FS:=fun ρ=>match s ρ with
 | .nx ρ1=>t ρ1
 | r=>r
def Res.keep (r:Res):R Res:=match r.k with
 | .shr=>.ok r
 | .tmp=>.ok ⟨.own,r.fr,r.d⟩
 | .own=>.stk
 | .old=>.stk
def aF (i:Nat)(f:FE):FS:=fun ρ=>(f ρ).at ρ fun r=>(r.keep).at ρ fun e=>.nx (ρ.set i (some e))
def kC (f:FE):FS:=fun ρ=>(f ρ).at ρ fun _=>.nx ρ
def bI (f:FE):FS:=fun ρ=>(f ρ).at ρ fun r=>.rt ⟨if r.k=.shr then .shr else .tmp,r.fr,r.d⟩
def ifS (t:FT)(a b:FS):FS:=fun ρ=>(t ρ).at ρ fun c=>if c then a ρ else b ρ
def frz (i:Nat)(ρ:Env):Env:=match ρ[i]? with
 | some (some e)=>ρ.set i (some ⟨.shr,e.fr,e.d⟩)
 | _=>ρ
def gJ (i:Nat)(s:FS):FS:=fun ρ=>s (frz i ρ)
def uL (i:Nat)(ρ:Env):R (Bool×List D):=match ρ[i]? with
 | some (some ⟨.own,fr,.lst ds⟩)=>.ok (fr,ds)
 | _=>.stk
def kJ (i:Nat)(f:FE):FS:=fun ρ=>(uL i ρ).at ρ fun y=>(f ρ).at ρ fun r=>(r.give).at ρ fun x =>
 if y.2.length<sizeLine then .nx (ρ.set i (some ⟨.own,y.1&&x.fr,.lst (y.2++[x.d])⟩)) else .stk
def xZ (i:Nat)(j f:FE):FS:=fun ρ=>(f ρ).at ρ fun r=>(r.give).at ρ fun x=>(uL i ρ).at ρ fun y=>(j ρ).at ρ fun jr=>(asI jr.d).at ρ fun k =>
 match L2.ixN y.2.length k with
 | some n=>.nx (ρ.set i (some ⟨.own,y.1&&x.fr,.lst (y.2.set n x.d)⟩))
 | none=>.stk
def fG (tg:Tg)(b:FS)(fr:Bool):List D->FS
 | [],ρ=>.nx ρ
 | d :: r,ρ=>(tg.bind fr d ρ).at ρ fun ρ1=>match b ρ1 with
  | .nx ρ2=>fG tg b fr r ρ2
  | .ct ρ2=>fG tg b fr r ρ2
  | .bk ρ2=>.nx ρ2
  | o=>o
def dR (it:FI)(tg:Tg)(b:FS):FS:=fun ρ=>(it ρ).at ρ fun x=>if x.st then fG tg b x.fr x.ds ρ else .stk
def mU (t:FT)(b:FS):Nat->FS
 | 0,_=>.stk
 | n+1,ρ=>(t ρ).at ρ fun c=>if c then (match b ρ with
  | .nx ρ2=>mU t b n ρ2
  | .ct ρ2=>mU t b n ρ2
  | .bk ρ2=>.nx ρ2
  | o=>o) else .nx ρ
def aB1 (t:FT)(b:FS):FS:=fun ρ=>mU t b (2^64) ρ
def stE (n:Nat)(ds:List D):Env:=ds.map (fun d=>some ⟨.shr,false,d⟩)++Aw (n-ds.length) none
def cJ (np n:Nat)(s:FS):Φ:=fun ds=>if ds.length=np then (match s (stE n ds) with
 | .nx _=>.ok (sc .non)
 | .rt r=>.ok ⟨r.k,r.fr||r.d.imm,r.d⟩
 | .exc x _=>.exc x
 | _=>.stk) else .stk
end Mir
namespace Mir
open PySem L2
variable {X:Cx}{P:XP}{a b c:Expr}{f g:FE}{pos:Pos}
theorem aVh {i:Nat}{x:Str}(hN:X.N[i]?=some x)(hv:Vis X.env.scope x)(hd:(x==("__debug__":Str))=false:=by decide)(hcd:(x==("__classdict__":Str))=false:=by decide):PE X (.Name x pos) (tE X.K P (vE i)):=by
 refine PE.imp (pO hN hv hd hcd) ?_
 rintro σ H Q ⟨H0,B,ρ,d,h⟩
 unfold vE at h;cases e:ρ[i]? with
 | none=>rw[e]at h;exact h.elim
 | some o =>
  cases o with
  | none=>rw[e]at h;exact h.elim
  | some r =>
   rw[e]at h;obtain⟨v,hv,gd⟩:=d.ent i r e;exact⟨v,hv,h v H (aD.refl H) (gd.res d.sam)⟩
theorem m_v (i:Nat){x:Str}(hN:X.N[i]?=some x:=by rfl)(hv:Vis X.env.scope x:=by first | exact Or.inl rfl | exact Or.inr (Or.inl rfl) | exact Or.inr (Or.inr rfl))(hd:(x==("__debug__":Str))=false:=by decide)
 (hcd:(x==("__classdict__":Str))=false:=by decide):PE X (.Name x pos) (tE X.K P (vE i)):=aVh hN hv hd hcd
theorem m_c {d:D}{v:V}{e:Expr}(h:PE X e (tC v))(r:∀ G,Rep X.K G d v):PE X e (tE X.K P (cE d)):=by
 refine PE.imp h ?_
 rintro σ H Q ⟨H0,B,ρ,den,h⟩
 exact h v H (aD.refl H) (r _)
theorem bB {i:Int}{j pos}:PE X (.Constant (.int i) j pos) (tE X.K P (cE (.int i))):=m_c aQv fun _=>rfl
theorem aQi {b:Bool}{j pos}:PE X (.Constant (.bool b) j pos) (tE X.K P (cE (.bl b))):=m_c aU8 fun _=>rfl
theorem aPa {j pos}:PE X (.Constant .none j pos) (tE X.K P (cE .non)):=m_c aR6 fun _=>rfl
theorem dI {d:D}{i:Int}(h:asI d=.ok i):d=.int i:=by cases d<;>simp[asI]at h;rw[h]
theorem cM {d:D}{x:Xc}(h:asI d=.exc x):False:=by cases d<;>simp[asI]at h
theorem aHe {d:D}{i:Bool}(h:asB d=.ok i):d=.bl i:=by cases d<;>simp[asB]at h;rw[h]
theorem aE0 {d:D}{x:Xc}(h:asB d=.exc x):False:=by cases d<;>simp[asB]at h
theorem dE {d:D}{i:List D}(h:asL d=.ok i):d=.lst i:=by cases d<;>simp[asL]at h;rw[h]
theorem eF {d:D}{x:Xc}(h:asL d=.exc x):False:=by cases d<;>simp[asL]at h
theorem aB8 {d:D}{i:List D}(h:asS d=.ok i):d=.lst i\/d=.tup i:=by cases d<;>simp[asS]at h<;>simp[h]
theorem lV {d:D}{x:Xc}(h:asS d=.exc x):False:=by cases d<;>simp[asS]at h
theorem t1 {k:Res->R Res}{σ:St}{H:Hp}{Q:VK}{q:VK}(h:tE X.K P (fun ρ=>f ρ >>= k) σ H Q)
 (hk:∀ H0 B ρ v H' r,DenE X.K H0 H' B σ ρ->aI X.K H0 H H' B v r->aD H H'->(match k r with
  | .ok r1=>∀ v1 H1,aD H' H1->aI X.K H0 H H1 B v1 r1->Q v1 H1
  | .exc x=>P.p x σ H'
  | .stk=>False)->q v H'):tE X.K P f σ H q:=by
 obtain⟨H0,B,ρ,d,h⟩:=h;cases e:f ρ with
 | stk=>simp[e]at h
 | exc x=>simp[e]at h;exact dA d e h
 | ok r =>
  simp[e]at h
  refine eV d e fun v H' s d' gd=>hk H0 B ρ v H' r d' gd s ?_
  cases e2:k r with
  | stk=>rw[e2]at h;exact h
  | exc x=>rw[e2]at h;exact P.mono h s
  | ok r1=>rw[e2]at h;exact fun v1 H1 s1 g1=>h v1 H1 (s.trans s1) g1
theorem t2 {k:Res->Res->R Res}{σ:St}{H:Hp}{Q:VK}{q:V->V->Hp->Prop}(h:tE X.K P (fun ρ=>f ρ >>= fun x=>g ρ >>= fun y=>k x y) σ H Q)
 (hk:∀ H0 B ρ v w H' r r',DenE X.K H0 H' B σ ρ->aI X.K H0 H H' B v r->aI X.K H0 H H' B w r'->aD H H'->(match k r r' with
  | .ok r1=>∀ v1 H1,aD H' H1->aI X.K H0 H H1 B v1 r1->Q v1 H1
  | .exc x=>P.p x σ H'
  | .stk=>False)->q v w H'):tE X.K P f σ H fun v H1=>tE X.K P g σ H1 fun w H2=>q v w H2:=by
 obtain⟨H0,B,ρ,d,h⟩:=h;cases e:f ρ with
 | stk=>simp[e]at h
 | exc x=>simp[e]at h;exact dA d e h
 | ok r =>
  simp[e]at h
  refine eV d e fun v H1 s1 d1 g1=>?_
  cases e2:g ρ with
  | stk=>simp[e2]at h
  | exc x=>simp[e2]at h;exact dA d1 e2 (P.mono h s1)
  | ok r' =>
   simp[e2]at h
   refine eV d1 e2 fun w H2 s2 d2 g2=>hk H0 B ρ v w H2 r r' d2 (g1.mono s2) ?_ (s1.trans s2) ?_
   · unfold aI at g2 ⊢
     cases k:r'.k with
     | shr=>rw[k]at g2;exact g2
     | own=>rw[k]at g2;exact g2
     | tmp=>rw[k]at g2;obtain⟨a,o,h1,h2,h3⟩:=g2;exact⟨a,o,h1,s1.none h2,h3⟩
     | old=>rw[k]at g2;exact g2
   · cases e3:k r r' with
     | stk=>rw[e3]at h;exact h
     | exc x=>rw[e3]at h;exact P.mono h (s1.trans s2)
     | ok r1=>rw[e3]at h;exact fun v1 H3 s3 g3=>h v1 H3 ((s1.trans s2).trans s3) g3
theorem aCy {op:Operator}{C:Int->Int->Bool}{C':Int->Int->Prop}{G:Int->Int->Int}(ho:OpR X (binaryOp op) (rI C' fun i j=>.int (G i j)))(hC:∀ i j,C i j=true->C' i j)(ha:PE X a (tE X.K P f))(hb:PE X b (tE X.K P g)) :
 PE X (.BinOp a op b pos) (tE X.K P (i2E C G f g)):=by
 refine PE.imp (aKk ho ha hb) ?_
 intro σ H Q h;refine t2 (q:=fun x y H2=>rI C' (fun i j=>.int (G i j)) x y H2 Q) h ?_
 intro H0 B ρ v w H' r r' d g1 g2 s h;cases e1:asI r.d with
 | stk=>simp[e1]at h
 | exc x=>exact(cM e1).elim
 | ok i =>
  cases e2:asI r'.d with
  | stk=>simp[e1,e2]at h
  | exc x=>exact(cM e2).elim
  | ok j =>
   simp only[e1,e2,R.ok_bind]at h;by_cases hc:C i j=true
   · rw[if_pos hc]at h
     exact⟨i,j,g1.int (dI e1),g2.int (dI e2),hC i j hc,h _ H' (aD.refl _) (aI.sc (show Rep _ _ (.int (G i j)) _ from rfl))⟩
   · rw[if_neg hc]at h;exact h.elim
theorem aOf {G:Int->Int->Int}{F:Value->Value->Sem Value}(h:OpR X F (rI0 fun i j=>.int (G i j))):OpR X F (rI (fun _ _=>True) fun i j=>.int (G i j)) :=
 fun pins s σ H x y v u Q I rx ry ⟨i,j,e1,e2,_,q⟩=>h pins s σ H x y v u Q I rx ry ⟨i,j,e1,e2,q⟩
theorem kA (ha:PE X a (tE X.K P f))(hb:PE X b (tE X.K P g)):PE X (.BinOp a .Add b pos) (tE X.K P (cR f g)):=aCy (aOf aR2) (fun _ _ _=>trivial) ha hb
theorem zT (ha:PE X a (tE X.K P f))(hb:PE X b (tE X.K P g)):PE X (.BinOp a .Sub b pos) (tE X.K P (mK f g)):=aCy (aOf aPz) (fun _ _ _=>trivial) ha hb
theorem kF (ha:PE X a (tE X.K P f))(hb:PE X b (tE X.K P g)):PE X (.BinOp a .Mult b pos) (tE X.K P (cX f g)):=aCy aMp (fun i j h=>by
 unfold CM at h;simp at h;exact h) ha hb
theorem aDw (ha:PE X a (tE X.K P f))(hb:PE X b (tE X.K P g)):PE X (.BinOp a .FloorDiv b pos) (tE X.K P (kI f g)):=aCy aIy (fun i j h=>by
 unfold CD at h;simp at h;exact h) ha hb
theorem rY (ha:PE X a (tE X.K P f))(hb:PE X b (tE X.K P g)):PE X (.BinOp a .Mod b pos) (tE X.K P (gZ f g)):=aCy aQ9 (fun i j h=>by
 unfold CP at h;simp at h;exact h) ha hb
theorem aKi (ha:PE X a (tE X.K P f)):PE X (.UnaryOp .USub a pos) (tE X.K P (nA f)):=by
 refine PE.imp (aUo aQq ha) ?_
 intro σ H Q h;refine t1 (q:=fun x H2=>rU (fun i=>.int (-i)) x H2 Q) h ?_
 intro H0 B ρ v H' r d g1 s h;cases e1:asI r.d with
 | stk=>simp[e1]at h
 | exc x=>exact(cM e1).elim
 | ok i =>
  simp only[e1,R.ok_bind]at h;exact⟨i,g1.int (dI e1),h _ H' (aD.refl _) (aI.sc (show Rep _ _ (.int (-i)) _ from rfl))⟩
theorem aOx {G:Int->Int->Bool}(σ:St)(H:Hp)(Q:VK)(h:tE X.K P (aIs G f g) σ H Q):tOp (rI0 fun i j=>.bl (G i j)) (tE X.K P f) (tE X.K P g) σ H Q:=by
 refine t2 (q:=fun x y H2=>rI0 (fun i j=>.bl (G i j)) x y H2 Q) h ?_
 intro H0 B ρ v w H' r r' d g1 g2 s h;cases e1:asI r.d with
 | stk=>simp[e1]at h
 | exc x=>exact(cM e1).elim
 | ok i =>
  cases e2:asI r'.d with
  | stk=>simp[e1,e2]at h
  | exc x=>exact(cM e2).elim
  | ok j =>
   simp only[e1,e2,R.ok_bind]at h;exact⟨i,j,g1.int (dI e1),g2.int (dI e2),h _ H' (aD.refl _) (aI.sc (show Rep _ _ (.bl (G i j)) _ from rfl))⟩
mutual
theorem Rep.has {G H:Hp}(s:aD G H):∀ {d:D} {p:PyData} {v:V},gB d=some p->Rep X.K G d v->Has X.K H v p
 | .non,_,_,e,h=>by simp[gB]at e;subst e;rw[show _=V.non from h];exact .non
 | .bl b,_,_,e,h=>by simp[gB]at e;subst e;rw[show _=V.bl b from h];exact .bl b
 | .int i,_,_,e,h=>by simp[gB]at e;subst e;rw[show _=V.int i from h];exact .int i
 | .str x,_,_,e,h=>by simp[gB]at e;subst e;rw[show _=V.str x from h];exact .str x
 | .lst ds,_,_,e,⟨a,xs,h1,h2,h3⟩=>by
  simp[gB]at e
  obtain⟨ps,e1,e2⟩:=e;subst e2;subst h1;exact .lst (.inl (aD.rd s h2)) (aE.has s e1 h3)
 | .tup ds,_,_,e,⟨a,xs,h1,h2,h3⟩=>by
  simp[gB]at e
  obtain⟨ps,e1,e2⟩:=e;subst e2;subst h1;exact .tup (.inl (.inl (s _ _ h2))) (aE.has s e1 h3)
 | .obj _ _,_,_,e,_=>by simp[gB]at e
 | .any,_,_,e,_=>by simp[gB]at e
 | .dct _ _,_,_,e,_=>by simp[gB]at e
 | .exc _ _,_,_,e,_=>by simp[gB]at e
theorem aE.has {G H:Hp}(s:aD G H):∀ {ds:List D} {ps:List PyData} {vs:List V},mC ds=some ps->aE X.K G ds vs->HasAll X.K H vs ps
 | [],_,_,e,h=>by simp[mC]at e;subst e;rw[show _=[] from h];exact .nil
 | d :: r,_,_,e,⟨x,xr,h1,h2,h3⟩=>by
  simp[mC,Option.bind_eq_some_iff]at e
  obtain⟨p,e1,q,e2,e3⟩:=e;subst e3;subst h1;exact .cons (Rep.has s e1 h2) (aE.has s e2 h3)
end
theorem aI.has {H0 H H':Hp}{B:Addr->Prop}{v:V}{r:Res}{p:PyData}(g:aI X.K H0 H H' B v r)(e:gB r.d=some p):Has X.K H' v p:=by
 cases k:r.d with
 | lst ds =>
  obtain⟨a,xs,h1,h2,h3⟩:=g.list k;rw[k]at e;simp[gB]at e
  obtain⟨ps,e1,e2⟩:=e;subst e2;subst h1;exact .lst (.inl h2) (aE.has fV e1 h3)
 | dct ks ds=>rw[k]at e;simp[gB]at e
 | _=>exact Rep.has fV e (g.shr_of (by rw[k];rfl))
theorem aJy {x y:D}{z:Xc}(h:lB x y=.exc z):False:=by
 unfold lB at h;split at h
 · split at h<;>cases h
 · cases h
theorem aG3 {n:Bool->Bool}(σ:St)(H:Hp)(Q:VK)(h:tE X.K P (fun ρ=>f ρ >>= fun x=>g ρ >>= fun y=>lB x.d y.d >>= fun t=>.ok (sc (.bl (n t)))) σ H Q) :
 tOp (fun x y H Q=>∃ d e,Has X.K H x d/\Has X.K H y e/\SeqAt.shaped d=true/\SeqAt.shaped e=true/\Q (.bl (n (PyData.eqv d e))) H) (tE X.K P f) (tE X.K P g) σ H Q:=by
 refine t2 (q:=fun x y H2=>∃ d e,Has X.K H2 x d/\Has X.K H2 y e/\SeqAt.shaped d=true/\SeqAt.shaped e=true/\Q (.bl (n (PyData.eqv d e))) H2) h ?_
 intro H0 B ρ v w H' r r' d g1 g2 s h;cases e1:lB r.d r'.d with
 | stk=>simp[e1]at h
 | exc x=>exact(aJy e1).elim
 | ok t =>
  simp only[e1,R.ok_bind]at h;unfold lB at e1;split at e1
  · rename_i p q hp hq
    split at e1
    · rename_i hs
      rw[Df]at hs;cases e1;exact⟨p,q,g1.has hp,g2.has hq,hs.1,hs.2,h _ H' (aD.refl _) (aI.sc (show Rep _ _ (.bl _) _ from rfl))⟩
    · cases e1
  · cases e1
theorem aBs {d:D}{x:Xc}(h:aFh d=.exc x):False:=by
 cases d<;>cases h
theorem aI.isN {H0 H H':Hp}{B:Addr->Prop}{v:V}{r:Res}(g:aI X.K H0 H H' B v r){b:Bool}(hb:aFh r.d=.ok b):decide (v=.non)=b:=by
 suffices h:decide (v=.non)=aUd r.d by
  rw[h];cases k:r.d<;>rw[k]at hb<;>first | (cases hb;rfl) | cases hb
 cases k:r.d with
 | lst ds =>
  obtain⟨a,xs,h1,_⟩:=g.list k;rw[h1];rfl
 | dct ks ds =>
  obtain⟨a,xs,h1,_⟩:=g.dict k;rw[h1];rfl
 | any=>rw[k]at hb;cases hb
 | non=>have:=g.shr_of (by rw[k];rfl);rw[k]at this;rw[show v=.non from this];rfl
 | bl b=>have:=g.shr_of (by rw[k];rfl);rw[k]at this;rw[show v=.bl b from this];rfl
 | int b=>have:=g.shr_of (by rw[k];rfl);rw[k]at this;rw[show v=.int b from this];rfl
 | str b=>have:=g.shr_of (by rw[k];rfl);rw[k]at this;rw[show v=.str b from this];rfl
 | tup b=>have:=g.shr_of (by rw[k];rfl);rw[k]at this;obtain⟨a,_,h1,_⟩:=this;rw[h1];rfl
 | obj c b=>have:=g.shr_of (by rw[k];rfl);rw[k]at this;obtain⟨a,_,_,h1,_⟩:=this;rw[h1];rfl
 | exc c b=>have:=g.shr_of (by rw[k];rfl);rw[k]at this;obtain⟨_,a,h1,_⟩:=this;rw[h1];rfl
theorem aOk (σ:St)(H:Hp)(Q:VK)(h:tE X.K P (aBx f) σ H Q):aVc (tE X.K P f) σ H Q:=by
 refine t1 (q:=fun x H1=>Q (.bl (decide (x=.non))) H1) h ?_
 intro H0 B ρ v H' r d g1 s h;cases e1:aFh r.d with
 | stk=>simp[e1]at h
 | exc x=>exact(aBs e1).elim
 | ok b =>
  simp only[e1,R.ok_bind]at h;rw[g1.isN e1];exact h _ H' (aD.refl _) (aI.sc (show Rep _ _ (.bl _) _ from rfl))
theorem aPb (σ:St)(H:Hp)(Q:VK)(h:tE X.K P (aBr f) σ H Q):aOy (tE X.K P f) σ H Q:=by
 refine t1 (q:=fun x H1=>Q (.bl (!decide (x=.non))) H1) h ?_
 intro H0 B ρ v H' r d g1 s h;cases e1:aFh r.d with
 | stk=>simp[e1]at h
 | exc x=>exact(aBs e1).elim
 | ok b =>
  simp only[e1,R.ok_bind]at h;rw[g1.isN e1];exact h _ H' (aD.refl _) (aI.sc (show Rep _ _ (.bl _) _ from rfl))
theorem aDu {σ:St}{H:Hp}{Q:Bool->Hp->Prop}(h:tT X.K P (bT f) σ H Q):tE X.K P f σ H fun x H1=>∃ k,x=.bl k/\Q k H1:=by
 obtain⟨H0,B,ρ,d,h⟩:=h;unfold bT at h;cases e:f ρ with
 | stk=>simp[e]at h
 | exc x=>simp[e]at h;exact dA d e h
 | ok r =>
  cases e1:asB r.d with
  | stk=>simp[e,e1]at h
  | exc x=>exact(aE0 e1).elim
  | ok t =>
   simp[e,e1]at h
   exact eV d e fun v H' s d' g'=>⟨t,g'.bl (aHe e1),h H' s⟩
theorem aWe (hu:X.A.units+64<cLine)(ha:PE X a (tE X.K P f))(hb:PE X b (tE X.K P g)):PE X (.Compare a [.Eq] [b] pos) (tE X.K P (eqE f g)):=PE.imp (aLo (aIa hu) ha hb (rZ _)) (aG3 (n:=id))
theorem aUl {j p'}(ha:PE X a (tE X.K P f)):PE X (.Compare a [.Is] [.Constant .none j p'] pos) (tE X.K P (aBx f)):=PE.imp (aIx (aJ2 ha)) aOk
theorem aQ3 {j p'}(ha:PE X a (tE X.K P f)):PE X (.Compare a [.IsNot] [.Constant .none j p'] pos) (tE X.K P (aBr f)):=PE.imp (aIx (aK2 ha)) aPb
theorem yH {op:CmpOp}{r:R2}(ho:OpR X (compareOp op) r)(ha:PE X a (tE X.K P f))(hb:PE X b (tE X.K P g))(hm:behindInMarks op b=false){F:FE}(himp:∀ σ H Q,tE X.K P F σ H Q->tOp r (tE X.K P f) (tE X.K P g) σ H Q) :
 PT X (.Compare a [op] [b] pos) (tT X.K P (bT F)):=by
 refine PT.imp (aNs ho ha hb hm) ?_
 intro σ H Q h;exact himp σ H _ (aDu h)
theorem aBl (ha:PE X a (tE X.K P f))(hb:PE X b (tE X.K P g)):PT X (.Compare a [.Lt] [b] pos) (tT X.K P (bT (ltE f g))):=yH aTi ha hb (rZ _) aOx
theorem aOs (ha:PE X a (tE X.K P f))(hb:PE X b (tE X.K P g)):PT X (.Compare a [.Gt] [b] pos) (tT X.K P (bT (gtE f g))):=yH aUn ha hb (rZ _) aOx
theorem wP (hu:X.A.units+64<cLine)(ha:PE X a (tE X.K P f))(hb:PE X b (tE X.K P g)):PT X (.Compare a [.Eq] [b] pos) (tT X.K P (bT (eqE f g))):=yH (aIa hu) ha hb (rZ _) (aG3 (n:=id))
theorem pA (hu:X.A.units+64<cLine)(ha:PE X a (tE X.K P f))(hb:PE X b (tE X.K P g)):PT X (.Compare a [.NotEq] [b] pos) (tT X.K P (bT (neE f g))):=yH (aRp hu) ha hb (rZ _) (aG3 (n:=not))
theorem aQ4 {j p'}(ha:PE X a (tE X.K P f)):PT X (.Compare a [.Is] [.Constant .none j p'] pos) (tT X.K P (bT (aBx f))):=PT.imp (aR9 (aJ2 ha)) fun σ H Q h=>aOk σ H _ (aDu h)
variable {t u:FT}{rest:List Expr}
theorem tT1 {k:Bool->R Bool}{σ:St}{H:Hp}{Q:Bool->Hp->Prop}{q:Bool->Hp->Prop}(h:tT X.K P (fun ρ=>t ρ >>= k) σ H Q)
 (hk:∀ c H',aD H H'->(match k c with
  | .ok b=>∀ H1,aD H' H1->Q b H1
  | .exc x=>P.p x σ H'
  | .stk=>False)->q c H'):tT X.K P t σ H q:=by
 obtain⟨H0,B,ρ,d,h⟩:=h;cases e:t ρ with
 | stk=>simp[e]at h
 | exc x=>simp[e]at h;exact⟨H0,B,ρ,d,by rw[e];exact h⟩
 | ok c =>
  simp[e]at h
  refine⟨H0,B,ρ,d,?_⟩
  rw[e];intro H' s;refine hk c H' s ?_
  cases e2:k c with
  | stk=>rw[e2]at h;exact h
  | exc x=>rw[e2]at h;exact P.mono h s
  | ok b=>rw[e2]at h;exact fun H1 s1=>h H1 (s.trans s1)
theorem aQk (h:PT X a (tT X.K P t)):PT X (.UnaryOp .Not a pos) (tT X.K P (aCn t)):=by
 refine PT.imp (aRw h) ?_
 intro σ H Q h;exact tT1 (q:=fun c H1=>Q (!c) H1) h fun c H' s h=>h H' (aD.refl _)
theorem tT2 {σ:St}{H:Hp}{Q:Bool->Hp->Prop}{stop:Bool}{h2:Hp->Prop}
 (h:tT X.K P (fun ρ=>t ρ >>= fun b=>if b=stop then .ok stop else u ρ) σ H Q):tT X.K P t σ H fun c H1=>if c=stop then Q stop H1 else tT X.K P u σ H1 Q:=by
 obtain⟨H0,B,ρ,d,h⟩:=h;cases e:t ρ with
 | stk=>simp[e]at h
 | exc x=>simp[e]at h;exact⟨H0,B,ρ,d,by rw[e];exact h⟩
 | ok c =>
  simp only[e,R.ok_bind]at h;refine⟨H0,B,ρ,d,?_⟩
  rw[e];intro H' s;by_cases hc:c=stop
  · rw[if_pos hc]at h ⊢
    exact h H' s
  · rw[if_neg hc]at h ⊢
    refine⟨H0,B,ρ,d.mono s,?_⟩
    cases e2:u ρ with
    | stk=>rw[e2]at h;exact h
    | exc x=>rw[e2]at h;exact P.mono h s
    | ok b=>rw[e2]at h;exact fun H1 s1=>h H1 (s.trans s1)
theorem aR1:orT t u=fun ρ=>t ρ >>= fun b=>if b=true then .ok true else u ρ:=by
 funext ρ
 unfold orT;cases t ρ with
 | ok b=>cases b<;>rfl
 | _=>rfl
theorem aR5 (ha:PT X a (tT X.K P t)):PW X (.BoolOp .Or [a] pos) (tT X.K P t):=aPm ha
theorem PW.imp {e:Expr}{t t':TT}(p:PW X e t)(h:∀ σ H Q,t' σ H Q->t σ H Q):PW X e t':=fun wh pins s σ H Q I q=>p wh pins s σ H Q I (h σ H Q q)
theorem aS2 (ha:PT X a (tT X.K P t))(hb:PW X (.BoolOp .Or (b :: rest) pos) (tT X.K P u)):PW X (.BoolOp .Or (a :: b :: rest) pos) (tT X.K P (orT t u)):=by
 refine PW.imp (aS1 ha hb) ?_
 intro σ H Q h;rw[aR1]at h;exact tT2 (h2:=fun _=>True) h
end Mir
namespace Mir
open PySem L2
variable {X:Cx}{P:XP}{a b c e:Expr}{es:List Expr}{f g:FE}{fs:FEs}{pos:Pos}
def dY (K:PySem.W.Frag)(H0 H H':Hp)(B:Addr->Prop):List V->List Res->Prop
 | [],rs=>rs=[]
 | v :: vs,rs=>∃ r rr,rs=r :: rr/\aI K H0 H H' B v r/\dY K H0 H H' B vs rr
theorem aI.old {K:PySem.W.Frag}{H0 H H1 H2:Hp}{B:Addr->Prop}{v:V}{r:Res}(s:aD H H1)(g:aI K H0 H1 H2 B v r):aI K H0 H H2 B v r:=by
 unfold aI at g ⊢;cases k:r.k with
 | shr=>rw[k]at g;exact g
 | own=>rw[k]at g;exact g
 | tmp=>rw[k]at g;obtain⟨a,o,h1,h2,h3⟩:=g;exact⟨a,o,h1,s.none h2,h3⟩
 | old=>rw[k]at g;exact g
theorem dY.old {K:PySem.W.Frag}{H0 H H1 H2:Hp}{B:Addr->Prop}(s:aD H H1):∀ {vs:List V} {rs:List Res},dY K H0 H1 H2 B vs rs->dY K H0 H H2 B vs rs
 | [],_,h=>h
 | _ :: _,_,⟨r,rr,e,g,gs⟩=>⟨r,rr,e,g.old s,dY.old s gs⟩
theorem dY.len {K:PySem.W.Frag}{H0 H H1:Hp}{B:Addr->Prop}:∀ {vs:List V} {rs:List Res},dY K H0 H H1 B vs rs->vs.length=rs.length
 | [],rs,h=>by have e:rs=[]:=h;rw[e];rfl
 | _ :: _,_,⟨r,rr,e,g,gs⟩=>by rw[e];simp[dY.len gs]
def tAs (K:PySem.W.Frag)(P:XP)(fs:FEs):TA:=fun σ H Q=>∃ H0 B ρ,DenE K H0 H B σ ρ/\match evs fs ρ with
 | .ok rs=>∀ vs H',aD H H'->dY K H0 H H' B vs rs->Q vs H'
 | .exc x=>P.p x σ H
 | .stk=>False
theorem PA.imp {t t':TA}(p:PA X es t)(h:∀ σ H Q,t' σ H Q->t σ H Q):PA X es t':=fun pos pins s σ H Q I q=>p pos pins s σ H Q I (h σ H Q q)
theorem aO:PA X [] (tAs X.K P []):=PA.imp xB fun σ H Q ⟨H0,B,ρ,d,h⟩=>h [] H (aD.refl H) rfl
theorem aA (ha:PE X e (tE X.K P f))(hr:PA X es (tAs X.K P fs))(hs:starEach (e :: es) X.env=(false,eval e X.env) :: starEach es X.env:=by rfl):PA X (e :: es) (tAs X.K P (f :: fs)):=by
 refine PA.imp (nQ ha hr hs) ?_
 rintro σ H Q ⟨H0,B,ρ,d,h⟩
 unfold evs at h;show tE X.K P f σ H fun x H1=>tAs X.K P fs σ H1 fun xs H2=>Q (x :: xs) H2
 cases e1:f ρ with
 | stk=>simp[e1]at h
 | exc x=>simp[e1]at h;exact dA d e1 h
 | ok r =>
  simp only[e1,R.ok_bind]at h;refine eV d e1 fun v H1 s1 d1 g1=>⟨H0,B,ρ,d1,?_⟩
  cases e2:evs fs ρ with
  | stk=>simp[e2]at h
  | exc x=>simp[e2]at h;exact P.mono h s1
  | ok rs =>
   simp only[e2,R.ok_bind]at h;exact fun vs H2 s2 gs=>h (v :: vs) H2 (s1.trans s2) ⟨r,rs,rfl,g1.mono s2,gs.old s1⟩
theorem tA1 {k:List Res->R Res}{σ:St}{H:Hp}{Q:VK}{q:List V->Hp->Prop}(h:tE X.K P (fun ρ=>evs fs ρ >>= k) σ H Q)
 (hk:∀ H0 B ρ vs H' rs,DenE X.K H0 H B σ ρ->DenE X.K H0 H' B σ ρ->dY X.K H0 H H' B vs rs->aD H H'->(match k rs with
  | .ok r1=>∀ v1 H1,aD H' H1->aI X.K H0 H H1 B v1 r1->Q v1 H1
  | .exc x=>P.p x σ H'
  | .stk=>False)->q vs H'):tAs X.K P fs σ H q:=by
 obtain⟨H0,B,ρ,d,h⟩:=h;refine⟨H0,B,ρ,d,?_⟩
 cases e:evs fs ρ with
 | stk=>simp[e]at h
 | exc x=>simp[e]at h;exact h
 | ok rs =>
  simp only[e,R.ok_bind]at h;intro vs H' s gs;refine hk H0 B ρ vs H' rs d (d.mono s) gs s ?_
  cases e2:k rs with
  | stk=>rw[e2]at h;exact h
  | exc x=>rw[e2]at h;exact P.mono h s
  | ok r1=>rw[e2]at h;exact fun v1 H1 s1 g1=>h v1 H1 (s.trans s1) g1
theorem dY.gives {K:PySem.W.Frag}{H0 H H':Hp}{B:Addr->Prop}{σ:St}{ρ:Env}(den:DenE K H0 H B σ ρ):∀ {vs:List V} {rs:List Res} {y:Bool×List D},dY K H0 H H' B vs rs->gives rs=.ok y->aE K (aU y.1 H0 H' B) y.2 vs
 | [],_,y,h,e=>by rw[show _=[] from h]at e;simp[Mir.gives]at e;subst e;rfl
 | v :: vs,_,y,⟨r,rr,e1,g,gs⟩,e=>by
  subst e1;simp only[Mir.gives]at e;cases e2:r.give with
  | stk=>simp[e2]at e
  | exc x=>simp[e2]at e
  | ok r' =>
   cases e3:Mir.gives rr with
   | stk=>simp[e2,e3]at e
   | exc x=>simp[e2,e3]at e
   | ok y' =>
    simp only[e2,e3,R.ok_bind]at e;cases e;obtain⟨q1,q2⟩:=g.give den e2;have q3:=dY.gives den gs e3;subst q1
    have w:∀ {fr fr':Bool} {d:D} {v:V},Rep K (aU fr H0 H' B) d v->Rep K (aU (fr&&fr') H0 H' B) d v:=fun {fr fr' d v} h=>by
     cases fr' with
     | true=>simpa using h
     | false=>simp;exact Rep.same iN h
    have w2:∀ {fr fr':Bool} {d:List D} {v:List V},aE K (aU fr' H0 H' B) d v->aE K (aU (fr&&fr') H0 H' B) d v:=fun {fr fr' d v} h=>by
     cases fr with
     | true=>simpa using h
     | false=>simp;exact aE.same iN h
    exact⟨v,vs,rfl,w q2,w2 q3⟩
theorem iO {x:Xc}:∀ {rs:List Res},gives rs=.exc x->False
 | [],h=>by simp[gives]at h
 | r :: rs,h=>by
  simp only[gives]at h;cases e2:r.give with
  | stk=>simp[e2]at h
  | exc x=>unfold Res.give at e2;split at e2<;>cases e2
  | ok r' =>
   cases e3:gives rs with
   | stk=>simp[e2,e3]at h
   | exc x=>exact iO e3
   | ok y=>simp[e2,e3]at h
theorem gV {K:PySem.W.Frag}{H0 H H':Hp}{B:Addr->Prop}{σ:St}{ρ:Env}{p:Addr}{vs:List V}{ds:List D}{fr:Bool}(den:DenE K H0 H' B σ ρ)(s:aD H H')(hp:H' p=none)(r:aE K (aU fr H0 H' B) ds vs) :
 aI K H0 H (upd H' p (.lst vs)) B (.ref p) ⟨.tmp,fr,.lst ds⟩:=by
 refine⟨p,_,rfl,s.none hp,aX,.lst (aE.same (aP (fun b o e _=>aD.upd_new hp b o e) fun b z=>?_) r)⟩
 rcases z with z | z
 · exact .inl z
 · exact .inr (by rw[z];exact hp)
theorem aDm {K:PySem.W.Frag}{H0 H':Hp}{B:Addr->Prop}{σ:St}{ρ:Env}{p:Addr}{vs:List V}{ds:List D}{fr:Bool}(den:DenE K H0 H' B σ ρ)(hp:H' p=none)(r:aE K (aU fr H0 H' B) ds vs) :
 Rep K (aU fr H0 (upd H' p (.tup vs)) B) (.tup ds) (.ref p):=by
 refine⟨p,vs,rfl,aM.mpr ⟨fun z=>?_,aX⟩,aE.same (aP (fun b o e _=>aD.upd_new hp b o e) fun b z=>.inl z) r⟩
 rcases z with z | ⟨_,o,z,_⟩
 · obtain⟨o,q,_⟩:=den.bnd p z;rw[hp]at q;cases q
 · rw[den.sam _ _ z]at hp;cases hp
theorem kW (h:PA X es (tAs X.K P fs)):PE X (.List es pos) (tE X.K P (dF fs)):=by
 refine PE.imp (aRy h) ?_
 intro σ H Q h;refine tA1 h ?_
 intro H0 B ρ vs H' rs d0 d gs s h;cases e:gives rs with
 | stk=>simp[e]at h
 | exc x=>exact(iO e).elim
 | ok y =>
  simp only[e,R.ok_bind]at h;have r:=gs.gives d0 e;by_cases hz:y.2.length<=sizeLine
  · rw[if_pos hz]at h
    exact⟨by rw[←r.length];exact hz,fun p hp=>h _ _ (aD.upd_new hp) (gV d s hp r)⟩
  · rw[if_neg hz]at h;exact h.elim
theorem tK {x1}(h:PA X es (tAs X.K P fs)):PE X (.Tuple es x1 pos) (tE X.K P (eW fs)):=by
 refine PE.imp (aP2 h) ?_
 intro σ H Q h;refine tA1 h ?_
 intro H0 B ρ vs H' rs d0 d gs s h;cases e:gives rs with
 | stk=>simp[e]at h
 | exc x=>exact(iO e).elim
 | ok y =>
  simp only[e,R.ok_bind]at h;have r:=gs.gives d0 e;by_cases hz:y.2.length<=sizeLine
  · rw[if_pos hz]at h
    exact⟨by rw[←r.length];exact hz,fun p hp=>h _ _ (aD.upd_new hp) (aDm d hp r)⟩
  · rw[if_neg hz]at h;exact h.elim
theorem aI.seq {K:PySem.W.Frag}{H0 H H':Hp}{B:Addr->Prop}{v:V}{r:Res}{ds:List D}(g:aI K H0 H H' B v r)(e:asS r.d=.ok ds):∃ a xs,v=.ref a/\(Rd H' a (.lst xs)\/H' a=some (.tup xs))/\aE K (aU r.fr H0 H' B) ds xs:=by
 rcases aB8 e with e | e
 · obtain⟨a,xs,h1,h2,h3⟩:=g.list e
   exact⟨a,xs,h1,.inl h2,h3⟩
 · obtain⟨a,xs,h1,h2,h3⟩:=g.tuple e
   exact⟨a,xs,h1,.inr h2,h3⟩
theorem sX {k:Res->R Res}{rule:List V->Hp->VK->Prop}{σ:St}{H:Hp}{Q:VK}(h:tE X.K P (fun ρ=>f ρ >>= k) σ H Q)
 (hk:∀ H0 B ρ v H' r,DenE X.K H0 H B σ ρ->DenE X.K H0 H' B σ ρ->aI X.K H0 H H' B v r->aD H H'->(match k r with
  | .ok r1=>∀ v1 H1,aD H' H1->aI X.K H0 H H1 B v1 r1->Q v1 H1
  | .exc x=>P.p x σ H'
  | .stk=>False)->rule [v] H' Q):tCB rule (tAs X.K P [f]) σ H Q:=by
 show tAs X.K P [f] σ H fun vs H1=>rule vs H1 Q
 have e:(fun ρ=>evs [f] ρ >>= fun rs=>match rs with | [r]=>k r | _=>.stk)=fun ρ=>f ρ >>= k:=by
  funext ρ
  unfold evs;cases f ρ with
  | ok r=>rfl
  | _=>rfl
 rw[←e]at h;refine tA1 h ?_
 intro H0 B ρ vs H' rs d0 d gs s h;match vs,rs,gs with
 | [],rs,gs=>have e:rs=[]:=gs;subst e;exact h.elim
 | [v],_,⟨r,rr,e1,g1,g2⟩ =>
  subst e1;rw[show rr=[] from g2]at h
  exact hk H0 B ρ v H' r d0 d g1 s h
 | v :: w :: _,_,⟨r,rr,e1,g1,r2,rr2,e2,g2⟩ =>
  subst e1;subst e2;exact h.elim
variable {x:Str}{p:Pos}
theorem kB (hg:Gl X "len")(hm:X.mg "len" = none)(ha:PE X a (tE X.K P f))(he:starEach [a] X.env=[(false,eval a X.env)]:=by rfl):PE X (.Call (.Name "len" p) [a] [] pos) (tE X.K P (cB f)):=by
 refine PE.imp (iX xU hg hm PySem.boot_len (aA ha aO he) (he:=he)) ?_
 intro σ H Q h;refine sX h ?_
 intro H0 B ρ v H' r d0 d g s h;cases e:asS r.d with
 | stk=>simp[e]at h
 | exc x=>exact(lV e).elim
 | ok ds =>
  simp only[e,R.ok_bind]at h;obtain⟨a,xs,h1,h2,h3⟩:=g.seq e;exact⟨a,xs,by rw[h1],h2.imp .inl fun z=>.inl (.inl z),h _ H' (aD.refl _) (by rw[h3.length];exact aI.sc (show Rep _ _ (.int _) _ from rfl))⟩
theorem aIl (hg:Gl X "list")(hm:X.mg "list" = none)(ha:PE X a (tE X.K P f))(he:starEach [a] X.env=[(false,eval a X.env)]:=by rfl):PE X (.Call (.Name "list" p) [a] [] pos) (tE X.K P (mT f)):=by
 refine PE.imp (pK xJ hg hm (by decide +kernel) (aA ha aO he) (he:=he)) ?_
 intro σ H Q h;refine sX h ?_
 intro H0 B ρ v H' r d0 d g s h;cases e:asS r.d with
 | stk=>simp[e]at h
 | exc x=>exact(lV e).elim
 | ok ds =>
  simp only[e,R.ok_bind]at h;obtain⟨a,xs,h1,h2,h3⟩:=g.seq e;exact⟨a,xs,by rw[h1],h2.imp .inl fun z=>.inl (.inl z),fun l hl=>h _ _ (aD.upd_new hl) (gV d s hl h3)⟩
theorem aT8 (hg:Gl X "tuple")(hm:X.mg "tuple" = none)(ha:PE X a (tE X.K P f))(he:starEach [a] X.env=[(false,eval a X.env)]:=by rfl):PE X (.Call (.Name "tuple" p) [a] [] pos) (tE X.K P (aGl f)):=by
 refine PE.imp (pK uV hg hm (by decide +kernel) (aA ha aO he) (he:=he)) ?_
 intro σ H Q h;refine sX h ?_
 intro H0 B ρ v H' r d0 d g s h;cases e:asS r.d with
 | stk=>simp[e]at h
 | exc x=>exact(lV e).elim
 | ok ds =>
  simp only[e,R.ok_bind]at h;rcases aB8 e with e' | e'
  · obtain⟨a,xs,h1,h2,h3⟩:=g.list e'
    exact⟨a,xs,by rw[h1],.inl ⟨.inl h2,fun l hl=>h _ _ (aD.upd_new hl) (aDm d hl h3)⟩⟩
  · obtain⟨a,xs,h1,h2,h3⟩:=g.tuple e'
    have:=g.shr_of (by rw[e'];rfl)
    rw[e',h1]at this;exact⟨a,xs,by rw[h1],.inr ⟨.inl (.inl h2),h _ H' (aD.refl _) this⟩⟩
theorem aDq {K:PySem.W.Frag}{G:Hp}{ds:List D}{xs:List V}{j:Int}{d:D}(r:aE K G ds xs)(e:atI ds j=some d):∃ v,atI xs j=some v/\Rep K G d v:=by
 unfold atI at e ⊢;rw[←r.length];cases q:ixN ds.length j with
 | none=>rw[q]at e;cases e
 | some n=>rw[q]at e;exact r.get e
theorem aTf {σ:St}{H:Hp}{Q:VK}(h:tE X.K P (bG f g) σ H Q):tOp (fun x y H Q=>aLj X.K x y H Q\/aN1 X.K x y H Q) (tE X.K P f) (tE X.K P g) σ H Q:=by
 refine t2 (q:=fun x y H2=>aLj X.K x y H2 Q\/aN1 X.K x y H2 Q) h ?_
 intro H0 B ρ v w H' r r' d g1 g2 s h;cases e1:asS r.d with
 | stk=>simp[e1]at h
 | exc x=>exact(lV e1).elim
 | ok ds =>
  cases e2:asI r'.d with
  | stk=>simp[e1,e2]at h
  | exc x=>exact(cM e2).elim
  | ok j =>
   simp only[e1,e2,R.ok_bind]at h;cases e3:atI ds j with
   | none=>rw[e3]at h;exact h.elim
   | some dd =>
    rw[e3]at h;rcases aB8 e1 with e | e
    · obtain⟨a,xs,h1,h2,h3⟩:=g1.list e
      obtain⟨z,z1,z2⟩:=aDq h3 e3;exact .inl ⟨a,xs,j,z,h1,g2.int (dI e2),.inl h2,z1,h z H' (aD.refl _) (Rep.fr d.sam z2)⟩
    · obtain⟨a,xs,h1,h2,h3⟩:=g1.tuple e
      obtain⟨z,z1,z2⟩:=aDq h3 e3;exact .inr ⟨a,xs,j,z,h1,g2.int (dI e2),.inl (.inl h2),z1,h z H' (aD.refl _) (Rep.fr d.sam z2)⟩
theorem aQy:IxR X (fun x y H Q=>aLj X.K x y H Q\/aN1 X.K x y H Q):=by
 intro value slice pins s σ H x y v u Q I rx ry h hs;rcases h with h | h
 · exact aNh value slice pins s σ H x y v u Q I rx ry h hs
 · exact aR4 value slice pins s σ H x y v u Q I rx ry h hs
theorem eU (ha:PE X a (tE X.K P f))(hb:PE X b (tE X.K P g))(hs:aFe b:=by exact fun _ _=>rfl):PE X (.Subscript a b pos) (tE X.K P (bG f g)):=PE.imp (aVe aQy ha hb hs) fun σ H Q h=>aTf h
theorem Inv.rdL {pins:List (Addr×Obj)}{σ:St}{H:Hp}{s:Shared}{l:Addr}{xs:List V}(I:Inv X pins σ H s)(h:Rd H l (.lst xs)):xs.length<=sizeLine/\∃ (its:List Value) (n:Nat),bA xs its/\s.heap.get? l=some { cls:=.type "list",data:=.seq its.toArray n }:=h.ok I.hok
def aOm:R2:=fun x y H Q=>∃ l b xs zs,x=.ref l/\y=.ref b/\Rd H l (.lst xs)/\Rd H b (.lst zs)/\xs.length+zs.length<=sizeLine/\∀ p,H p=none->Q (.ref p) (upd H p (.lst (xs++zs)))
theorem aMh:OpR X (binaryOp .Add) aOm:=by
 intro pins s σ H x y v u Q I rx ry h;obtain⟨l,b,xs,zs,rfl,rfl,hH,hB,hz,q⟩:=h;cases rx;cases ry;obtain⟨z,its,n,r,e⟩:=Inv.rdL I hH;obtain⟨z2,its2,n2,r2,e2⟩:=Inv.rdL I hB;have hl:=r.length;have hl2:=r2.length;refine PySem.P.add_list e e2 ?_ (by rw[Aq,Aq];omega)
 have ea:its.toArray++its2.toArray=(its++its2).toArray:=by simp
 rw[ea];exact⟨.ref _,_,I.lnew (t':=s.toks) (r.append r2) (by rw[Ak];omega),rfl,q _ I.fresh⟩
theorem aE.andL {K:PySem.W.Frag}{H0 H:Hp}{B:Addr->Prop}{fr fr':Bool}{ds:List D}{vs:List V}(h:aE K (aU fr H0 H B) ds vs):aE K (aU (fr&&fr') H0 H B) ds vs:=by
 cases fr' with
 | true=>simpa using h
 | false=>simp;exact aE.same iN h
theorem aE.andR {K:PySem.W.Frag}{H0 H:Hp}{B:Addr->Prop}{fr fr':Bool}{ds:List D}{vs:List V}(h:aE K (aU fr' H0 H B) ds vs):aE K (aU (fr&&fr') H0 H B) ds vs:=by
 cases fr with
 | true=>simpa using h
 | false=>simp;exact aE.same iN h
theorem nH (ha:PE X a (tE X.K P f))(hb:PE X b (tE X.K P g)):PE X (.BinOp a .Add b pos) (tE X.K P (eN f g)):=by
 refine PE.imp (aKk aMh ha hb) ?_
 intro σ H Q h;refine t2 (q:=fun x y H2=>aOm x y H2 Q) h ?_
 intro H0 B ρ v w H' r r' d g1 g2 s h;cases e1:asL r.d with
 | stk=>simp[e1]at h
 | exc x=>exact(eF e1).elim
 | ok xs =>
  cases e2:asL r'.d with
  | stk=>simp[e1,e2]at h
  | exc x=>exact(eF e2).elim
  | ok ys =>
   simp only[e1,e2,R.ok_bind]at h;obtain⟨a1,xs1,h1,h2,h3⟩:=g1.list (dE e1);obtain⟨a2,xs2,k1,k2,k3⟩:=g2.list (dE e2);by_cases hz:xs.length+ys.length<=sizeLine
   · rw[if_pos hz]at h
     exact⟨a1,a2,xs1,xs2,h1,k1,h2,k2,by rw[←h3.length,←k3.length];exact hz,fun p hp=>h _ _ (aD.upd_new hp) (gV d s hp (h3.andL.append k3.andR))⟩
   · rw[if_neg hz]at h;exact h.elim
def tO (K:PySem.W.Frag)(P:XP)(f:FO):TO:=fun σ H Q=>∃ H0 B ρ,DenE K H0 H B σ ρ/\match f ρ with
 | .ok o=>∀ H',aD H H'->Q o H'
 | .exc x=>P.p x σ H
 | .stk=>False
theorem PO.imp {e:Option Expr}{t t':TO}(p:PO X e t)(h:∀ σ H Q,t' σ H Q->t σ H Q):PO X e t':=fun pins s σ H Q I q=>p pins s σ H Q I (h σ H Q q)
theorem tY:PO X none (tO X.K P noO):=PO.imp aK9 fun σ H Q ⟨H0,B,ρ,d,h⟩=>h H (aD.refl H)
theorem lE (ha:PE X a (tE X.K P f)):PO X (some a) (tO X.K P (soO f)):=by
 refine PO.imp (aM3 ha) ?_
 rintro σ H Q ⟨H0,B,ρ,d,h⟩
 unfold soO at h;show tE X.K P f σ H fun x H1=>∃ i,x=.int i/\Q (some i) H1
 cases e:f ρ with
 | stk=>simp[e]at h
 | exc x=>simp[e]at h;exact dA d e h
 | ok r =>
  cases e1:asI r.d with
  | stk=>simp[e,e1]at h
  | exc x=>exact(cM e1).elim
  | ok i =>
   simp only[e,e1,R.ok_bind]at h;exact eV d e fun v H' s d' g'=>⟨i,g'.int (dI e1),h H' s⟩
theorem nS {lo hi:Option Expr}{fl fh:FO}{p2:Pos}(ha:PE X a (tE X.K P f))(hl:PO X lo (tO X.K P fl))(hh:PO X hi (tO X.K P fh)):PE X (.Subscript a (.Slice lo hi none p2) pos) (tE X.K P (eI f fl fh)):=by
 refine PE.imp (aJk aNz ha hl hh) ?_
 rintro σ H Q ⟨H0,B,ρ,d,h⟩
 unfold eI at h;show tE X.K P f σ H fun x H1=>tO X.K P fl σ H1 fun l H2=>tO X.K P fh σ H2 fun u H3=>aT0 X.K x l u H3 Q
 cases e:f ρ with
 | stk=>simp[e]at h
 | exc x=>simp[e]at h;exact dA d e h
 | ok r =>
  simp only[e,R.ok_bind]at h;refine eV d e fun v H1 s1 d1 g1=>⟨H0,B,ρ,d1,?_⟩
  cases e1:fl ρ with
  | stk=>simp[e1]at h
  | exc x=>simp[e1]at h;exact P.mono h s1
  | ok l =>
   simp only[e1,R.ok_bind]at h;intro H2 s2;refine⟨H0,B,ρ,d1.mono s2,?_⟩
   cases e2:fh ρ with
   | stk=>simp[e2]at h
   | exc x=>simp[e2]at h;exact P.mono h (s1.trans s2)
   | ok u =>
    simp only[e2,R.ok_bind]at h;intro H3 s3;cases e3:asL r.d with
    | stk=>simp[e3]at h
    | exc x=>exact(eF e3).elim
    | ok ds =>
     simp only[e3,R.ok_bind]at h;obtain⟨a1,xs,h1,h2,h3⟩:=(g1.mono (s2.trans s3)).list (dE e3);have s:=(s1.trans s2).trans s3;refine⟨a1,xs,h1,.inl h2,fun p hp=>h _ _ (s.trans (aD.upd_new hp)) ?_⟩
     have q:aE X.K (aU r.fr H0 H3 B) (mQ ds l u) (aGe xs l u):=by
      unfold mQ aGe;rw[←h3.length];exact(h3.drop _).take _
     exact gV (d.mono s) s hp q
theorem aSl {rest:List Expr}(ha:PE X a (tE X.K P f))(hb:PE X (.BoolOp .And (b :: rest) pos) (tE X.K P g)):PE X (.BoolOp .And (a :: b :: rest) pos) (tE X.K P (aC6 f g)):=by
 refine PE.imp (aPe ha hb) ?_
 rintro σ H Q ⟨H0,B,ρ,d,h⟩
 unfold aC6 at h;show tE X.K P f σ H fun x H1=>∃ c,x=.bl c/\if c=true then tE X.K P g σ H1 Q else Q (.bl false) H1
 cases e:f ρ with
 | stk=>simp[e]at h
 | exc x=>simp[e]at h;exact dA d e h
 | ok r =>
  cases e1:asB r.d with
  | stk=>simp[e,e1]at h
  | exc x=>exact(aE0 e1).elim
  | ok t =>
   simp only[e,e1,R.ok_bind]at h;refine eV d e fun v H1 s1 d1 g1=>⟨t,g1.bl (aHe e1),?_⟩
   cases t with
   | false=>exact aHn (h _ H1 s1 (aI.sc (show Rep _ _ (.bl false) _ from rfl)))
   | true =>
    refine aI5 ⟨H0,B,ρ,d1,?_⟩
    rw[if_pos rfl]at h;cases e2:g ρ with
    | stk=>rw[e2]at h;exact h
    | exc x=>rw[e2]at h;exact P.mono h s1
    | ok r2=>rw[e2]at h;exact fun v2 H2 s2 g2=>h v2 H2 (s1.trans s2) (g2.old s1)
theorem aTd {op}(h:PE X a (tE X.K P f)):PE X (.BoolOp op [a] pos) (tE X.K P f):=aQb h
theorem aWf {t:FT}(hc:PT X c (tT X.K P t))(ha:PE X a (tE X.K P f))(hb:PE X b (tE X.K P g)):PE X (.IfExp c a b pos) (tE X.K P (ifE t f g)):=by
 refine PE.imp (aJc hc ha hb) ?_
 rintro σ H Q ⟨H0,B,ρ,d,h⟩
 unfold ifE at h;show tT X.K P t σ H fun c H1=>if c=true then tE X.K P f σ H1 Q else tE X.K P g σ H1 Q
 refine⟨H0,B,ρ,d,?_⟩
 cases e:t ρ with
 | stk=>simp[e]at h
 | exc x=>simp[e]at h;exact h
 | ok k =>
  simp only[e,R.ok_bind]at h;intro H1 s1
  have fin:∀ {F:FE},(match F ρ with
   | .ok r=>∀ v H',aD H H'->aI X.K H0 H H' B v r->Q v H'
   | .exc x=>P.p x σ H
   | .stk=>False)->tE X.K P F σ H1 Q:=fun {F} h=>by
   refine⟨H0,B,ρ,d.mono s1,?_⟩
   cases e2:F ρ with
   | stk=>rw[e2]at h;exact h
   | exc x=>rw[e2]at h;exact P.mono h s1
   | ok r2=>rw[e2]at h;exact fun v2 H2 s2 g2=>h v2 H2 (s1.trans s2) (g2.old s1)
  cases k with
  | true=>exact aI5 (fin h)
  | false=>exact aHn (fin h)
end Mir
namespace Mir
open PySem L2
variable {X:Cx}{P:XP}{a b c e:Expr}{es:List Expr}{f g:FE}{fs:FEs}{pos:Pos}
def uF (K:PySem.W.Frag)(H0 H':Hp)(B:Addr->Prop)(J:It)(w:Its):Prop:=∃ A:Addr->Prop,(w.st=true->∀ a,A a->¬ B a) /\
 ∀ (H2:Hp) (B2:Addr->Prop),(∀ a o,A a->H' a=some o->H2 a=some o)->(∀ b o,H' b=some o->¬ B b->H2 b=some o)->(∀ b,B2 b->B b\/H' b=none)->(∀ b,B2 b->∃ o,H2 b=some o)->aD H0 H2->∀ i,
  (w.ds.length<=i->J.stop i H2)/\∀ d,w.ds[i]?=some d->J.go i H2/\∀ x H3,J.yld i H2 x H3->aD H2 H3/\Rep K (aU w.fr H0 H3 B2) d x
def tI (K:PySem.W.Frag)(P:XP)(f:FI):TI:=fun σ H Rq=>∃ H0 B ρ,DenE K H0 H B σ ρ/\match f ρ with
 | .ok w=>∀ J H',aD H H'->uF K H0 H' B J w->Rq J H'
 | .exc x=>P.p x σ H
 | .stk=>False
theorem PI.imp {tg:Expr}{t t':TI}(p:PI X tg e t)(h:∀ σ H Rq,t' σ H Rq->t σ H Rq):PI X tg e t':=fun pins s σ H Rq I q=>p pins s σ H Rq I (h σ H Rq q)
theorem aI.notB {K:PySem.W.Frag}{H0 H H':Hp}{B:Addr->Prop}{v:V}{r:Res}{σ:St}{ρ:Env}{ds:List D}{a:Addr}(den:DenE K H0 H B σ ρ)(g:aI K H0 H H' B v r)(e:r.d=.lst ds)(hv:v=.ref a)(hk:(r.k != .own)=true):¬ B a:=by
 unfold aI at g;cases k:r.k with
 | shr =>
  rw[k,e,hv]at g;obtain⟨a',xs,h1,h2,h3⟩:=g;cases h1;rcases h2 with h | ⟨o,h⟩
  · exact fun z=>(aM.mp h).1 (.inl z)
  · exact fun z=>(aM.mp h).1 (.inl z)
 | own=>rw[k]at hk;cases hk
 | old=>rw[k]at g;exact g.elim
 | tmp =>
  rw[k,hv]at g;obtain⟨a',o',h1,h2,_⟩:=g;cases h1;intro z;obtain⟨o,q,_⟩:=den.bnd a z;rw[h2]at q;cases q
theorem jN {H H2:Hp}{a:Addr}{u:HO}(h:Rd H a u)(k:∀ o,H a=some o->H2 a=some o):Rd H2 a u:=by
 rcases h with h | ⟨o,h⟩
 · exact .inl (k _ h)
 · exact .inr ⟨o,k _ h⟩
theorem aGr {K:PySem.W.Frag}{H0 H':Hp}{B:Addr->Prop}{a:Addr}{xs:List V}{ds:List D}{st fr:Bool}(hs:st=true->¬ B a)(h2:Rd H' a (.lst xs))(h3:aE K (aU fr H0 H' B) ds xs):uF K H0 H' B (Itl K a) ⟨st,fr,ds⟩:=by
 refine⟨fun b=>b=a,fun h b z=>by rw[z];exact hs h,fun H2 B2 k1 k2 k3 k4 k5 i=>?_⟩
 have q:SqL K H2 a xs:=.inl (jN h2 fun o=>k1 a o rfl);refine⟨fun hi=>⟨xs,q,by rw[←h3.length];exact hi⟩,fun d hd=>?_⟩
 obtain⟨v,hv,rv⟩:=h3.get hd;refine⟨⟨xs,v,q,hv⟩,fun x H3 y=>?_⟩
 obtain⟨e,y⟩:=y;subst e;have:=y xs q
 rw[hv]at this;cases this;exact⟨aD.refl _,Rep.same (aP k2 k3) rv⟩
theorem aAl {K:PySem.W.Frag}{H0 H':Hp}{B:Addr->Prop}{lo:Int}{n:Nat}:uF K H0 H' B (Itr lo n) ⟨true,true,rS lo n⟩:=by
 refine⟨fun _=>False,fun _ _ z=>z.elim,fun H2 B2 _ _ _ _ _ i=>⟨fun hi=>?_,fun d hd=>?_⟩⟩
 · show n<=i
   simpa[rS] using hi
 · unfold rS at hd
   rw[Ao]at hd;cases q:(Af n)[i]? with
   | none=>rw[q]at hd;cases hd
   | some k =>
    rw[q]at hd;cases hd;obtain⟨q1,q2⟩:=Bl.mp q;have hi:i<n:=by simpa using q1
    have:k=i:=by rw[←q2];simp
    subst this;refine⟨hi,fun x H3 y=>?_⟩
    obtain⟨e1,e2⟩:=y;subst e1;exact⟨aD.refl _,e2⟩
theorem gA {tg:Expr}(ha:PE X a (tE X.K P f)):PI X tg a (tI X.K P (cN f)):=by
 refine PI.imp (aM7 ha) ?_
 rintro σ H Rq ⟨H0,B,ρ,d,h⟩
 unfold cN at h;show tE X.K P f σ H fun x H1=>∃ a,x=.ref a/\(∃ xs,SqL X.K H1 a xs)/\Rq (Itl X.K a) H1
 cases e:f ρ with
 | stk=>simp[e]at h
 | exc x=>simp[e]at h;exact dA d e h
 | ok r =>
  cases e1:asL r.d with
  | stk=>simp[e,e1]at h
  | exc x=>exact(eF e1).elim
  | ok ds =>
   simp only[e,e1,R.ok_bind]at h;refine eV d e fun v H' s d' g'=>?_
   obtain⟨a,xs,h1,h2,h3⟩:=g'.list (dE e1);exact⟨a,h1,⟨xs,.inl h2⟩,h _ H' s (aGr (fun hk=>g'.notB d (dE e1) h1 hk) h2 h3)⟩
variable {p:Pos}
theorem aNd {k:List Res->R Its}{σ:St}{H:Hp}{Rq:It->Hp->Prop}{q:List V->Hp->Prop}(h:tI X.K P (fun ρ=>evs fs ρ >>= k) σ H Rq)
 (hk:∀ H0 B ρ vs H' rs,DenE X.K H0 H B σ ρ->DenE X.K H0 H' B σ ρ->dY X.K H0 H H' B vs rs->aD H H'->(match k rs with
  | .ok w=>∀ J H1,aD H' H1->uF X.K H0 H1 B J w->Rq J H1
  | .exc x=>P.p x σ H'
  | .stk=>False)->q vs H'):tAs X.K P fs σ H q:=by
 obtain⟨H0,B,ρ,d,h⟩:=h;refine⟨H0,B,ρ,d,?_⟩
 cases e:evs fs ρ with
 | stk=>simp[e]at h
 | exc x=>simp[e]at h;exact h
 | ok rs =>
  simp only[e,R.ok_bind]at h;intro vs H' s gs;refine hk H0 B ρ vs H' rs d (d.mono s) gs s ?_
  cases e2:k rs with
  | stk=>rw[e2]at h;exact h
  | exc x=>rw[e2]at h;exact P.mono h s
  | ok r1=>rw[e2]at h;exact fun v1 H1 s1 g1=>h v1 H1 (s.trans s1) g1
theorem jY {tg:Expr}(hg:Gl X "range")(hm:X.mg "range" = none)(ha:PE X a (tE X.K P f))(hs:starEach [a] X.env=[(false,eval a X.env)]:=by rfl):PI X tg (.Call (.Name "range" p) [a] [] pos) (tI X.K P (dX f)):=by
 refine PI.imp (aGg hg hm (aA ha aO hs) hs) ?_
 intro σ H Rq h;show tAs X.K P [f] σ H fun vs H1=>∃ j:Int,vs=[.int j]/\-(2^62)<=j/\j<2^62/\Rq (Itr 0 j.toNat) H1
 have e:dX f=fun ρ=>evs [f] ρ >>= fun rs=>match rs with | [x]=>(asI x.d >>= fun j=>if -(2^62)<=j/\j<2^62 then .ok ⟨true,true,rS 0 j.toNat⟩ else .stk) | _=>.stk:=by
  funext ρ
  unfold dX evs;cases f ρ with
  | ok r=>rfl
  | _=>rfl
 rw[e]at h;refine aNd h ?_
 intro H0 B ρ vs H' rs d0 d gs s h;match vs,rs,gs with
 | [],rs,gs=>have e:rs=[]:=gs;subst e;exact h.elim
 | [v],_,⟨r,rr,e1,g1,g2⟩ =>
  subst e1;rw[show rr=[] from g2]at h
  cases e2:asI r.d with
  | stk=>simp[e2]at h
  | exc x=>exact(cM e2).elim
  | ok j =>
   simp only[e2,R.ok_bind]at h;by_cases hj:-(2^62)<=j/\j<2^62
   · rw[if_pos hj]at h
     exact⟨j,by rw[g1.int (dI e2)],hj.1,hj.2,h _ H' (aD.refl _) aAl⟩
   · rw[if_neg hj]at h;exact h.elim
 | v :: w :: _,_,⟨r,rr,e1,g1,r2,rr2,e2,g2⟩ =>
  subst e1;subst e2;exact h.elim
theorem two {k:Res->Res->R Its}{F:FI}(hF:F=fun ρ=>f ρ >>= fun x=>g ρ >>= fun y=>k x y){σ:St}{H:Hp}{Rq:It->Hp->Prop}{q:List V->Hp->Prop}(h:tI X.K P F σ H Rq)
 (hk:∀ H0 B ρ v w H' r r',DenE X.K H0 H B σ ρ->DenE X.K H0 H' B σ ρ->aI X.K H0 H H' B v r->aI X.K H0 H H' B w r'->aD H H'->(match k r r' with
  | .ok w=>∀ J H1,aD H' H1->uF X.K H0 H1 B J w->Rq J H1
  | .exc x=>P.p x σ H'
  | .stk=>False)->q [v,w] H'):tAs X.K P [f,g] σ H q:=by
 have e:F=fun ρ=>evs [f,g] ρ >>= fun rs=>match rs with | [x,y]=>k x y | _=>.stk:=by
  rw[hF];funext ρ
  unfold evs evs;cases f ρ with
  | ok r =>
   show (g ρ >>= fun y=>k r y)=_
   cases g ρ with
   | ok r'=>rfl
   | _=>rfl
  | _=>rfl
 rw[e]at h;refine aNd h ?_
 intro H0 B ρ vs H' rs d0 d gs s h;match vs,rs,gs with
 | [],rs,gs=>have e:rs=[]:=gs;subst e;exact h.elim
 | [v],_,⟨r,rr,e1,g1,g2⟩ =>
  subst e1;rw[show rr=[] from g2]at h
  exact h.elim
 | [v,w],_,⟨r,rr,e1,g1,r2,rr2,e2,g2,g3⟩ =>
  subst e1;subst e2;rw[show rr2=[] from g3]at h
  exact hk H0 B ρ v w H' r r2 d0 d g1 g2 s h
 | _ :: _ :: _ :: _,_,⟨r,rr,e1,g1,r2,rr2,e2,g2,r3,rr3,e3,_⟩ =>
  subst e1;subst e2;subst e3;exact h.elim
theorem aDj {tg:Expr}(hg:Gl X "range")(hm:X.mg "range" = none)(ha:PE X a (tE X.K P f))(hb:PE X b (tE X.K P g))(hs:starEach [a,b] X.env=[(false,eval a X.env),(false,eval b X.env)]:=by rfl)(hs2:starEach [b] X.env=[(false,eval b X.env)]:=by rfl) :
 PI X tg (.Call (.Name "range" p) [a,b] [] pos) (tI X.K P (nJ f g)):=by
 refine PI.imp (aGf hg hm (aA ha (aA hb aO hs2) (by rw[hs,hs2])) hs hs2) ?_
 intro σ H Rq h;refine two rfl h ?_
 intro H0 B ρ v w H' r r' d0 d g1 g2 s h;cases e1:asI r.d with
 | stk=>simp[e1]at h
 | exc x=>exact(cM e1).elim
 | ok i =>
  cases e2:asI r'.d with
  | stk=>simp[e1,e2]at h
  | exc x=>exact(cM e2).elim
  | ok j =>
   simp only[e1,e2,R.ok_bind]at h;by_cases hj:-(2^62)<=i/\i<2^62/\-(2^62)<=j/\j<2^62
   · rw[if_pos hj]at h
     exact⟨i,j,by rw[g1.int (dI e1),g2.int (dI e2)],hj,h _ H' (aD.refl _) aAl⟩
   · rw[if_neg hj]at h;exact h.elim
theorem aI4 {K:PySem.W.Frag}{H0 H':Hp}{B:Addr->Prop}{a b:Addr}{xs ys:List V}{ds es:List D}{st fr fr':Bool}(hs:st=true->¬ B a/\¬ B b)(h2:Rd H' a (.lst xs))(k2:Rd H' b (.lst ys))
 (h3:aE K (aU fr H0 H' B) ds xs) (k3:aE K (aU fr' H0 H' B) es ys):uF K H0 H' B (Itz K a b) ⟨st,fr&&fr',xD ds es⟩:=by
 refine⟨fun c=>c=a\/c=b,fun h c z=>by rcases z with z | z<;>rw[z];exact(hs h).1;exact(hs h).2,fun H2 B2 j1 j2 j3 j4 j5 i=>?_⟩
 have q1:SqL K H2 a xs:=.inl (jN h2 fun o=>j1 a o (.inl rfl));have q2:SqL K H2 b ys:=.inl (jN k2 fun o=>j1 b o (.inr rfl));have l1:=h3.length;have l2:=k3.length;refine⟨fun hi=>⟨xs,ys,q1,q2,?_⟩,fun d hd=>?_⟩
 · simp[xD]at hi;omega
 · unfold xD at hd
   rw[Ge]at hd;cases e1:ds[i]? with
   | none=>rw[e1]at hd;cases hd
   | some d1 =>
    cases e2:es[i]? with
    | none=>rw[e1,e2]at hd;cases hd
    | some d2 =>
     rw[e1,e2]at hd;cases hd;obtain⟨v,hv,rv⟩:=h3.get e1;obtain⟨w,hw,rw'⟩:=k3.get e2;refine⟨⟨xs,ys,v,w,q1,q2,hv,hw⟩,fun x H3 y=>?_⟩
     obtain⟨t,x1,y1,e3,e4,e5,y2,y3⟩:=y;have z1:=y2 xs q1;have z2:=y3 ys q2;rw[hv]at z1;cases z1;rw[hw]at z2;cases z2;subst e3;subst e5;refine⟨aD.upd_new e4,t,[v,w],rfl,aM.mpr ⟨fun z=>?_,aX⟩,v,[w],rfl,?_,w,[],rfl,?_,rfl⟩
     · rcases z with z | ⟨_,o,z,_⟩
       · obtain⟨o,q⟩:=j4 t z;rw[e4]at q;cases q
       · rw[j5 _ _ z]at e4;cases e4
     · have m:aD (aU fr H0 H' B) (aU fr H0 (upd H2 t (.tup [v,w])) B2):=aP (fun b o q n=>aD.upd_new e4 b o (j2 b o q n)) j3
       have:=(aE.one (Rep.same m rv)).andL (fr':=fr')
       obtain⟨_,_,z1,z2,_⟩:=this;cases z1;exact z2
     · have m:aD (aU fr' H0 H' B) (aU fr' H0 (upd H2 t (.tup [v,w])) B2):=aP (fun b o q n=>aD.upd_new e4 b o (j2 b o q n)) j3
       have:=(aE.one (Rep.same m rw')).andR (fr:=fr)
       obtain⟨_,_,z1,z2,_⟩:=this;cases z1;exact z2
theorem aCt {ts:List Expr}{k:Nat}{tp:Pos}(hc:X.calm=true)(hg:Gl X "zip")(hm:X.mg "zip" = none)(ha:PE X a (tE X.K P f))(hb:PE X b (tE X.K P g))(hs:starEach [a,b] X.env=[(false,eval a X.env),(false,eval b X.env)]:=by rfl)(hs2:starEach [b] X.env=[(false,eval b X.env)]:=by rfl) :
 PI X (.Tuple ts k tp) (.Call (.Name "zip" p) [a,b] [] pos) (tI X.K P (nN f g)):=by
 refine PI.imp (aSh hc hg hm (aA ha (aA hb aO hs2) (by rw[hs,hs2])) hs hs2) ?_
 intro σ H Rq h;refine two rfl h ?_
 intro H0 B ρ v w H' r r' d0 d g1 g2 s h;cases e1:asL r.d with
 | stk=>simp[e1]at h
 | exc x=>exact(eF e1).elim
 | ok xs =>
  cases e2:asL r'.d with
  | stk=>simp[e1,e2]at h
  | exc x=>exact(eF e2).elim
  | ok ys =>
   simp only[e1,e2,R.ok_bind]at h;obtain⟨a1,xs1,h1,h2,h3⟩:=g1.list (dE e1);obtain⟨a2,xs2,k1,k2,k3⟩:=g2.list (dE e2);refine⟨a1,a2,by rw[h1,k1],⟨xs1,.inl h2⟩,⟨xs2,.inl k2⟩,h _ H' (aD.refl _) (aI4 (fun hk=>?_) h2 k2 h3 k3)⟩
   rw[Df]at hk;exact⟨g1.notB d0 (dE e1) h1 hk.1,g2.notB d0 (dE e2) k1 hk.2⟩
end Mir
namespace Mir
open PySem L2
variable {X:Cx}{P:XP}{a b c e:Expr}{es:List Expr}{f g:FE}{fs:FEs}{pos:Pos}
mutual
def gOf (K:PySem.W.Frag):Tg->TG
 | .nm i=>zF i
 | .tp ts=>aMi K ts.length (kP K ts)
def kP (K:PySem.W.Frag):List Tg->TGs
 | []=>aMv
 | t :: ts=>aDs (gOf K t) (kP K ts)
end
theorem wQ {fr:Bool}:∀ (ts:List Tg) (ds:List D) (ρ ρ':Env),Tg.binds fr ts ds ρ=.ok ρ'->ds.length=ts.length
 | [],ds,ρ,ρ',e=>by
  cases ds with
  | nil=>rfl
  | cons d ds=>simp[Tg.binds]at e
 | t :: ts,ds,ρ,ρ',e=>by
  cases ds with
  | nil=>simp[Tg.binds]at e
  | cons d ds =>
   simp only[Tg.binds]at e;cases e1:Tg.bind fr t d ρ with
   | stk=>simp[e1]at e
   | exc x=>simp[e1]at e
   | ok ρ1 =>
    simp only[e1,R.ok_bind]at e;simp[wQ ts ds ρ1 ρ' e]
section
variable {K:PySem.W.Frag}{G H:Hp}{fr:Bool}{I:St->Env->Prop}
mutual
theorem yB (sub:aD G H)(hI:∀ σ ρ i d v,I σ ρ->Rep K G d v->I (σ.set i (some v)) (ρ.set i (some ⟨.shr,fr,d⟩))):∀ (t:Tg) (d:D) (v:V) (σ:St) (ρ ρ':Env) (Q:St->Hp->Prop),Tg.bind fr t d ρ=.ok ρ'->Rep K G d v->I σ ρ->(∀ σ',I σ' ρ'->Q σ' H)->gOf K t v σ H Q
 | .nm i,d,v,σ,ρ,ρ',Q,e,r,i0,q=>by
  unfold gOf;simp only[Tg.bind]at e;cases e;exact q _ (hI σ ρ i d v i0 r)
 | .tp ts,d,v,σ,ρ,ρ',Q,e,r,i0,q=>by
  unfold gOf;cases d with
  | tup ds =>
   simp only[Tg.bind]at e;obtain⟨a,xs,h1,h2,h3⟩:=r;have:=aAg sub hI ts ds xs σ ρ ρ' Q e h3 i0 q
   exact⟨a,xs,h1,.inl (.inl (sub _ _ h2)),by rw[←h3.length];exact this.2,this.1⟩
  | _=>simp[Tg.bind]at e
theorem aAg (sub:aD G H)(hI:∀ σ ρ i d v,I σ ρ->Rep K G d v->I (σ.set i (some v)) (ρ.set i (some ⟨.shr,fr,d⟩))):∀ (ts:List Tg) (ds:List D) (vs:List V) (σ:St) (ρ ρ':Env) (Q:St->Hp->Prop),Tg.binds fr ts ds ρ=.ok ρ'->aE K G ds vs->I σ ρ->(∀ σ',I σ' ρ'->Q σ' H)->kP K ts vs σ H Q/\ds.length=ts.length
 | [],ds,vs,σ,ρ,ρ',Q,e,r,i0,q=>by
  cases ds with
  | nil =>
   simp only[Tg.binds]at e;cases e;exact⟨by unfold kP;exact⟨r,q σ i0⟩,rfl⟩
  | cons d ds=>simp[Tg.binds]at e
 | t :: ts,ds,vs,σ,ρ,ρ',Q,e,r,i0,q=>by
  cases ds with
  | nil=>simp[Tg.binds]at e
  | cons d ds =>
   simp only[Tg.binds]at e;obtain⟨x,xr,h1,h2,h3⟩:=r;cases e1:Tg.bind fr t d ρ with
   | stk=>simp[e1]at e
   | exc x=>simp[e1]at e
   | ok ρ1 =>
    simp only[e1,R.ok_bind]at e;have len:=wQ ts ds ρ1 ρ' e;refine⟨?_,by simp[len]⟩
    unfold kP;exact⟨x,xr,h1,yB sub hI t d x σ ρ ρ1 _ e1 h2 i0 fun σ' i1=>(aAg sub hI ts ds xr σ' ρ1 ρ' Q e h3 i1 q).1⟩
end
end
theorem nK.to {K:PySem.W.Frag}{H0 H H':Hp}{B B':Addr->Prop}{v:V}{r:Res}(sm:aD H0 H)(g:nK K H0 H B v r)(k:∀ b o,H b=some o->¬ B b->H' b=some o)(ko:∀ b o,H b=some o->B b->r.k=.own->v=.ref b->H' b=some o/\B' b)(h:∀ b,B' b->B b\/H b=none):nK K H0 H' B' v r:=by
 unfold nK at g ⊢;have m:∀ fr,aD (aU fr H0 H B) (aU fr H0 H' B'):=fun fr=>aP k h;cases e:r.k with
 | shr=>rw[e]at g;exact Rep.same (m _) g
 | own =>
  rw[e]at g;obtain⟨a,o,h1,h2,h3,h4,h5⟩:=g;obtain⟨q1,q2⟩:=ko a _ h4 h2 e h1;exact⟨a,o,h1,q2,h3,q1,h5.same (m _)⟩
 | tmp=>rw[e]at g;exact g
 | old=>rw[e]at g;exact⟨g.1,Rep.same (eM (fun _ _ q _=>q) fun b z=>(h b z).imp id fun q=>sm.none q) g.2⟩
theorem DenE.to {K:PySem.W.Frag}{H0 H H':Hp}{B B':Addr->Prop}{σ:St}{ρ:Env}(d:DenE K H0 H B σ ρ)(s:aD H H')(hB:∀ b,B b->B' b)(h:∀ b,B' b->B b\/H b=none)(bnd:∀ b,B' b->∃ o,H' b=some o/\stab o=false):DenE K H0 H' B' σ ρ :=
 ⟨d.len,d.sam.trans s,bnd,fun i e he=>let ⟨v,a,g⟩:=d.ent i e he;⟨v,a,g.to d.sam (fun b o q _=>s b o q) (fun b o q q2 _ _=>⟨s b o q,hB b q2⟩) h⟩⟩
theorem DenE.set {K:PySem.W.Frag}{H0 H:Hp}{B:Addr->Prop}{σ:St}{ρ:Env}{i:Nat}{v:V}{r:Res}(d:DenE K H0 H B σ ρ)(g:nK K H0 H B v r):DenE K H0 H B (σ.set i (some v)) (ρ.set i (some r)):=by
 refine⟨by rw[Cb,Cb];exact d.len,d.sam,d.bnd,fun j e he=>?_⟩
 by_cases hj:i=j
 · subst hj
   by_cases hi:i<ρ.length
   · rw[Bd hi]at he
     cases he;exact⟨v,Bd (by rw[←d.len];exact hi),g⟩
   · rw[Bk (by rw[Cb];omega)]at he
     cases he
 · rw[Ay hj]at he
   obtain⟨w,q1,q2⟩:=d.ent j e he;exact⟨w,by rw[Ay hj];exact q1,q2⟩
theorem DenE.comp {K:PySem.W.Frag}{H0 H:Hp}{B:Addr->Prop}{σ:St}{ρ:Env}(d:DenE K H0 H B σ ρ)(k:Nat)(fs:List Nat):DenE K H0 H B (eQ k fs σ) (dP k fs ρ):=by
 refine⟨by simp[eQ,dP],d.sam,d.bnd,fun i e he=>?_⟩
 unfold dP at he;unfold eQ;by_cases hi:i<k
 · rw[Bm (by simpa using hi),Et,if_pos hi]at he
   cases he
 · rw[Au (by simpa using hi),Cy,Ao]at he
   rw[Au (by simpa using hi),Cy,Ao]
   cases q:fs[i-k]? with
   | none=>rw[q]at he;cases he
   | some j =>
    rw[q]at he;simp only[Fq,Cw.injEq]at he ⊢
    have he':ρ[j]?=some (some e):=by
     cases z:ρ[j]? with
     | none=>rw[z]at he;cases he
     | some y=>rw[z]at he;simp at he;rw[he]
    obtain⟨v,q1,q2⟩:=d.ent j e he';exact⟨v,by rw[q1];rfl,q2⟩
def tBm (K:PySem.W.Frag)(P:XP)(f:FB):St->Hp->(Option V->Hp->Prop)->Prop:=fun σ H Q=>∃ H0 B ρ,DenE K H0 H B σ ρ/\match f ρ with
 | .ok (some r)=>∀ v H',aD H H'->aI K H0 H H' B v r->Q (some v) H'
 | .ok none=>∀ H',aD H H'->Q none H'
 | .exc x=>P.p x σ H
 | .stk=>False
theorem PB.imp {ifs:List Expr}{t t':St->Hp->(Option V->Hp->Prop)->Prop}(p:PB X ifs e t)(h:∀ σ H Q,t' σ H Q->t σ H Q):PB X ifs e t':=fun pins s σ H Q I q=>p pins s σ H Q I (h σ H Q q)
theorem fM (he:PE X e (tE X.K P f)):PB X [] e (tBm X.K P (bE f)):=by
 refine PB.imp (aQ1 he) ?_
 rintro σ H Q ⟨H0,B,ρ,d,h⟩
 unfold bE at h;show tE X.K P f σ H fun v H'=>Q (some v) H'
 cases e1:f ρ with
 | stk=>simp[e1]at h
 | exc x=>simp[e1]at h;exact dA d e1 h
 | ok r=>simp only[e1,R.ok_bind]at h;exact eV d e1 fun v H' s d' g'=>h v H' s g'
theorem aAz {t:FT}(hc:PT X c (tT X.K P t))(he:PE X e (tE X.K P f)):PB X [c] e (tBm X.K P (Mir.bIf t f)):=by
 refine PB.imp (aUw hc he) ?_
 rintro σ H Q ⟨H0,B,ρ,d,h⟩
 unfold Mir.bIf at h;show tT X.K P t σ H fun b H1=>if b=true then tE X.K P f σ H1 fun v H'=>Q (some v) H' else Q none H1
 refine⟨H0,B,ρ,d,?_⟩
 cases e1:t ρ with
 | stk=>simp[e1]at h
 | exc x=>simp[e1]at h;exact h
 | ok k =>
  simp only[e1,R.ok_bind]at h;intro H1 s1;cases k with
  | false=>exact aHn (h H1 s1)
  | true =>
   refine aI5 ⟨H0,B,ρ,d.mono s1,?_⟩
   rw[if_pos rfl]at h;cases e2:f ρ with
   | stk=>simp[e2]at h
   | exc x=>simp[e2]at h;exact P.mono h s1
   | ok r=>simp only[e2,R.ok_bind]at h;exact fun v H' s g'=>h v H' (s1.trans s) (g'.old s1)
theorem aBf {fr:Bool}{x:Xc}:∀ (t:Tg) (d:D) (ρ:Env),Tg.bind fr t d ρ=.exc x->False:=by
 have hs:∀ (n:Nat),(∀ (t:Tg) (d:D) (ρ:Env),sizeOf t<=n->Tg.bind fr t d ρ=.exc x->False)/\(∀ (ts:List Tg) (ds:List D) (ρ:Env),sizeOf ts<=n->Tg.binds fr ts ds ρ=.exc x->False):=by
  intro n;induction n with
  | zero =>
   refine⟨fun t d ρ h=>?_,fun ts ds ρ h=>?_⟩
   · cases t<;>simp at h
   · cases ts<;>simp at h
  | succ n ih =>
   refine⟨fun t d ρ h e=>?_,fun ts ds ρ h e=>?_⟩
   · cases t with
     | nm i=>simp[Tg.bind]at e
     | tp ts =>
      cases d with
      | tup ds=>simp only[Tg.bind]at e;exact ih.2 ts ds ρ (by simp at h;omega) e
      | _=>simp[Tg.bind]at e
   · cases ts with
     | nil=>cases ds<;>simp[Tg.binds]at e
     | cons t ts =>
      cases ds with
      | nil=>simp[Tg.binds]at e
      | cons d ds =>
       simp only[Tg.binds]at e;simp at h
       cases e1:Tg.bind fr t d ρ with
       | stk=>simp[e1]at e
       | exc y=>simp[e1]at e;subst e;exact ih.1 t d ρ (by omega) e1
       | ok ρ1=>simp only[e1,R.ok_bind]at e;exact ih.2 ts ds ρ1 (by omega) e
 exact fun t d ρ e=>(hs (sizeOf t)).1 t d ρ (Am _) e
theorem nL {tg:Tg}{fb:FB}{fr:Bool}{ρ:Env}{x:Xc}:∀ {ds:List D},fL tg fb fr ρ ds=.exc x->False
 | [],e=>by simp[fL]at e
 | d :: r,e=>by
  simp only[fL]at e;cases e1:tg.bind fr d ρ with
  | stk=>simp[e1]at e
  | exc y=>exact aBf _ _ _ e1
  | ok ρ1 =>
   simp only[e1,R.ok_bind]at e;cases e2:fb ρ1 with
   | stk=>simp[e2]at e
   | exc y=>simp[e2]at e
   | ok o =>
    cases o with
    | none=>simp only[e2]at e;exact nL e
    | some r' =>
     simp only[e2]at e;cases e3:r'.give with
     | stk=>simp[e3]at e
     | exc y=>unfold Res.give at e3;split at e3<;>cases e3
     | ok z =>
      simp only[e3,R.ok_bind]at e;cases e4:fL tg fb fr ρ r with
      | stk=>simp[e4]at e
      | exc y=>exact nL e4
      | ok z=>simp[e4]at e
theorem zB {K:PySem.W.Frag}{H0 H H1:Hp}{B:Addr->Prop}{σ:St}{ρ:Env}{J:It}{w:Its}{k:Nat}{fs:List Nat}{tg:Tg}{fb:FB}{y:Bool×List D}{acc:Addr}{Qf:Hp->Prop}
 (d:DenE K H0 H B σ ρ) (s1:aD H H1) (hw:uF K H0 H1 B J w) (e:fL tg fb w.fr (dP k fs ρ) w.ds=.ok y) (hz:w.ds.length<=sizeLine) (hacc:H1 acc=none)
 (hq:∀ H2,aD H H2->aI K H0 H H2 B (.ref acc) ⟨.tmp,y.1,.lst y.2⟩->Qf H2):tG J k fs (gOf K tg) (tBm K XP0 fb) σ acc Qf H1:=by
 obtain⟨A,hst,hwk⟩:=hw;have hacc0:H acc=none:=s1.none hacc;have nB:¬ B acc:=fun z=>by obtain⟨o,q,_⟩:=d.bnd acc z;rw[hacc0]at q;cases q
 refine⟨fun i m ys H2=>m=w.ds.length-i/\i<=w.ds.length/\ys.length<=i/\aD H1 H2/\H2 acc=some (.lst ys)/\∃ es1 esS frS,y.2=es1++esS/\fL tg fb w.fr (dP k fs ρ) (w.ds.drop i)=.ok (frS,esS)/\(y.1=true->frS=true) /\
  aE K (aU y.1 H0 H2 fun b=>B b\/b=acc) es1 ys,⟨w.ds.length,rfl,Cc _,Am _,aD.upd_new hacc,aX,[],y.2,y.1,rfl,e,fun h=>h,rfl⟩,?_⟩
 rintro i m ys H2 ⟨hm,hi,hys,s2,ha2,es1,esS,frS,hy,hS,hfr,hR⟩
 refine⟨ha2,?_⟩
 have sH2:=s1.trans s2
 have bnd2:∀ b,(B b\/b=acc)->∃ o,H2 b=some o/\stab o=false:=fun b z=>by
  rcases z with z | z
  · obtain⟨o,q,n⟩:=d.bnd b z
    exact⟨o,sH2 _ _ q,n⟩
  · exact⟨_,by rw[z];exact ha2,rfl⟩
 have cond:∀ b,(B b\/b=acc)->B b\/H1 b=none:=fun b z=>z.imp id fun z=>by rw[z];exact hacc
 have cond0:∀ b,(B b\/b=acc)->B b\/H b=none:=fun b z=>z.imp id fun z=>by rw[z];exact hacc0
 have wk:=hwk H2 (fun b=>B b\/b=acc) (fun a o _ q=>s2 _ _ q) (fun b o q _=>s2 _ _ q) cond (fun b z=>let ⟨o,q,_⟩:=bnd2 b z;⟨o,q⟩) (d.sam.trans sH2) i
 by_cases hlt:i<w.ds.length
 · refine .inr ?_
   have hd:w.ds[i]?=some w.ds[i]:=Ae hlt;obtain⟨go,yl⟩:=wk.2 _ hd;refine⟨go,Cv hys (An hlt hz),fun x H3 y3=>?_⟩
   obtain⟨s3,rx⟩:=yl x H3 y3;rw[List.drop_eq_getElem_cons hlt]at hS;simp only[fL]at hS
   have den3:DenE K H0 H3 (fun b=>B b\/b=acc) (eQ k fs σ) (dP k fs ρ) :=
    (d.to (sH2.trans s3) (fun b z=>.inl z) cond0 fun b z=>let ⟨o,q,n⟩:=bnd2 b z;⟨o,s3 _ _ q,n⟩).comp k fs
   cases e1:tg.bind w.fr w.ds[i] (dP k fs ρ) with
   | stk=>simp[e1]at hS
   | exc x=>simp[e1]at hS
   | ok ρ1 =>
    simp only[e1,R.ok_bind]at hS;refine yB (G:=aU w.fr H0 H3 fun b=>B b\/b=acc) (fr:=w.fr) (I:=fun σ' ρ'=>DenE K H0 H3 (fun b=>B b\/b=acc) σ' ρ') fV (fun σ' ρ' i d' v' D r=>D.set r) tg _ x _ _ ρ1 _ e1 rx den3 fun σ4 den4=>?_
    refine⟨H0,_,ρ1,den4,?_⟩
    cases e2:fb ρ1 with
    | stk=>simp[e2]at hS
    | exc x=>simp[e2]at hS
    | ok o =>
     cases o with
     | none =>
      simp only[e2]at hS;intro H5 s5;refine⟨w.ds.length-(i+1),by omega,rfl,hlt,by omega,(s2.trans s3).trans s5,s5 _ _ (s3 _ _ ha2),es1,esS,frS,hy,hS,hfr,aE.same (aP (fun b o q _=>s5 _ _ (s3 _ _ q)) fun b z=>.inl z) hR⟩
     | some r =>
      simp only[e2]at hS;cases e3:r.give with
      | stk=>simp[e3]at hS
      | exc x=>simp[e3]at hS
      | ok r' =>
       simp only[e3,R.ok_bind]at hS;cases e4:fL tg fb w.fr (dP k fs ρ) (w.ds.drop (i+1)) with
       | stk=>simp[e4]at hS
       | exc x=>simp[e4]at hS
       | ok z =>
        simp only[e4,R.ok_bind]at hS;cases hS;intro v H5 s5 g5;obtain⟨q1,q2⟩:=g5.give den4 e3;subst q1;refine⟨s5 _ _ (s3 _ _ ha2),w.ds.length-(i+1),by omega,rfl,hlt,by simp;omega,?_,aX,es1++[r.d],z.2,z.1,by rw[hy];simp,e4,fun h=>?_,?_⟩
        · intro b o q
          rw[aH (aZ q hacc)];exact s5 _ _ (s3 _ _ (s2 _ _ q))
        · have:=hfr h
          simp at this
          exact this.2
        · have m:∀ fr,aD (aU fr H0 H5 fun b=>B b\/b=acc) (aU fr H0 (upd H5 acc (.lst (ys++[v]))) fun b=>B b\/b=acc):=fun fr=>aP (fun b o q n=>by rw[aH (fun z=>n (.inr z))];exact q) fun b z=>.inl z
          have m2:aD (aU y.1 H0 H2 fun b=>B b\/b=acc) (aU y.1 H0 H5 fun b=>B b\/b=acc):=aP (fun b o q _=>s5 _ _ (s3 _ _ q)) fun b z=>.inl z;refine aE.append (aE.same (m _) (aE.same m2 hR)) (aE.one (Rep.same (m _) ?_))
          cases hy1:y.1 with
          | false=>exact Rep.same iN q2
          | true =>
           have:=hfr hy1
           simp at this
           rw[this.1]at q2;exact q2
 · have hi':i=w.ds.length:=by omega
   refine .inl ⟨wk.1 (by omega),hq H2 sH2 ⟨acc,_,rfl,hacc0,ha2,.lst ?_⟩⟩
   rw[Ex (by omega)]at hS
   simp only[fL]at hS;cases hS;rw[hy,De];exact hR
variable {scope:Scope}{N:List Str}{k:Nat}{cs:List Nat}{tg iter elt:Expr}{ifs:List Expr}{t:Tg}{it:FI}{fb:FB}
theorem aKp (σ:St)(H:Hp)(Q:VK)(h:tE X.K P (aW it k cs t fb) σ H Q):aO0 (tI X.K P it) k cs (gOf X.K t) (tBm X.K XP0 fb) σ H Q:=by
 obtain⟨H0,B,ρ,d,h⟩:=h;unfold aW at h;refine⟨H0,B,ρ,d,?_⟩
 cases e:it ρ with
 | stk=>simp[e]at h
 | exc x=>simp[e]at h;exact h
 | ok w =>
  simp only[e,R.ok_bind]at h;intro J H1 s1 hw acc hacc;cases e2:fL t fb w.fr (dP k cs ρ) w.ds with
  | stk=>simp[e2]at h
  | exc x=>exact(nL e2).elim
  | ok y =>
   simp only[e2,R.ok_bind]at h;by_cases hz:w.ds.length<=sizeLine
   · rw[if_pos hz]at h
     exact zB d s1 hw e2 hz hacc fun H2 s2 g2=>h _ H2 s2 g2
   · rw[if_neg hz]at h;exact h.elim
theorem fO (hc:X.calm=true)(C:CompOk X scope N k cs)(hi:PI X tg iter (tI X.K P it))(hg:∀ fp s H,PG (cF X scope N fp s H) tg (gOf X.K t))(gl:uX k (gOf X.K t))(hb:∀ fp s H,PB (cF X scope N fp s H) ifs elt (tBm X.K XP0 fb))
 (hs:∀ x,foldedSetIterable iter X.env x=pure x:=by intro _;rfl):PE X (.ListComp elt [⟨tg,iter,ifs,0⟩] scope pos) (tE X.K P (aW it k cs t fb)) :=
 PE.imp (aEi hc C hi hg gl hb hs) aKp
end Mir
namespace Mir
open PySem L2
variable {X:Cx}{P:XP}{a b c e:Expr}{es:List Expr}{f g:FE}{fs:FEs}{pos:Pos}
def gG (σ:St)(ρ:Env)(i:Nat)(a:Addr):Prop:=σ[i]?=some (some (.ref a))/\∃ e,ρ[i]?=some (some e)/\e.k=.own
def oV (σ:St)(ρ:Env)(a:Addr):Prop:=∃ i,gG σ ρ i a
abbrev Bs (T:Addr->Prop)(σ:St)(ρ:Env):Addr->Prop:=fun a=>oV σ ρ a\/T a
structure DenS (K:PySem.W.Frag)(H0 H:Hp)(T:Addr->Prop)(σ:St)(ρ:Env):Prop where
 e:DenE K H0 H (Bs T σ ρ) σ ρ
 sep:∀ a,oV σ ρ a->¬ T a
 dis:∀ i j a,gG σ ρ i a->gG σ ρ j a->i=j
structure Ext (H:Hp)(σ:St)(ρ:Env)(H':Hp)(σ':St)(ρ':Env):Prop where
 kp:∀ b o,H b=some o->¬ oV σ ρ b->H' b=some o
 ow:∀ b,oV σ' ρ' b->oV σ ρ b\/H b=none
section
variable {K:PySem.W.Frag}{H0 H H' H'':Hp}{T:Addr->Prop}{σ σ' σ'':St}{ρ ρ' ρ'':Env}
theorem Ext.refl:Ext H σ ρ H σ ρ:=⟨fun _ _ h _=>h,fun _ h=>.inl h⟩
theorem Ext.trans (x:Ext H σ ρ H' σ' ρ')(y:Ext H' σ' ρ' H'' σ'' ρ''):Ext H σ ρ H'' σ'' ρ'':=by
 refine⟨fun b o h n=>y.kp b o (x.kp b o h n) fun z=>?_,fun b z=>?_⟩
 · rcases x.ow b z with q | q
   · exact n q
   · rw[h]at q;cases q
 · rcases y.ow b z with q | q
   · exact x.ow b q
   · cases e:H b with
     | none=>exact .inr rfl
     | some o =>
      by_cases hb:oV σ ρ b
      · exact .inl hb
      · rw[x.kp b o e hb]at q;cases q
theorem Ext.same (s:aD H H'):Ext H σ ρ H' σ ρ:=⟨fun b o h _=>s b o h,fun _ h=>.inl h⟩
theorem DenS.mono (d:DenS K H0 H T σ ρ)(s:aD H H'):DenS K H0 H' T σ ρ:=⟨d.e.mono s,d.sep,d.dis⟩
theorem fJ {i j:Nat}{v:V}{r:Res}{a:Addr}(h:gG (σ.set i (some v)) (ρ.set i (some r)) j a):(j=i/\v=.ref a/\r.k=.own)\/(j≠i/\gG σ ρ j a):=by
 obtain⟨h1,e,h2,h3⟩:=h;by_cases hj:i=j
 · subst hj
   by_cases hi:i<σ.length
   · rw[Bd hi]at h1
     cases h1;by_cases hr:i<ρ.length
     · rw[Bd hr]at h2;cases h2
       exact .inl ⟨rfl,rfl,h3⟩
     · rw[Bk (by rw[Cb];omega)]at h2;cases h2
   · rw[Bk (by rw[Cb];omega)]at h1;cases h1
 · rw[Ay hj]at h1 h2
   exact .inr ⟨fun z=>hj z.symm,h1,e,h2,h3⟩
theorem sR {i j:Nat}{v:V}{r:Res}{a:Addr}(h:gG σ ρ j a)(hj:j≠i):gG (σ.set i (some v)) (ρ.set i (some r)) j a:=by
 obtain⟨h1,e,h2,h3⟩:=h;exact⟨by rw[Ay (Ne.symm hj)];exact h1,e,by rw[Ay (Ne.symm hj)];exact h2,h3⟩
theorem DenS.set_shr {i:Nat}{v:V}{fr:Bool}{dd:D}(d:DenS K H0 H T σ ρ)(r:Rep K (aU fr H0 H (Bs T σ ρ)) dd v):DenS K H0 H T (σ.set i (some v)) (ρ.set i (some ⟨.shr,fr,dd⟩))/\∀ a,oV (σ.set i (some v)) (ρ.set i (some ⟨.shr,fr,dd⟩)) a->oV σ ρ a:=by
 have sub:∀ a,oV (σ.set i (some v)) (ρ.set i (some ⟨.shr,fr,dd⟩)) a->oV σ ρ a:=fun a ⟨j,h⟩=>by
  rcases fJ h with ⟨_,_,h⟩ | ⟨_,h⟩
  · cases h
  · exact⟨j,h⟩
 have subB:∀ a,Bs T (σ.set i (some v)) (ρ.set i (some ⟨.shr,fr,dd⟩)) a->Bs T σ ρ a:=fun a z=>z.imp (sub a) id;refine⟨⟨⟨by rw[Cb,Cb];exact d.e.len,d.e.sam,fun b z=>d.e.bnd b (subB b z),fun j e he=>?_⟩,fun a z=>d.sep a (sub a z),fun j k a h1 h2=>?_⟩,sub⟩
 · by_cases hj:i=j
   · subst hj
     by_cases hi:i<ρ.length
     · rw[Bd hi]at he
       cases he;exact⟨v,Bd (by rw[←d.e.len];exact hi),Rep.same (aP (fun _ _ q _=>q) fun b z=>.inl (subB b z)) r⟩
     · rw[Bk (by rw[Cb];omega)]at he;cases he
   · rw[Ay hj]at he
     obtain⟨w,q1,q2⟩:=d.e.ent j e he;refine⟨w,by rw[Ay hj];exact q1,q2.to d.e.sam (fun _ _ q _=>q) (fun b o q _ k1 k2=>⟨q,.inl ⟨j,sR ⟨by rw[q1,k2],e,he,k1⟩ (fun z=>hj z.symm)⟩⟩) fun b z=>.inl (subB b z)⟩
 · rcases fJ h1 with ⟨_,_,h⟩ | ⟨_,h1⟩
   · cases h
   · rcases fJ h2 with ⟨_,_,h⟩ | ⟨_,h2⟩
     · cases h
     · exact d.dis j k a h1 h2
theorem DenS.set_con {i:Nat}{a:Addr}{o:HO}{dd:D}{fr:Bool}(d:DenS K H0 H T σ ρ)(s:aD H H')(ha:H a=none)(ha':H' a=some o)(r:iS K (aU fr H0 H' fun b=>Bs T σ ρ b\/b=a) dd o) :
 DenS K H0 H' T (σ.set i (some (.ref a))) (ρ.set i (some ⟨.own,fr,dd⟩))/\Ext H σ ρ H' (σ.set i (some (.ref a))) (ρ.set i (some ⟨.own,fr,dd⟩)):=by
 have sub:∀ b,oV (σ.set i (some (.ref a))) (ρ.set i (some ⟨.own,fr,dd⟩)) b->oV σ ρ b\/b=a:=fun b ⟨j,h⟩=>by
  rcases fJ h with ⟨_,h,_⟩ | ⟨_,h⟩
  · cases h;exact .inr rfl
  · exact .inl ⟨j,h⟩
 have subB:∀ b,Bs T (σ.set i (some (.ref a))) (ρ.set i (some ⟨.own,fr,dd⟩)) b->Bs T σ ρ b\/b=a:=fun b z=>by
  rcases z with z | z
  · exact(sub b z).imp .inl id
  · exact .inl (.inr z)
 have subH:∀ b,Bs T (σ.set i (some (.ref a))) (ρ.set i (some ⟨.own,fr,dd⟩)) b->Bs T σ ρ b\/H b=none:=fun b z=>(subB b z).imp id fun z=>by rw[z];exact ha
 have nB:∀ b,Bs T σ ρ b->b≠a:=fun b z q=>by obtain⟨o,w,_⟩:=d.e.bnd b z;rw[q,ha]at w;cases w
 refine⟨⟨⟨by rw[Cb,Cb];exact d.e.len,d.e.sam.trans s,fun b z=>?_,fun j e he=>?_⟩,fun b z=>?_,fun j k b h1 h2=>?_⟩,fun b o h _=>s b o h,fun b z=>(sub b z).imp id fun z=>by rw[z];exact ha⟩
 · rcases subB b z with z | z
   · obtain⟨o,w,n⟩:=d.e.bnd b z;exact⟨o,s _ _ w,n⟩
   · exact⟨_,by rw[z];exact ha',r.stab⟩
 · by_cases hj:i=j
   · subst hj
     by_cases hi:i<ρ.length
     · rw[Bd hi]at he
       cases he;have hσ:(σ.set i (some (V.ref a)))[i]?=some (some (V.ref a)):=Bd (by rw[←d.e.len];exact hi)
       refine⟨.ref a,hσ,a,o,rfl,.inl ⟨i,hσ,_,Bd hi,rfl⟩,d.e.sam.none ha,ha',r.same (aP (fun _ _ q _=>q) fun b z=>.inl (subB b z))⟩
     · rw[Bk (by rw[Cb];omega)]at he;cases he
   · rw[Ay hj]at he
     obtain⟨w,q1,q2⟩:=d.e.ent j e he;refine⟨w,by rw[Ay hj];exact q1,q2.to d.e.sam (fun _ _ q _=>s _ _ q) (fun b o q _ k1 k2=>⟨s _ _ q,.inl ⟨j,sR ⟨by rw[q1,k2],e,he,k1⟩ (fun z=>hj z.symm)⟩⟩) subH⟩
 · rcases sub b z with z | z
   · exact d.sep b z
   · intro q;exact nB b (.inr q) z
 · rcases fJ h1 with ⟨e1,h,_⟩ | ⟨_,h1⟩
   · cases h
     rcases fJ h2 with ⟨e2,_,_⟩ | ⟨_,h2⟩
     · rw[e1,e2]
     · exact absurd rfl (nB _ (.inl ⟨k,h2⟩))
   · rcases fJ h2 with ⟨_,h,_⟩ | ⟨_,h2⟩
     · cases h;exact absurd rfl (nB _ (.inl ⟨j,h1⟩))
     · exact d.dis j k b h1 h2
theorem DenS.writeO {i:Nat}{a:Addr}{e:Res}{o':HO}{dd:D}{fr:Bool}(d:DenS K H0 H T σ ρ)(hσ:σ[i]?=some (some (.ref a)))(he:ρ[i]?=some (some e))(hk:e.k=.own)(h0:H0 a=none)(r:iS K (aU fr H0 H (Bs T σ ρ)) dd o') :
 DenS K H0 (upd H a o') T σ (ρ.set i (some ⟨.own,fr,dd⟩))/\Ext H σ ρ (upd H a o') σ (ρ.set i (some ⟨.own,fr,dd⟩)):=by
 have oi:gG σ ρ i a:=⟨hσ,e,he,hk⟩
 have hi:i<ρ.length:=by
  obtain⟨h,_⟩:=Bl.mp he;exact h
 have fwd:∀ j b,gG σ (ρ.set i (some ⟨.own,fr,dd⟩)) j b->gG σ ρ j b:=fun j b ⟨h1,e',h2,h3⟩=>by
  by_cases hj:i=j
  · subst hj;exact⟨h1,e,he,hk⟩
  · rw[Ay hj]at h2;exact⟨h1,e',h2,h3⟩
 have bwd:∀ j b,gG σ ρ j b->gG σ (ρ.set i (some ⟨.own,fr,dd⟩)) j b:=fun j b ⟨h1,e',h2,h3⟩=>by
  by_cases hj:i=j
  · subst hj;exact⟨h1,_,Bd hi,rfl⟩
  · exact⟨h1,e',by rw[Ay hj];exact h2,h3⟩
 have subB:∀ b,Bs T σ (ρ.set i (some ⟨.own,fr,dd⟩)) b->Bs T σ ρ b:=fun b z=>z.imp (fun⟨j,h⟩=>⟨j,fwd j b h⟩) id;have Ba:Bs T σ ρ a:=.inl ⟨i,oi⟩;have kp:∀ b o,H b=some o->¬ Bs T σ ρ b->upd H a o' b=some o:=fun b o q n=>by rw[aH (fun z=>n (by rw[z];exact Ba))];exact q
 refine⟨⟨⟨by rw[Cb];exact d.e.len,fun b o q=>?_,fun b z=>?_,fun j e' he'=>?_⟩,fun b z=>d.sep b (let ⟨j,h⟩:=z;⟨j,fwd j b h⟩),fun j k b h1 h2=>d.dis j k b (fwd j b h1) (fwd k b h2)⟩,fun b o q n=>?_,fun b z=>.inl (let ⟨j,h⟩:=z;⟨j,fwd j b h⟩)⟩
 · rw[aH (aZ q h0)];exact d.e.sam b o q
 · by_cases hb:b=a
   · subst hb;exact⟨_,aX,r.stab⟩
   · obtain⟨o,w,n⟩:=d.e.bnd b (subB b z);exact⟨o,by rw[aH hb];exact w,n⟩
 · by_cases hj:i=j
   · subst hj
     rw[Bd hi]at he';cases he';exact⟨.ref a,hσ,a,o',rfl,.inl ⟨i,bwd i a oi⟩,h0,aX,r.same (aP kp fun b z=>.inl (subB b z))⟩
   · rw[Ay hj]at he'
     obtain⟨w,q1,q2⟩:=d.e.ent j e' he';refine⟨w,q1,q2.to d.e.sam kp (fun b o q _ k1 k2=>?_) fun b z=>.inl (subB b z)⟩
     have oj:gG σ ρ j b:=⟨by rw[q1,k2],e',he',k1⟩
     refine⟨?_,.inl ⟨j,bwd j b oj⟩⟩
     rw[aH (fun z=>hj (d.dis i j a oi (by rw[z]at oj;exact oj)))]
     exact q
 · rw[aH (fun z=>n (by rw[z];exact⟨i,oi⟩))];exact q
theorem DenS.write {i:Nat}{a:Addr}{e:Res}{vs:List V}{ds:List D}{fr:Bool}(d:DenS K H0 H T σ ρ)(hσ:σ[i]?=some (some (.ref a)))(he:ρ[i]?=some (some e))(hk:e.k=.own)(h0:H0 a=none)(r:aE K (aU fr H0 H (Bs T σ ρ)) ds vs) :
 DenS K H0 (upd H a (.lst vs)) T σ (ρ.set i (some ⟨.own,fr,.lst ds⟩))/\Ext H σ ρ (upd H a (.lst vs)) σ (ρ.set i (some ⟨.own,fr,.lst ds⟩)):=d.writeO hσ he hk h0 (.lst r)
theorem aDy {i:Nat}{y:Bool×List D}(h:uL i ρ=.ok y):ρ[i]?=some (some ⟨.own,y.1,.lst y.2⟩):=by
 unfold uL at h;split at h
 · rename_i e;cases h;exact e
 · cases h
theorem DenS.own {i:Nat}{fr:Bool}{ds:List D}(d:DenS K H0 H T σ ρ)(he:ρ[i]?=some (some ⟨.own,fr,.lst ds⟩)):∃ a vs,σ[i]?=some (some (.ref a))/\H0 a=none/\H a=some (.lst vs)/\aE K (aU fr H0 H (Bs T σ ρ)) ds vs:=by
 obtain⟨v,q1,a,o,h1,h2,h3,h4,vs,h5,h6⟩:=d.e.ent i _ he;subst h1;subst h5;exact⟨a,vs,q1,h3,h4,h6⟩
theorem DenS.ownD {i:Nat}{fr:Bool}{ks:List (List Int)}{ds:List D}(d:DenS K H0 H T σ ρ)(he:ρ[i]?=some (some ⟨.own,fr,.dct ks ds⟩)):∃ a kvs,σ[i]?=some (some (.ref a))/\H0 a=none/\H a=some (.dT kvs)/\cH ks kvs/\aE K (aU fr H0 H (Bs T σ ρ)) ds (kvs.map (·.2)):=by
 obtain⟨v,q1,a,o,h1,h2,h3,h4,kvs,h5,h6,h7⟩:=d.e.ent i _ he;subst h1;subst h5;exact⟨a,kvs,q1,h3,h4,h6,h7⟩
theorem DenS.freeze (d:DenS K H0 H T σ ρ)(i:Nat):DenS K H0 H T σ (frz i ρ)/\Ext H σ ρ H σ (frz i ρ):=by
 unfold frz;split
 · rename_i e he
   have hi:i<ρ.length:=by
    obtain⟨h,_⟩:=Bl.mp he;exact h
   have fwd:∀ j b,gG σ (ρ.set i (some ⟨.shr,e.fr,e.d⟩)) j b->j≠i/\gG σ ρ j b:=fun j b ⟨h1,e',h2,h3⟩=>by
    by_cases hj:i=j
    · subst hj;rw[Bd hi]at h2;cases h2;cases h3
    · rw[Ay hj]at h2;exact⟨fun z=>hj z.symm,h1,e',h2,h3⟩
   have subB:∀ b,Bs T σ (ρ.set i (some ⟨.shr,e.fr,e.d⟩)) b->Bs T σ ρ b:=fun b z=>z.imp (fun⟨j,h⟩=>⟨j,(fwd j b h).2⟩) id;refine⟨⟨⟨by rw[Cb];exact d.e.len,d.e.sam,fun b z=>d.e.bnd b (subB b z),fun j e' he'=>?_⟩,fun b z=>d.sep b (let ⟨j,h⟩:=z;⟨j,(fwd j b h).2⟩),fun j k b h1 h2=>d.dis j k b (fwd j b h1).2 (fwd k b h2).2⟩,fun b o q _=>q,fun b z=>.inl (let ⟨j,h⟩:=z;⟨j,(fwd j b h).2⟩)⟩
   by_cases hj:i=j
   · subst hj
     rw[Bd hi]at he';cases he';obtain⟨w,q1,q2⟩:=d.e.ent i e he;refine⟨w,q1,?_⟩
     have m:aD (aU e.fr H0 H (Bs T σ ρ)) (aU e.fr H0 H (Bs T σ (ρ.set i (some ⟨.shr,e.fr,e.d⟩)))):=aP (fun _ _ q _=>q) fun b z=>.inl (subB b z);unfold nK at q2;cases k:e.k with
     | shr=>rw[k]at q2;exact Rep.same m q2
     | own =>
      rw[k]at q2;obtain⟨a,o,h1,h2,h3,h4,h5⟩:=q2;show Rep K (aU e.fr H0 H (Bs T σ (ρ.set i (some ⟨.shr,e.fr,e.d⟩)))) e.d w
      rw[h1];refine h5.rep m (aM.mpr ⟨fun z=>?_,h4⟩)
      rcases z with z | ⟨_,o,z,_⟩
      · rcases z with ⟨j,z⟩ | z
        · obtain⟨z1,z2⟩:=fwd j a z
          exact z1 (d.dis j i a z2 ⟨by rw[q1,h1],e,he,k⟩)
        · exact d.sep a ⟨i,by rw[q1,h1],e,he,k⟩ z
      · rw[h3]at z;cases z
     | tmp=>rw[k]at q2;exact q2.elim
     | old =>
      rw[k]at q2;refine Rep.same (fun b o q=>?_) q2.2
      obtain⟨n,q⟩:=aM.mp q;refine aM.mpr ⟨fun z=>?_,d.e.sam b o q⟩
      rcases z with z | ⟨z,_⟩
      · exact n (subB b z)
      · rw[q2.1]at z;cases z
   · rw[Ay hj]at he'
     obtain⟨w,q1,q2⟩:=d.e.ent j e' he';refine⟨w,q1,q2.to d.e.sam (fun _ _ q _=>q) (fun b o q _ k1 k2=>⟨q,.inl ⟨j,by rw[q1,k2],e',by rw[Ay hj];exact he',k1⟩⟩) fun b z=>.inl (subB b z)⟩
 · exact⟨d,Ext.refl⟩
end
end Mir
namespace Mir
open PySem L2
variable {X:Cx}{P:XP}{a b c e:Expr}{es:List Expr}{f g:FE}{fs:FEs}{pos:Pos}
def mD (K:PySem.W.Frag)(H0 H':Hp)(T:Addr->Prop)(v:V)(r:Res):Prop :=
 match r.k with
 | .shr=>Rep K (aU r.fr H0 H' T) r.d v
 | _=>∃ a o,v=.ref a/\H0 a=none/\H' a=some o/\iS K (aU r.fr H0 H' fun b=>T b\/b=a) r.d o
def iB (K:PySem.W.Frag)(P:XP)(D:Ends)(H0:Hp)(T:Addr->Prop)(H:Hp)(σ:St)(ρ:Env)(r:RS):Prop :=
 match r with
 | .nx ρ'=>∀ σ' H',DenS K H0 H' T σ' ρ'->Ext H σ ρ H' σ' ρ'->D.nx σ' H'
 | .bk ρ'=>∀ σ' H',DenS K H0 H' T σ' ρ'->Ext H σ ρ H' σ' ρ'->D.bk σ' H'
 | .ct ρ'=>∀ σ' H',DenS K H0 H' T σ' ρ'->Ext H σ ρ H' σ' ρ'->D.ct σ' H'
 | .rt r=>∀ v H',aD H0 H'->mD K H0 H' T v r->D.rt v H'
 | .exc x ρ'=>∀ σ' H',DenS K H0 H' T σ' ρ'->Ext H σ ρ H' σ' ρ'->P.p x σ' H'
 | .stk=>False
def tS (K:PySem.W.Frag)(P:XP)(F:FS):TS:=fun D σ H=>∃ H0 T ρ,DenS K H0 H T σ ρ/\iB K P D H0 T H σ ρ (F ρ)
theorem iB.trans {K:PySem.W.Frag}{D:Ends}{H0 H H1:Hp}{T:Addr->Prop}{σ σ1:St}{ρ ρ1:Env}{r:RS}(x:Ext H σ ρ H1 σ1 ρ1)(h:iB K P D H0 T H σ ρ r):iB K P D H0 T H1 σ1 ρ1 r:=by
 cases r with
 | nx ρ'=>exact fun σ' H' d y=>h σ' H' d (x.trans y)
 | bk ρ'=>exact fun σ' H' d y=>h σ' H' d (x.trans y)
 | ct ρ'=>exact fun σ' H' d y=>h σ' H' d (x.trans y)
 | rt r=>exact h
 | exc z ρ'=>exact fun σ' H' d y=>h σ' H' d (x.trans y)
 | stk=>exact h
theorem PS.imp {st:Stmt}{t t':TS}(p:PS X st t)(h:∀ D σ H,t' D σ H->t D σ H):PS X st t':=fun pins s σ H D I q=>p pins s σ H D I (h D σ H q)
theorem PSs.imp {st:List Stmt}{t t':TS}(p:PSs X st t)(h:∀ D σ H,t' D σ H->t D σ H):PSs X st t':=fun pins s σ H D I q=>p pins s σ H D I (h D σ H q)
variable {st:Stmt}{rest:List Stmt}{F G:FS}
theorem eK:PSs X [] (tS X.K P cI):=PSs.imp aLm fun D σ H ⟨H0,T,ρ,d,h⟩=>h σ H d Ext.refl
theorem aT7 {K:PySem.W.Frag}(D:Ends)(σ:St)(H:Hp)(h:tS K P (aJ F G) D σ H):aLx (tS K P F) (tS K P G) D σ H:=by
 obtain⟨H0,T,ρ,d,h⟩:=h;refine⟨H0,T,ρ,d,?_⟩
 unfold aJ at h;cases e:F ρ with
 | nx ρ1 =>
  rw[e]at h;exact fun σ1 H1 d1 x1=>⟨H0,T,ρ1,d1,h.trans x1⟩
 | bk ρ'=>rw[e]at h;exact h
 | ct ρ'=>rw[e]at h;exact h
 | rt r=>rw[e]at h;exact h
 | exc z ρ'=>rw[e]at h;exact h
 | stk=>rw[e]at h;exact h
theorem aC (h1:PS X st (tS X.K P F))(h2:PSs X rest (tS X.K P G)):PSs X (st :: rest) (tS X.K P (aJ F G)):=PSs.imp (sC h1 h2) aT7
theorem aR (h1:PS X st (tS X.K P F)):PSs X [st] (tS X.K P F):=aDk h1
theorem aMx {K:PySem.W.Frag}{k:Res->Env->RS}{D:Ends}{σ:St}{H:Hp}{q:VK}(hX:X.K=K)(h:tS K P (fun ρ=>(f ρ).at ρ fun r=>k r ρ) D σ H)
 (hk:∀ H0 T ρ v H' r,DenS K H0 H T σ ρ->DenS K H0 H' T σ ρ->aD H H'->aI K H0 H H' (Bs T σ ρ) v r->iB K P D H0 T H σ ρ (k r ρ)->q v H'):tE K P f σ H q:=by
 subst hX;obtain⟨H0,T,ρ,d,h⟩:=h;cases e:f ρ with
 | stk=>simp only[e,R.at]at h;exact h.elim
 | exc x=>simp only[e,R.at]at h;exact dA d.e e (h σ H d Ext.refl)
 | ok r =>
  simp only[e,R.at]at h;exact eV d.e e fun v H' s d' g'=>hk H0 T ρ v H' r d (d.mono s) s g' h
theorem aCe (he:PE X e (tE X.K P f))(hs:swapsWith e none pos.line X.env=pure false:=by rfl):PS X (.Expr e pos) (tS X.K P (kC f)):=by
 refine PS.imp (aDi he hs) ?_
 intro D σ H h;exact aMx (q:=fun _ H1=>D.nx σ H1) rfl h fun H0 T ρ v H' r d d' s g h=>h σ H' d' (Ext.same s)
theorem aPt {K:PySem.W.Frag}{H0 H H':Hp}{T:Addr->Prop}{σ:St}{ρ:Env}{v:V}{r:Res}(d:DenS K H0 H T σ ρ)(g:aI K H0 H H' (Bs T σ ρ) v r):mD K H0 H' T v ⟨if r.k=.shr then .shr else .tmp,r.fr,r.d⟩:=by
 unfold aI at g;unfold mD;cases k:r.k with
 | shr=>rw[k]at g;exact Rep.same (aP (fun _ _ q _=>q) fun b z=>.inl (.inr z)) g
 | own =>
  rw[k]at g;obtain⟨a,o,h1,h2,h3,h4,h5⟩:=g;exact⟨a,o,h1,h3,h4,h5.same (aP (fun _ _ q _=>q) fun b z=>.inl (z.elim .inr fun z=>by rw[z];exact h2))⟩
 | tmp =>
  rw[k]at g;obtain⟨a,o,h1,h2,h3,h4⟩:=g;exact⟨a,o,h1,d.e.sam.none h2,h3,h4.same (aP (fun _ _ q _=>q) fun b z=>.inl (z.imp .inr id))⟩
 | old=>rw[k]at g;exact g.elim
theorem dW (he:PE X e (tE X.K P f)):PS X (.Return (some e) pos) (tS X.K P (bI f)):=by
 refine PS.imp (aRj he) ?_
 intro D σ H h;exact aMx (q:=D.rt) (k:=fun r ρ=>.rt ⟨if r.k=.shr then .shr else .tmp,r.fr,r.d⟩) rfl h fun H0 T ρ v H' r d d' s g h=>h v H' d'.e.sam (aPt d g)
theorem aBa {K:PySem.W.Frag}{D:Ends}{H0 H H':Hp}{T:Addr->Prop}{σ:St}{ρ:Env}{v:V}{r:Res}{i:Nat}(d:DenS K H0 H T σ ρ)(s:aD H H')(g:aI K H0 H H' (Bs T σ ρ) v r)(h:iB K P D H0 T H σ ρ ((r.keep).at ρ fun e=>.nx (ρ.set i (some e)))) :
 D.nx (σ.set i (some v)) H':=by
 unfold Res.keep at h;unfold aI at g;cases k:r.k with
 | shr =>
  rw[k]at g h;have d':=(d.mono s).set_shr (i:=i) g;refine h _ H' ?_ ⟨fun b o q _=>s b o q,fun b z=>.inl ?_⟩
  · have e:r=⟨.shr,r.fr,r.d⟩:=by rw[←k]
    rw[e];exact d'.1
  · have e:r=⟨.shr,r.fr,r.d⟩:=by rw[←k]
    rw[e]at z;exact d'.2 b z
 | own=>rw[k]at h;exact h.elim
 | old=>rw[k]at h;exact h.elim
 | tmp =>
  rw[k]at g h;obtain⟨a,o,h1,h2,h3,h4⟩:=g;subst h1;have d':=d.set_con (i:=i) s h2 h3 h4;simp only[R.at]at h;exact h _ H' d'.1 d'.2
theorem bK {i:Nat}{x:Str}{pos':Pos}(hN:X.N.Nodup)(hi:X.N[i]?=some x)(hx:Loc X.env.scope x)(he:PE X e (tE X.K P f))(hs:swapsWith e (some (.Name x pos')) pos.line X.env=pure false:=by rfl)(hf:X.fn x=true\/X.env.scope.names.lookup x=some .local:=by first | exact .inl rfl | exact .inr rfl | assumption) :
 PS X (.Assign [.Name x pos'] e pos) (tS X.K P (aF i f)):=by
 refine PS.imp (aPl hN hi hx he hs hf) ?_
 intro D σ H h;exact aMx (q:=fun v H1=>D.nx (σ.set i (some v)) H1) (k:=fun r ρ=>(r.keep).at ρ fun e=>.nx (ρ.set i (some e))) rfl h fun H0 T ρ v H' r d d' s g h=>aBa d s g h
theorem yN {scope:Scope}{N:List Str}{k:Nat}{cs:List Nat}{tg iter elt:Expr}{ifs:List Expr}{t:Tg}{it:FI}{fb:FB}{i:Nat}{y:Str}{py spos:Pos}(hc:X.calm=true)(hN:X.N.Nodup)(hi':X.N[i]?=some y)(hy:X.env.scope.names.lookup y=some .local)
 (C:CompOk X scope N k cs) (hi:PI X tg iter (tI X.K P it)) (hg:∀ fp s H,PG (cF X scope N fp s H) tg (gOf X.K t)) (gl:uX k (gOf X.K t)) (hb:∀ fp s H,PB (cF X scope N fp s H) ifs elt (tBm X.K XP0 fb))
 (hsw:swapsWith (.ListComp elt [⟨tg,iter,ifs,0⟩] scope pos) (some (.Name y py)) spos.line X.env=pure true:=by rfl) (hs:∀ x,foldedSetIterable iter X.env x=pure x:=by intro _;rfl) :
 PS X (.Assign [.Name y py] (.ListComp elt [⟨tg,iter,ifs,0⟩] scope pos) spos) (tS X.K P (aF i (aW it k cs t fb))):=by
 refine PS.imp (aNo (i:=i) hc hN hi' hy C hi hg gl hb hsw hs) ?_
 intro D σ H h;have h':=aMx (f:=aW it k cs t fb) (q:=fun v H1=>D.nx (σ.set i (some v)) H1) (k:=fun r ρ=>(r.keep).at ρ fun e=>.nx (ρ.set i (some e))) rfl h fun H0 T ρ v H' r d d' s g h=>aBa d s g h;exact aKp σ H _ h'
theorem aVt {t:FT}{D:Ends}{σ:St}{H:Hp}{F G:FS}(h:tS X.K P (ifS t F G) D σ H):tT X.K P t σ H fun b H1=>if b=true then tS X.K P F D σ H1 else tS X.K P G D σ H1:=by
 obtain⟨H0,T,ρ,d,h⟩:=h;unfold ifS at h;refine⟨H0,_,ρ,d.e,?_⟩
 cases e:t ρ with
 | stk=>simp only[e,R.at]at h;exact h.elim
 | exc x=>simp only[e,R.at]at h;exact h σ H d Ext.refl
 | ok k =>
  simp only[e,R.at]at h;intro H1 s1;cases k with
  | true=>exact aI5 ⟨H0,T,ρ,d.mono s1,iB.trans (Ext.same s1) h⟩
  | false=>exact aHn ⟨H0,T,ρ,d.mono s1,iB.trans (Ext.same s1) h⟩
theorem fX {t:FT}{sa sb:List Stmt}(hc:PT X c (tT X.K P t))(ha:PSs X sa (tS X.K P F))(hb:PSs X sb (tS X.K P G)):PS X (.If c sa sb pos) (tS X.K P (ifS t F G)):=by
 refine PS.imp (aTr hc ha hb) ?_
 intro D σ H h;exact aVt h
theorem tP {i:Nat}(h:PS X st (tS X.K P F)):PS X st (tS X.K P (gJ i F)):=by
 refine PS.imp h ?_
 rintro D σ H ⟨H0,T,ρ,d,h⟩
 obtain⟨d',x⟩:=d.freeze i;exact⟨H0,T,frz i ρ,d',iB.trans x h⟩
theorem zU {i:Nat}{x:Str}{p ap cp:Pos}(hN:X.N[i]?=some x)(hv:Vis X.env.scope x)(he:PE X e (tE X.K P f))(hd:(x==("__debug__":Str))=false:=by decide)(hcd:(x==("__classdict__":Str))=false:=by decide)
 (h1:starEach [e] X.env=[(false,eval e X.env)]:=by rfl) (hbase:attributeBase (.Name x p) "append" X.env (eval (.Name x p) X.env)=eval (.Name x p) X.env:=by rfl)
 (hfew:((backTo cp (starEach [e] X.env)).all (fun x=>!x.1)&&(backToKw cp (keywordEach [] X.env)).all (fun x=>x.1.isSome)&&decide ([e].length+([]:List Keyword).length+(if ([]:List Keyword).isEmpty then 0 else 1)<30))=true:=by rfl)
 (hline:(ap.endLine==cp.line)=true:=by rfl)
 (hs:swapsWith (.Call (.Attribute (.Name x p) "append" ap) [e] [] cp) none pos.line X.env=pure false:=by rfl) :
 PS X (.Expr (.Call (.Attribute (.Name x p) "append" ap) [e] [] cp) pos) (tS X.K P (kJ i f)):=by
 refine PS.imp (aDi (aSq PySem.F.plainAttrs_list PySem.F.slot_list_append PySem.F.type_list_append vO (pO hN hv hd hcd) (nQ he xB h1) hbase hfew hline (hs:=h1)) hs) ?_
 rintro D σ H ⟨H0,T,ρ,d,h⟩
 unfold kJ at h;cases e3:uL i ρ with
 | stk=>simp only[e3,R.at]at h;exact h.elim
 | exc z=>unfold uL at e3;split at e3<;>cases e3
 | ok y =>
  simp only[e3,R.at]at h;have ho:=aDy e3;obtain⟨a,vs,q1,q2,q3,q4⟩:=d.own ho;refine⟨_,q1,.inl ⟨rfl,vs,SqL.of q3⟩,?_⟩
  cases e1:f ρ with
  | stk=>simp only[e1]at h;exact h.elim
  | exc z=>simp only[e1]at h;exact dA d.e e1 (h σ H d Ext.refl)
  | ok r =>
   simp only[e1]at h;refine eV d.e e1 fun v H' s d' g'=>?_
   cases e2:r.give with
   | stk=>simp only[e2]at h;exact h.elim
   | exc z=>unfold Res.give at e2;split at e2<;>cases e2
   | ok r' =>
    simp only[e2]at h;obtain⟨g1,g2⟩:=g'.give d.e e2;subst g1;by_cases hz:y.2.length<sizeLine
    · rw[if_pos hz]at h
      have dS:=d.mono s;have q4':aE X.K (aU y.1 H0 H' (Bs T σ ρ)) y.2 vs:=aE.same (aP (fun b o q _=>s b o q) fun b z=>.inl z) q4;refine⟨a,vs,v,rfl,rfl,s _ _ q3,by rw[←q4.length];exact hz,?_⟩
      obtain⟨w1,w2⟩:=dS.write (fr:=y.1&&r.fr) (ds:=y.2++[r.d]) (vs:=vs++[v]) q1 ho rfl q2 (q4'.andL.append (aE.one g2).andR);exact h σ _ w1 ((Ext.same s).trans w2)
    · rw[if_neg hz]at h;exact h.elim
theorem aSr {i:Nat}{x:Str}{j:Expr}{p tp:Pos}(hN:X.N[i]?=some x)(hv:Vis X.env.scope x)(hj:PE X j (tE X.K P g))(he:PE X e (tE X.K P f))(hd:(x==("__debug__":Str))=false:=by decide)(hcd:(x==("__classdict__":Str))=false:=by decide)
 (ha:∀ v,assign (.Subscript (.Name x p) j tp) X.env v=(do
  let ov ← holding [v] (eval (.Name x p) X.env)
  let iv ← holding [v,ov] (eval j X.env)
  standAt tp
  holding [v,ov,iv] (setItem ov iv v)
  release [v,ov,iv] []):=by intro _;rfl)
 (hs:swapsWithSole [.Subscript (.Name x p) j tp] e pos.line X.env=pure false:=by rfl) (hw:swappedStores [.Subscript (.Name x p) j tp] e X.env=pure none:=by rfl)
 (h1:(assignEach [.Subscript (.Name x p) j tp] X.env).map (·.2)=[assign (.Subscript (.Name x p) j tp) X.env]:=by rfl) :
 PS X (.Assign [.Subscript (.Name x p) j tp] e pos) (tS X.K P (xZ i g f)):=by
 refine PS.imp (aQj he (aP9 (pO hN hv hd hcd) hj aJd ha) hs hw h1) ?_
 rintro D σ H ⟨H0,T,ρ,d,h⟩
 unfold xZ at h;show tE X.K P f σ H fun v H1=>xK i σ H1 fun o H2=>tE X.K P g σ H2 fun k H3=>aOi o k v H3 fun H4=>D.nx σ H4
 cases e1:f ρ with
 | stk=>simp only[e1,R.at]at h;exact h.elim
 | exc z=>simp only[e1,R.at]at h;exact dA d.e e1 (h σ H d Ext.refl)
 | ok r =>
  simp only[e1,R.at]at h;refine eV d.e e1 fun v H1 s1 d1 g1=>?_
  cases e2:r.give with
  | stk=>simp only[e2]at h;exact h.elim
  | exc z=>unfold Res.give at e2;split at e2<;>cases e2
  | ok r' =>
   simp only[e2]at h;obtain⟨w1,w2⟩:=g1.give d.e e2;subst w1;cases e3:uL i ρ with
   | stk=>simp only[e3]at h;exact h.elim
   | exc z=>unfold uL at e3;split at e3<;>cases e3
   | ok y =>
    simp only[e3]at h;have ho:=aDy e3;obtain⟨a,vs,q1,q2,q3,q4⟩:=d.own ho;refine⟨_,q1,?_⟩
    cases e4:g ρ with
    | stk=>simp only[e4]at h;exact h.elim
    | exc z=>simp only[e4]at h;exact dA d1 e4 (h σ H1 (d.mono s1) (Ext.same s1))
    | ok jr =>
     simp only[e4]at h;refine eV d1 e4 fun kv H2 s2 d2 g2=>?_
     cases e5:asI jr.d with
     | stk=>simp only[e5]at h;exact h.elim
     | exc z=>exact(cM e5).elim
     | ok k =>
      simp only[e5]at h;cases e6:ixN y.2.length k with
      | none=>simp only[e6]at h;exact h.elim
      | some n =>
       simp only[e6]at h;have s:=s1.trans s2;have dS:=d.mono s;have m:∀ fr,aD (aU fr H0 H (Bs T σ ρ)) (aU fr H0 H2 (Bs T σ ρ)):=fun fr=>aP (fun b o q _=>s b o q) fun b z=>.inl z;have m1:∀ fr,aD (aU fr H0 H1 (Bs T σ ρ)) (aU fr H0 H2 (Bs T σ ρ)):=fun fr=>aP (fun b o q _=>s2 b o q) fun b z=>.inl z;refine⟨a,vs,k,n,rfl,g2.int (dI e5),s _ _ q3,by rw[←q4.length];exact e6,?_⟩
       have ra:Rep X.K (aU (y.1&&r.fr) H0 H2 (Bs T σ ρ)) r.d v:=by
        obtain⟨_,_,z1,z2,_⟩:=(aE.one (Rep.same (m1 _) w2)).andR (fr:=y.1);cases z1;exact z2
       obtain⟨v1,v2⟩:=dS.write (fr:=y.1&&r.fr) (ds:=y.2.set n r.d) (vs:=vs.set n v) q1 ho rfl q2 (aE.set ra n (aE.same (m _) q4).andL);exact h σ _ v1 ((Ext.same s).trans v2)
theorem lL {iter:Expr}{body:List Stmt}{tg:Expr}{t:Tg}{it:FI}(hp:PassesOwn (model X.prog X.w) X.A X.env X.xe)(hc:X.calm=true)(hi:PI X tg iter (tI X.K P it))(hg:PG X tg (gOf X.K t))(hb:PSs X body (tS X.K P F))
 (hs:∀ x,foldedSetIterable iter X.env x=pure x:=by intro _;rfl):PS X (.For tg iter body [] pos) (tS X.K P (dR it t F)):=by
 refine PS.imp (aPj hp hc hi hg hb hs) ?_
 rintro D σ H ⟨H0,T,ρ,d,h⟩
 unfold dR at h;refine⟨H0,_,ρ,d.e,?_⟩
 cases e:it ρ with
 | stk=>simp only[e,R.at]at h;exact h.elim
 | exc z=>simp only[e,R.at]at h;exact h σ H d Ext.refl
 | ok w =>
  simp only[e,R.at]at h;by_cases hst:w.st=true
  · rw[if_pos hst]at h
    intro J H1 s1 hw;obtain⟨A,hA,hwk⟩:=hw;refine⟨fun i m σ' H'=>m=w.ds.length-i/\i<=w.ds.length/\∃ ρi,DenS X.K H0 H' T σ' ρi/\Ext H1 σ ρ H' σ' ρi/\iB X.K P D H0 T H1 σ ρ (fG t F w.fr (w.ds.drop i) ρi),⟨w.ds.length,rfl,Cc _,ρ,d.mono s1,Ext.refl,iB.trans (Ext.same s1) h⟩,?_⟩
    rintro i m σ' H' ⟨hm,hi',ρi,di,xi,pi⟩
    have wk:=hwk H' (Bs T σ' ρi) (fun a o ha q=>xi.kp a o q fun z=>hA hst a ha (.inl z)) (fun b o q n=>xi.kp b o q fun z=>n (.inl z)) (fun b z=>?_) (fun b z=>let ⟨o,q,_⟩:=di.e.bnd b z;⟨o,q⟩) di.e.sam i
    · by_cases hlt:i<w.ds.length
      · refine .inr ?_
        have hd:w.ds[i]?=some w.ds[i]:=Ae hlt;obtain⟨go,yl⟩:=wk.2 _ hd;refine⟨go,fun σ'' H''=>w.ds.length-(i+1)=w.ds.length-(i+1)/\i+1<=w.ds.length/\∃ ρi,DenS X.K H0 H'' T σ'' ρi/\Ext H1 σ ρ H'' σ'' ρi/\iB X.K P D H0 T H1 σ ρ (fG t F w.fr (w.ds.drop (i+1)) ρi),fun σ'' H'' q=>⟨_,by omega,q⟩,fun x H3 y3=>?_⟩
        obtain⟨s3,rx⟩:=yl x H3 y3;rw[List.drop_eq_getElem_cons hlt]at pi;simp only[fG]at pi;cases e1:t.bind w.fr w.ds[i] ρi with
        | stk=>simp only[e1,R.at]at pi;exact pi.elim
        | exc z=>exact(aBf _ _ _ e1).elim
        | ok ρ1 =>
         simp only[e1,R.at]at pi;refine yB (G:=aU w.fr H0 H3 (Bs T σ' ρi)) (fr:=w.fr) (I:=fun σ2 ρ2=>DenS X.K H0 H3 T σ2 ρ2/\∀ a,oV σ2 ρ2 a->oV σ' ρi a) fV (fun σ2 ρ2 j dd v ⟨D2,O2⟩ r=>?_) t _ x σ' ρi ρ1 _ e1 rx ⟨di.mono s3,fun a z=>z⟩ fun σ4 ⟨d4,o4⟩=>?_
         · have:=D2.set_shr (i:=j) (Rep.same (aP (fun _ _ q _=>q) fun b z=>.inl (z.imp (O2 b) id)) r)
           exact⟨this.1,fun a z=>O2 a (this.2 a z)⟩
         · have x4:Ext H1 σ ρ H3 σ4 ρ1:=xi.trans ⟨fun b o q _=>s3 b o q,fun b z=>.inl (o4 b z)⟩
           refine⟨H0,T,ρ1,d4,?_⟩
           cases e2:F ρ1 with
           | stk=>simp only[e2]at pi;exact pi
           | nx ρ2=>simp only[e2]at pi;exact fun σ5 H5 d5 x5=>⟨rfl,hlt,ρ2,d5,x4.trans x5,pi⟩
           | ct ρ2=>simp only[e2]at pi;exact fun σ5 H5 d5 x5=>⟨rfl,hlt,ρ2,d5,x4.trans x5,pi⟩
           | bk ρ2=>simp only[e2]at pi;exact fun σ5 H5 d5 x5=>pi σ5 H5 d5 (x4.trans x5)
           | rt r=>simp only[e2]at pi;exact pi
           | exc z ρ2=>simp only[e2]at pi;exact fun σ5 H5 d5 x5=>pi σ5 H5 d5 (x4.trans x5)
      · refine .inl ⟨wk.1 (by omega),?_⟩
        rw[Ex (by omega)]at pi
        exact pi σ' H' di xi
    · rcases z with z | z
      · exact(xi.ow b z).imp .inl id
      · exact .inl (.inr z)
  · rw[if_neg hst]at h;exact h.elim
theorem aO1 {t:FT}{body:List Stmt}(hp:PassesOwn (model X.prog X.w) X.A X.env X.xe)(hc:PT X c (tT X.K P t))(hb:PSs X body (tS X.K P F)):PS X (.While c body [] pos) (tS X.K P (aB1 t F)):=by
 refine PS.imp (aHp hp hc hb) ?_
 rintro D σ H ⟨H0,T,ρ,d,h⟩
 refine⟨fun m σ' H'=>∃ ρi,DenS X.K H0 H' T σ' ρi/\Ext H σ ρ H' σ' ρi/\iB X.K P D H0 T H σ ρ (mU t F m ρi),⟨2^64,ρ,d,Ext.refl,h⟩,?_⟩
 rintro m σ' H' ⟨ρi,di,xi,pi⟩
 cases m with
 | zero=>exact pi.elim
 | succ n =>
  simp only[mU]at pi;refine⟨H0,_,ρi,di.e,?_⟩
  cases e:t ρi with
  | stk=>simp only[e,R.at]at pi;exact pi.elim
  | exc z=>simp only[e,R.at]at pi;exact pi σ' H' di xi
  | ok k =>
   simp only[e,R.at]at pi;intro H1 s1;have x1:Ext H σ ρ H1 σ' ρi:=xi.trans (Ext.same s1);cases k with
   | false=>exact aHn (pi σ' H1 (di.mono s1) x1)
   | true =>
    rw[if_pos rfl]at pi;refine aI5 ⟨fun σ'' H''=>∃ ρi,DenS X.K H0 H'' T σ'' ρi/\Ext H σ ρ H'' σ'' ρi/\iB X.K P D H0 T H σ ρ (mU t F n ρi),fun σ'' H'' q=>⟨n,Hv n,q⟩,H0,T,ρi,di.mono s1,?_⟩
    cases e2:F ρi with
    | stk=>simp only[e2]at pi;exact pi
    | nx ρ2=>simp only[e2]at pi;exact fun σ5 H5 d5 x5=>⟨ρ2,d5,x1.trans x5,pi⟩
    | ct ρ2=>simp only[e2]at pi;exact fun σ5 H5 d5 x5=>⟨ρ2,d5,x1.trans x5,pi⟩
    | bk ρ2=>simp only[e2]at pi;exact fun σ5 H5 d5 x5=>pi σ5 H5 d5 (x1.trans x5)
    | rt r=>simp only[e2]at pi;exact pi
    | exc z ρ2=>simp only[e2]at pi;exact fun σ5 H5 d5 x5=>pi σ5 H5 d5 (x1.trans x5)
end Mir
namespace Mir
open PySem L2
variable {X:Cx}{P:XP}{a b c e:Expr}{es:List Expr}{f g:FE}{fs:FEs}{pos:Pos}
def XD (x:Xc)(dx:Option Addr)(H:Hp):Prop:=match x.ds with
 | []=>dx=none
 | [.int p]=>∃ a,dx=some a/\H a=some (.ext (aEe a p))
 | _=>False
theorem XD.same {x:Xc}{dx:Option Addr}{H H':Hp}(h:XD x dx H)(s:aD H H'):XD x dx H':=by
 obtain⟨c,ds⟩:=x;unfold XD at h ⊢;dsimp only at h ⊢
 split at h
 · exact h
 · obtain⟨a,h1,h2⟩:=h
   exact⟨a,h1,s _ _ h2⟩
 · exact h.elim
def spM (K:PySem.W.Frag)(cl:XC->Addr)(φ:Φ):Sp:=fun vs H Q E=>∃ ds B,(∀ b,B b->∃ o,H b=some o/\stab o=false)/\aE K (cut H B) ds vs/\match φ ds with
 | .ok r=>∀ v H',aD H H'->mD K H H' B v r->Q v H'
 | .exc x=>∀ H' dx,aD H H'->XD x dx H'->E (.ref (cl x.c)) dx H'
 | .stk=>False
def Thr (CX:CXT)(cl:XC->Addr)(X:Cx)(P:XP):Prop:=∀ (pins:List (Addr×Obj)) (σ:St) (H:Hp) (s:Shared) (e:Value) (s':Shared),Inv X pins σ H s->CX X.stack H s (fun c dx H'=>∃ x:Xc,c=.ref (cl x.c)/\XD x dx H'/\P.p x σ H') e s'->X.xe e s'
theorem aKy {CX:CXT}{k:Nat}{fa:Addr}{fd:FuncData}{ps:List Str}{sp:Sp}{E:XK}{pins:List (Addr×Obj)}{σ:St}{H:Hp}{s:Shared}{Q:VK}{us:List Value}{vs:List V}(F:FnOk X.prog X.w X.K X.mg X.base CX k fa fd ps sp)(hr:Room k X.A)(hb:mG X.K fd ps [])
 (hx:∀ e s',CX X.stack H s E e s'->X.xe e s') (I:Inv X pins σ H s) (r:bA vs us) (h:sp vs H Q E):wpAny (model X.prog X.w) X.A (call (.ref fa) us) (EP X pins σ Q) X.xe s:=by
 have hl:us.length=ps.length:=by rw[←r.length];exact F.len _ _ _ _ h
 have hb':=hb s us I.kIn (by rw[De];exact hl)
 rw[De]at hb';refine wpAny_call (codeAny_mono (F.run X.A X.stack s H ⟨us,[]⟩ us vs Q E hr I.env0 hb' r h) fun r s' hq=>?_)
 cases r with
 | error e=>exact hx e s' hq
 | ok fl =>
  cases fl with
  | ret u=>exact I.after hq
  | next=>exact False.elim hq
  | brk=>exact False.elim hq
  | cont=>exact False.elim hq
theorem dY.plain {K:PySem.W.Frag}{H0 H H':Hp}{B:Addr->Prop}{σ:St}{ρ:Env}{Z:Addr->Prop}(den:DenE K H0 H B σ ρ):∀ {vs:List V} {rs:List Res},dY K H0 H H' B vs rs->(∀ b,Z b->B b/\V.ref b∉vs)->aE K (cut H' Z) (rs.map (·.d)) vs
 | [],_,h,_=>by rw[show _=[] from h];rfl
 | v :: vs,_,⟨r,rr,e,g,gs⟩,hz=>by
  subst e;refine⟨v,vs,rfl,?_,dY.plain den gs fun b z=>⟨(hz b z).1,fun q=>(hz b z).2 (Ac _ q)⟩⟩
  have m:∀ fr,aD (aU fr H0 H' B) (cut H' Z):=fun fr=>eM (fun _ _ q _=>q) fun b z=>.inl (.inl (hz b z).1);unfold aI at g;cases k:r.k with
  | shr=>rw[k]at g;exact Rep.same (m _) g
  | own =>
   rw[k]at g;obtain⟨a,o,h1,h2,h3,h4,h5⟩:=g;subst h1;exact h5.rep (m _) (aM.mpr ⟨fun z=>(hz a z).2 Ab,h4⟩)
  | old=>rw[k]at g;exact g.elim
  | tmp =>
   rw[k]at g;obtain⟨a,o,h1,h2,h3,h4⟩:=g;subst h1;exact h4.rep (eM (fun _ _ q _=>q) fun b z=>.inl (.inl (.inl (hz b z).1))) (aM.mpr ⟨fun z=>(hz a z).2 Ab,h3⟩)
theorem aBu:∀ {rs:List Res} {y:Bool×List D},gives rs=.ok y->y.2=rs.map (·.d)
 | [],y,e=>by simp[gives]at e;subst e;rfl
 | r :: rs,y,e=>by
  simp only[gives]at e;cases e2:r.give with
  | stk=>simp[e2]at e
  | exc x=>simp[e2]at e
  | ok r' =>
   cases e3:gives rs with
   | stk=>simp[e2,e3]at e
   | exc x=>simp[e2,e3]at e
   | ok y' =>
    simp only[e2,e3,R.ok_bind]at e;cases e
    have:r'.d=r.d:=by
     unfold Res.give at e2;split at e2
     · cases e2
     · cases e2;rfl
    simp[aBu e3,this]
theorem aF9 {cl:XC->Addr}{φ:Φ}{σ:St}{H:Hp}{Q:VK}(h:tE X.K P (aL φ fs) σ H Q):tAs X.K P fs σ H fun vs H1=>spM X.K cl φ vs H1 Q (fun c dx H'=>∃ x:Xc,c=.ref (cl x.c)/\XD x dx H'/\P.p x σ H'):=by
 refine tA1 h ?_
 intro H0 B ρ vs H' rs d0 d gs s h;cases e:φ (rs.map (·.d)) with
 | stk=>simp[e]at h
 | exc x =>
  simp[e]at h
  refine⟨rs.map (·.d),fun _=>False,fun _ z=>z.elim,gs.plain d0 (fun _ z=>z.elim),?_⟩
  rw[e];exact fun H2 dx s2 xd=>⟨x,rfl,xd,P.mono h s2⟩
 | ok r =>
  simp only[e,R.ok_bind]at h;by_cases hf:r.fr=true
  · rw[if_pos hf]at h
    refine⟨rs.map (·.d),fun b=>B b/\V.ref b∉vs,fun b z=>d.bnd b z.1,gs.plain d0 (fun _ z=>z),?_⟩
    rw[e];intro v H2 s2 ro;refine h v H2 s2 ?_
    have ban:∀ b o,H2 b=some o->¬ Ban true H' (fun b=>B b/\V.ref b∉vs) b->¬ Ban true H0 B b:=fun b o q n z=>by
     rcases z with z | ⟨_,o',z1,z2⟩
     · obtain⟨o',z1,z2⟩:=d.bnd b z
       exact n (.inr ⟨rfl,o',z1,z2⟩)
     · exact n (.inr ⟨rfl,o',d.sam _ _ z1,z2⟩)
    unfold mD at ro;unfold aI;cases k:r.k with
    | shr =>
     rw[k]at ro;simp only[if_true];rw[hf]at ro;exact Rep.same (fun b o q=>let ⟨q1,q2⟩:=aM.mp q;aM.mpr ⟨ban b o q2 q1,q2⟩) ro
    | own =>
     rw[k]at ro;obtain⟨a,o',h1,h2,h3,h5⟩:=ro;rw[hf]at h5;refine⟨a,o',h1,s.none h2,h3,h5.same (fun b o q=>?_)⟩
     obtain⟨q1,q2⟩:=aM.mp q;refine aM.mpr ⟨fun z=>?_,q2⟩
     rcases z with (z | z) | z
     · exact ban b o q2 (fun w=>q1 (w.imp .inl id)) (.inl z)
     · exact q1 (.inl (.inr z))
     · exact ban b o q2 (fun w=>q1 (w.imp .inl id)) (.inr z)
    | old =>
     rw[k]at ro;obtain⟨a,o',h1,h2,h3,h5⟩:=ro;rw[hf]at h5;refine⟨a,o',h1,s.none h2,h3,h5.same (fun b o q=>?_)⟩
     obtain⟨q1,q2⟩:=aM.mp q;refine aM.mpr ⟨fun z=>?_,q2⟩
     rcases z with (z | z) | z
     · exact ban b o q2 (fun w=>q1 (w.imp .inl id)) (.inl z)
     · exact q1 (.inl (.inr z))
     · exact ban b o q2 (fun w=>q1 (w.imp .inl id)) (.inr z)
    | tmp =>
     rw[k]at ro;obtain⟨a,o',h1,h2,h3,h5⟩:=ro;rw[hf]at h5;refine⟨a,o',h1,s.none h2,h3,h5.same (fun b o q=>?_)⟩
     obtain⟨q1,q2⟩:=aM.mp q;refine aM.mpr ⟨fun z=>?_,q2⟩
     rcases z with (z | z) | z
     · exact ban b o q2 (fun w=>q1 (w.imp .inl id)) (.inl z)
     · exact q1 (.inl (.inr z))
     · exact ban b o q2 (fun w=>q1 (w.imp .inl id)) (.inr z)
  · rw[if_neg hf]at h
    have hf':r.fr=false:=by cases q:r.fr with | true=>exact absurd q hf | false=>rfl
    cases e2:gives rs with
    | stk=>simp[e2]at h
    | exc x=>exact(iO e2).elim
    | ok y =>
     simp only[e2,R.ok_bind]at h;have re:=gs.gives d0 e2;rw[aBu e2]at re;refine⟨rs.map (·.d),Ban y.1 H0 B,fun b z=>?_,re,?_⟩
     · rcases z with z | ⟨_,o,z1,z2⟩
       · exact d.bnd b z
       · exact⟨o,d.sam _ _ z1,z2⟩
     · rw[e]
       intro v H2 s2 ro;refine h v H2 s2 ?_
       unfold mD at ro;unfold aI;cases k:r.k with
       | shr =>
        rw[k,hf']at ro;simp only[if_true];exact Rep.same (eM (fun _ _ q _=>q) fun b z=>.inl (.inl z)) ro
       | own =>
        rw[k,hf']at ro;obtain⟨a,o',h1,h2,h3,h5⟩:=ro;refine⟨a,o',h1,s.none h2,h3,h5.same (eM (fun _ _ q _=>q) fun b z=>.inl (.inl ?_))⟩
        rcases z with (z | z) | z
        · exact .inl (.inl z)
        · exact .inr z
        · exact .inl (.inr z)
       | old =>
        rw[k,hf']at ro;obtain⟨a,o',h1,h2,h3,h5⟩:=ro;refine⟨a,o',h1,s.none h2,h3,h5.same (eM (fun _ _ q _=>q) fun b z=>.inl (.inl ?_))⟩
        rcases z with (z | z) | z
        · exact .inl (.inl z)
        · exact .inr z
        · exact .inl (.inr z)
       | tmp =>
        rw[k,hf']at ro;obtain⟨a,o',h1,h2,h3,h5⟩:=ro;refine⟨a,o',h1,s.none h2,h3,h5.same (eM (fun _ _ q _=>q) fun b z=>.inl (.inl ?_))⟩
        rcases z with (z | z) | z
        · exact .inl (.inl z)
        · exact .inr z
        · exact .inl (.inr z)
variable {x:Str}{p:Pos}{ps:List Str}{k:Nat}{CX:CXT}{cl:XC->Addr}{φ:Φ}
theorem cL (cc:aK X.prog X.w X.K X.mg X.base CX k x ps (spM X.K cl φ))(hr:Room k X.A)(hg:Gl X x)(ht:Thr CX cl X P)(ha:PA X (e :: es) (tAs X.K P fs))
 (hdb:(x==("__debug__":Str))=false:=by decide) (he:starEach (e :: es) X.env=(false,eval e X.env) :: starEach es X.env:=by rfl) (hpl:(backTo pos (starEach es X.env)).any (·.1)=false:=by rfl) :
 PE X (.Call (.Name x p) (e :: es) [] pos) (tE X.K P (aL φ fs)):=by
 obtain⟨fa,fd,F,m,kp,b⟩:=cc;intro pins s σ H Q I h;refine wpAny_Call_Name_kw (yK I hg m ?_ hdb)
 refine PySem.W.callWith_K (h₀:=X.base) I.ok.mod.kin kp (thn (ha pos pins s σ H _ I (aF9 (cl:=cl) h)) fun us s1 ⟨vs,H1,I1,r,q⟩=>⟨I1.kIn,?_⟩) he hpl
 exact aKy F hr b (fun e s' hq=>ht pins σ H1 s1 e s' I1 hq) I1 r q
theorem DenS.start {K:PySem.W.Frag}{H:Hp}{B:Addr->Prop}{vs:List V}{ds:List D}{N:List Str}(hB:∀ b,B b->∃ o,H b=some o/\stab o=false)(r:aE K (cut H B) ds vs):DenS K H H B (L2.start N vs) (stE N.length ds):=by
 have no:∀ i a,¬ gG (L2.start N vs) (stE N.length ds) i a:=fun i a ⟨_,e,h2,h3⟩=>by
  unfold stE at h2;by_cases hi:i<ds.length
  · rw[Bm (by simpa using hi),Ao]at h2
    cases q:ds[i]? with
    | none=>rw[q]at h2;cases h2
    | some d=>rw[q]at h2;cases h2;cases h3
  · rw[Au (by simpa using hi),Et]at h2
    split at h2<;>cases h2
 refine⟨⟨?_,aD.refl H,fun b z=>?_,fun i e he=>?_⟩,fun a ⟨i,z⟩=>(no i a z).elim,fun i j a z _=>(no i a z).elim⟩
 · unfold stE L2.start
   simp[r.length]
 · rcases z with ⟨i,z⟩ | z
   · exact(no i b z).elim
   · exact hB b z
 · unfold stE at he
   by_cases hi:i<ds.length
   · rw[Bm (by simpa using hi),Ao]at he
     cases q:ds[i]? with
     | none=>rw[q]at he;cases he
     | some d =>
      rw[q]at he;cases he;obtain⟨v,q1,q2⟩:=r.get q;refine⟨v,?_,?_⟩
      · unfold L2.start
        have:i<vs.length:=by rw[←r.length];exact hi
        rw[Bm (by simpa using this),Ao,q1]
        rfl
      · refine Rep.same (eM (fun _ _ q _=>q) fun b z=>.inl ?_) q2
        rcases z with (⟨j,z⟩ | z) | ⟨z,_⟩
        · exact(no j b z).elim
        · exact z
        · cases z
   · rw[Au (by simpa using hi),Et]at he
     split at he<;>cases he
theorem mD.fr {K:PySem.W.Frag}{H0 H':Hp}{T:Addr->Prop}{v:V}{r:Res}(s:aD H0 H')(h:mD K H0 H' T v r):mD K H0 H' T v ⟨r.k,r.fr||r.d.imm,r.d⟩:=by
 unfold mD at h ⊢;cases k:r.k with
 | shr=>rw[k]at h;exact Rep.fr s h
 | own =>
  rw[k]at h;obtain⟨a,o,h1,h2,h3,h4⟩:=h;refine⟨a,o,h1,h2,h3,?_⟩
  rw[h4.imm,Gj];exact h4
 | old =>
  rw[k]at h;obtain⟨a,o,h1,h2,h3,h4⟩:=h;refine⟨a,o,h1,h2,h3,?_⟩
  rw[h4.imm,Gj];exact h4
 | tmp =>
  rw[k]at h;obtain⟨a,o,h1,h2,h3,h4⟩:=h;refine⟨a,o,h1,h2,h3,?_⟩
  rw[h4.imm,Gj];exact h4
section
variable {Pg:Program}{w:World}{K:PySem.W.Frag}{mg:Str->Option Value}{base:Heap}
theorem aM6 {φ:Φ}{n:Nat}(h:∀ ds,ds.length≠n->φ ds=.stk):∀ vs H Q E,spM K cl φ vs H Q E->vs.length=n:=fun vs H Q E ⟨ds,B,_,r,q⟩=>by
 rw[←r.length];by_cases e:ds.length=n
 · exact e
 · rw[h ds e]at q;exact q.elim
end
end Mir
namespace Mir
open PySem L2
variable {X:Cx}{P:XP}{a b c e:Expr}{es:List Expr}{f g:FE}{fs:FEs}{pos:Pos}
theorem bQ {i:Nat}{x:Str}(hN:X.N.Nodup)(hi:X.N[i]?=some x)(hx:Loc X.env.scope x)(hf:X.fn x=true\/X.env.scope.names.lookup x=some .local:=by first | exact .inl rfl | exact .inr rfl | assumption):PG X (.Name x pos) (gOf X.K (.nm i)):=by
 unfold gOf;exact aKv hN hi hx hf
theorem gH:PGs X [] (kP X.K []):=by
 unfold kP;exact aNt
theorem bR {t:Tg}{ts:List Tg}(h1:PG X e (gOf X.K t))(h2:PGs X es (kP X.K ts))(hs:(assignEach (e :: es) X.env).map (·.2)=assign e X.env :: (assignEach es X.env).map (·.2):=by rfl):PGs X (e :: es) (kP X.K (t :: ts)):=by
 unfold kP;exact aJz h1 h2 hs
theorem oM {ts:List Tg}{k:Nat}(hc:X.calm=true)(h:PGs X es (kP X.K ts))(hn:(assignEach es X.env).length=ts.length:=by rfl)(hst:(assignEach es X.env).findIdx? (·.1)=none:=by rfl):PG X (.Tuple es k pos) (gOf X.K (.tp ts)):=by
 unfold gOf;exact aRo hc h hn hst
mutual
def Tg.inK (k:Nat):Tg->Bool
 | .nm i=>decide (i<k)
 | .tp ts=>Tg.inKs k ts
def Tg.inKs (k:Nat):List Tg->Bool
 | []=>true
 | t :: ts=>t.inK k&&Tg.inKs k ts
end
mutual
theorem aOo {K:PySem.W.Frag}:∀ t:Tg,aAb (gOf K t)
 | .nm i=>by unfold gOf;exact aFf
 | .tp ts=>by unfold gOf;exact aH3 (aCl ts)
theorem aCl {K:PySem.W.Frag}:∀ ts:List Tg,pY (kP K ts)
 | []=>by unfold kP;exact aFm
 | t :: ts=>by unfold kP;exact aCx (aOo t) (aCl ts)
end
mutual
theorem jT {K:PySem.W.Frag}{k:Nat}:∀ {t:Tg},t.inK k=true->uX k (gOf K t)
 | .nm i,h=>by unfold gOf;exact aJ7 (by simpa[Tg.inK] using h)
 | .tp ts,h=>by unfold gOf;exact aN4 (aOu (by simpa[Tg.inK] using h))
theorem aOu {K:PySem.W.Frag}{k:Nat}:∀ {ts:List Tg},Tg.inKs k ts=true->aBn k (kP K ts)
 | [],_=>by unfold kP;exact aKf
 | t :: ts,h=>by
  have h':t.inK k=true/\Tg.inKs k ts=true:=by simpa[Tg.inKs] using h
  unfold kP;exact aFn (aOo t) (aCl ts) (jT h'.1) (aOu h'.2)
end
def cZ:List D->R (List Int)
 | []=>.ok []
 | d :: r=>do
  let i ← asI d
  let l ← cZ r
  .ok (i :: l)
theorem fK {x:Xc}:∀ {ds:List D},cZ ds=.exc x->False
 | [],h=>by simp[cZ]at h
 | d :: r,h=>by
  simp only[cZ]at h;cases e:asI d with
  | stk=>simp[e]at h
  | exc y=>exact cM e
  | ok i =>
   cases e2:cZ r with
   | stk=>simp[e,e2]at h
   | exc y=>exact fK e2
   | ok l=>simp[e,e2]at h
theorem aE.ints {K:PySem.W.Frag}{G:Hp}:∀ {ds:List D} {vs:List V} {l:List Int},cZ ds=.ok l->aE K G ds vs->vs=l.map V.int
 | [],vs,l,h,r=>by simp[cZ]at h;subst h;exact r
 | d :: r,vs,l,h,⟨x,xr,h1,h2,h3⟩=>by
  simp only[cZ]at h;cases e:asI d with
  | stk=>simp[e]at h
  | exc y=>simp[e]at h
  | ok i =>
   cases e2:cZ r with
   | stk=>simp[e,e2]at h
   | exc y=>simp[e,e2]at h
   | ok l' =>
    simp[e,e2]at h
    subst h;rw[dI e]at h2;rw[h1,aE.ints e2 h3,show x=.int i from h2]
    rfl
variable {p:Pos}
inductive Ty where
 | int | bool | list | tuple | str
 deriving DecidableEq
def Ty.nm:Ty->String
 | .int=>"int"
 | .bool=>"bool"
 | .list=>"list"
 | .tuple=>"tuple"
 | .str=>"str"
def aA8:Ty->D->R Bool
 | .int,.int _=>.ok true
 | .int,.bl _=>.ok true
 | .bool,.bl _=>.ok true
 | .list,.lst _=>.ok true
 | .tuple,.tup _=>.ok true
 | .str,.str _=>.ok true
 | _,.obj _ _=>.stk
 | _,.exc _ _=>.stk
 | _,.any=>.stk
 | _,.dct _ _=>.stk
 | _,_=>.ok false
def aNy (t:Ty)(a:FE):FE:=fun ρ=>do
 let x ← a ρ
 let b ← aA8 t x.d
 .ok (sc (.bl b))
def tyD:D->String
 | .non=>"NoneType"
 | .bl _=>"bool"
 | .int _=>"int"
 | .str _=>"str"
 | .lst _=>"list"
 | .tup _=>"tuple"
 | _=>""
theorem aMf {K:PySem.W.Frag}{H:Hp}{a:Addr}{xs:List V}(h:Rd H a (.lst xs)):TyOf K H (.ref a) (.type "list"):=by
 rcases h with h | ⟨o,h⟩
 · exact .lst h
 · exact .frz h
theorem aI.ty {K:PySem.W.Frag}{H0 H H':Hp}{B:Addr->Prop}{v:V}{r:Res}(g:aI K H0 H H' B v r)(h1:∀ c ds,r.d≠.obj c ds)(h2:∀ c ds,r.d≠.exc c ds)(h3:r.d≠.any)(h4:∀ c ds,r.d≠.dct c ds):TyOf K H' v (.type (tyD r.d)):=by
 cases k:r.d with
 | lst ds=>obtain⟨a,xs,q1,q2,q3⟩:=g.list k;rw[q1];exact aMf q2
 | non=>have:=g.shr_of (by rw[k];rfl);rw[k]at this;rw[show v=.non from this];exact .non
 | bl b=>have:=g.shr_of (by rw[k];rfl);rw[k]at this;rw[show v=.bl b from this];exact .bl b
 | int b=>have:=g.shr_of (by rw[k];rfl);rw[k]at this;rw[show v=.int b from this];exact .int b
 | str b=>have:=g.shr_of (by rw[k];rfl);rw[k]at this;rw[show v=.str b from this];exact .str b
 | tup ds =>
  obtain⟨a,xs,q1,q2,q3⟩:=g.tuple k;rw[q1];exact .tup q2
 | obj c b=>exact absurd k (h1 _ _)
 | exc c b=>exact absurd k (h2 _ _)
 | any=>exact absurd k h3
 | dct c b=>exact absurd k (h4 _ _)
theorem aHh {t:Ty}{d:D}{x:Xc}(h:aA8 t d=.exc x):False:=by
 cases t<;>cases d<;>simp[aA8]at h
theorem oE {t:Ty}{d:D}{b:Bool}(h:aA8 t d=.ok b):(∀ c ds,d≠.obj c ds)/\(∀ c ds,d≠.exc c ds)/\d≠.any/\∀ c ds,d≠.dct c ds:=by
 cases t<;>cases d<;>simp[aA8]at h<;>exact⟨fun _ _ z=>(by cases z),fun _ _ z=>(by cases z),fun z=>(by cases z),fun _ _ z=>(by cases z)⟩
theorem aPi {K:PySem.W.Frag}{t:Ty}{d:D}{b:Bool}(h:aA8 t d=.ok b):Gz K (.type (tyD d)) (.type t.nm)=some b:=by
 cases t<;>cases d<;>simp[aA8]at h<;>subst h<;>rfl
theorem aS6 {t:Ty}{y:Str}{p2:Pos}(hg:Gl X "isinstance")(hm:X.mg "isinstance" = none)(ha:PE X a (tE X.K P f))(hb:PE X (.Name y p2) (tC (.ty t.nm)))(he:starEach [a,.Name y p2] X.env=[(false,eval a X.env),(false,eval (.Name y p2) X.env)]:=by rfl)
 (he2:starEach [.Name y p2] X.env=[(false,eval (.Name y p2) X.env)]:=by rfl):PE X (.Call (.Name "isinstance" p) [a,.Name y p2] [] pos) (tE X.K P (aNy t f)):=by
 refine PE.imp (iX aJo hg hm (by decide +kernel) (nQ ha (nQ hb xB he2) (by rw[he,he2])) (he:=by rw[he,he2]) (hpl:=by rw[he2];rfl)) ?_
 intro σ H Q h;refine t1 (q:=fun v H1=>∃ x t' n b,[v,V.ty t.nm]=[x,.ty n]/\TyOf X.K H1 x t'/\Gz X.K t' (.type n)=some b/\Q (.bl b) H1) h ?_
 intro H0 B ρ v H' r d g s h;cases e:aA8 t r.d with
 | stk=>simp[e]at h
 | exc x=>exact(aHh e).elim
 | ok b =>
  simp only[e,R.ok_bind]at h;exact⟨v,_,t.nm,b,rfl,g.ty (oE e).1 (oE e).2.1 (oE e).2.2.1 (oE e).2.2.2,aPi e,h _ H' (aD.refl _) (aI.sc (show Rep _ _ (.bl _) _ from rfl))⟩
end Mir
namespace Mir
open PySem L2
variable {X:Cx}{P:XP}{a b c e:Expr}{es:List Expr}{f g:FE}{fs:FEs}{pos p:Pos}
def zW:FS:=fun _=>.stk
theorem aGz {st:Stmt}:PS X st (tS X.K P zW):=PS.imp aH8 fun D σ H ⟨H0,T,ρ,d,h⟩=>h
def aFl (a b:FE):FE:=fun ρ=>do
 let x ← a ρ
 let y ← b ρ
 let ds ← asL x.d
 let k ← asI y.d
 if x.k≠.shr/\-(2^63)<=k/\k<2^63/\ds.length*k.toNat<=sizeLine then .ok ⟨.tmp,x.fr,.lst (Aw k.toNat ds).flatten⟩ else .stk
theorem aE.rep {K:PySem.W.Frag}{G:Hp}{ds:List D}{vs:List V}(r:aE K G ds vs):∀ n:Nat,aE K G (Aw n ds).flatten (Aw n vs).flatten
 | 0=>rfl
 | n+1=>by
  rw[Dp,Ep,Dp,Ep];exact r.append (aE.rep r n)
theorem aS4 (ha:PE X a (tE X.K P f))(hb:PE X b (tE X.K P g)):PE X (.BinOp a .Mult b pos) (tE X.K P (aFl f g)):=by
 refine PE.imp (aKk aPr ha hb) ?_
 intro σ H Q h;refine t2 (q:=fun x y H2=>aT4 x y H2 Q) h ?_
 intro H0 B ρ v w H' r r' d g1 g2 s h;cases e1:asL r.d with
 | stk=>simp[e1]at h
 | exc x=>exact(eF e1).elim
 | ok ds =>
  cases e2:asI r'.d with
  | stk=>simp[e1,e2]at h
  | exc x=>exact(cM e2).elim
  | ok k =>
   simp only[e1,e2,R.ok_bind]at h;by_cases hc:r.k≠.shr/\-(2^63)<=k/\k<2^63/\ds.length*k.toNat<=sizeLine
   · rw[if_pos hc]at h
     obtain⟨hk,h1,h2,hz⟩:=hc
     have:∃ a xs,v=.ref a/\H' a=some (.lst xs)/\aE X.K (aU r.fr H0 H' B) ds xs:=by
      have hd:=dE e1;obtain⟨a,o,q1,q2,q3⟩:=g1.con hk;rw[hd]at q3;obtain⟨vs,q4,q5⟩:=q3;subst q4;exact⟨a,vs,q1,q2,q5⟩
     obtain⟨a,xs,q1,q2,q3⟩:=this;exact⟨a,k,xs,q1,g2.int (dI e2),q2,h1,h2,by rw[←q3.length];exact hz,fun p hp=>h _ _ (aD.upd_new hp) (gV d s hp (q3.rep _))⟩
   · rw[if_neg hc]at h;exact h.elim
end Mir
namespace Mir
open PySem
def KD {α:Type}:Sem α->Prop
 | .pure _=>True
 | .raise _=>True
 | .unsupported _=>True
 | .finish _=>True
 | .rule _ k=>KD (k ())
 | .at _ k=>KD (k ())
 | .load _ _ k=>∀ o,KD (k o)
 | .update _ _ f k=>(∀ o:Obj,(f o).dict=o.dict/\(o.isFreed=false->(f o).isFreed=false))/\KD (k ())
 | .loadIfAlive _ k=>∀ o,KD (k o)
 | .point _ k=>KD (k ())
 | .alloc _ k=>∀ a,KD (k a)
 | .fresh k=>∀ a,KD (k a)
 | .ask k=>∀ a,KD (k a)
 | .handled _ k=>∀ a,KD (k a)
 | .stack k=>∀ a,KD (k a)
 | .thread k=>∀ a,KD (k a)
 | _=>False
theorem KD.bind {α β:Type}{m:Sem α}{f:α->Sem β}(h:KD m)(hf:∀ a,KD (f a)):KD (m >>= f):=by
 induction m with
 | pure a=>exact hf a
 | raise e=>exact trivial
 | unsupported w=>exact trivial
 | finish e=>exact trivial
 | rule t k ih=>exact ih () h
 | «at» p k ih=>exact ih () h
 | load a p k ih=>exact fun o=>ih o (h o)
 | update a p g k ih=>exact⟨h.1,ih () h.2⟩
 | loadIfAlive a k ih=>exact fun o=>ih o (h o)
 | point l k ih=>exact ih () h
 | alloc o k ih=>exact fun a=>ih a (h a)
 | fresh k ih=>exact fun a=>ih a (h a)
 | ask k ih=>exact fun a=>ih a (h a)
 | handled o k ih=>exact fun a=>ih a (h a)
 | stack k ih=>exact fun a=>ih a (h a)
 | thread k ih=>exact fun a=>ih a (h a)
 | _=>exact h.elim
theorem aGc {h:Heap}{a:Addr}{o:Obj}(e:h.get? a=some o):o.isFreed=false:=(Heap.get?_some_iff.mp e).2
theorem KD.wp {α:Type}{M:Model}{Γ:Ctx}{Q:α->Pos->Shared->Prop}{E:Value->Pos->Shared->Prop}{e:Addr}{dx:Option Addr}(m:Sem α):KD m->∀ (p:Pos) (s:Shared) (o:Obj),s.heap.get? e=some o->o.dict=dx->Sem.wp M Γ m Q E p s ->
 Sem.wp M Γ m (fun a p s'=>Q a p s'/\∃ o',s'.heap.get? e=some o'/\o'.dict=dx) E p s:=by
 induction m with
 | pure a =>
  intro _ p s o h1 h2 h;rw[Sem.wp]at h ⊢;exact⟨h,o,h1,h2⟩
 | raise x =>
  intro _ p s o h1 h2 h;rw[Sem.wp]at h ⊢;exact h
 | unsupported w =>
  intro _ p s o h1 h2 h;rw[Sem.wp]at h;exact h.elim
 | finish w =>
  intro _ p s o h1 h2 h;rw[Sem.wp]at h;exact h.elim
 | rule t k ih =>
  intro kd p s o h1 h2 h;rw[Sem.wp]at h ⊢;exact ih () kd p s o h1 h2 h
 | «at» q k ih =>
  intro kd p s o h1 h2 h;rw[Sem.wp]at h ⊢;exact ih () kd q s o h1 h2 h
 | load a q k ih =>
  intro kd p s o h1 h2 h;rw[Sem.wp]at h ⊢;obtain⟨x,h3,h4⟩:=h;exact⟨x,h3,ih x (kd x) p s o h1 h2 h4⟩
 | update a q g k ih =>
  intro kd p s o h1 h2 h;rw[Sem.wp]at h ⊢;obtain⟨h3,h4⟩:=h;refine⟨h3,?_⟩
  by_cases z:a=e
  · subst z
    exact ih () kd.2 p _ (g o) (Fd g h1 ((kd.1 o).2 (aGc h1))) ((kd.1 o).1.trans h2) h4
  · exact ih () kd.2 p _ o ((Gc _ _ z).trans h1) h2 h4
 | loadIfAlive a k ih =>
  intro kd p s o h1 h2 h;rw[Sem.wp]at h ⊢;exact ih _ (kd _) p s o h1 h2 h
 | point l k ih =>
  intro kd p s o h1 h2 h;rw[Sem.wp]at h ⊢;exact ih () kd p s o h1 h2 h
 | alloc x k ih =>
  intro kd p s o h1 h2 h;rw[Sem.wp]at h ⊢;exact ih _ (kd _) p _ o (Ag _ h1) h2 h
 | fresh k ih =>
  intro kd p s o h1 h2 h;rw[Sem.wp]at h ⊢;exact ih _ (kd _) p _ o h1 h2 h
 | ask k ih =>
  intro kd p s o h1 h2 h;rw[Sem.wp]at h ⊢;exact ih _ (kd _) p _ o h1 h2 h
 | handled w k ih =>
  intro kd p s o h1 h2 h;rw[Sem.wp]at h ⊢;exact ih _ (kd _) p _ o h1 h2 h
 | stack k ih =>
  intro kd p s o h1 h2 h;rw[Sem.wp]at h ⊢;exact ih _ (kd _) p _ o h1 h2 h
 | thread k ih =>
  intro kd p s o h1 h2 h;rw[Sem.wp]at h ⊢;exact ih _ (kd _) p _ o h1 h2 h
 | _=>exact fun kd=>kd.elim
theorem KD.any {α:Type}{M:Model}{A:Around}{Q:α->Shared->Prop}{E:Value->Shared->Prop}{s:Shared}{e:Addr}{o:Obj}{m:Sem α}(k:KD m)(h1:s.heap.get? e=some o)(h:wpAny M A m Q E s):wpAny M A m (fun a s'=>Q a s'/\∃ o',s'.heap.get? e=some o'/\o'.dict=o.dict) E s :=
 fun Γ p hΓ=>KD.wp m k p s o h1 rfl (h Γ p hΓ)
theorem aU4 {α:Type}{w:String}:KD (unsupported w:Sem α):=trivial
theorem xQ {a:Addr}:KD (load a):=fun _=>trivial
theorem sZ:KD stack:=fun _=>trivial
theorem aId {a:Addr}{f:Obj->Obj}(h:∀ o:Obj,(f o).dict=o.dict/\(o.isFreed=false->(f o).isFreed=false)):KD (update a f):=⟨h,trivial⟩
theorem aRx (f:Array Value->Array Value)(o:Obj):(Obj.mapFields f o).dict=o.dict/\(o.isFreed=false->(Obj.mapFields f o).isFreed=false):=by
 obtain⟨c,d,da,sl⟩:=o;cases da<;>exact⟨rfl,id⟩
theorem zY (v:Value):KD (fieldsOf v):=by
 unfold fieldsOf;split
 · refine KD.bind xQ fun o=>?_
   split<;>exact trivial
 · exact trivial
theorem oF (v:Value)(i:Nat):KD (field v i):=by
 unfold field;refine KD.bind (zY v) fun vs=>?_
 split<;>exact trivial
theorem lK (v:Value)(i:Nat)(x:Value):KD (setField v i x):=by
 unfold setField;split
 · unfold updateField
   refine KD.bind xQ fun o=>?_
   split
   · split
     · exact aId (aRx _)
     · exact trivial
   · exact trivial
 · exact trivial
theorem yX:KD frameEnvs:=by
 unfold frameEnvs;exact KD.bind sZ fun _=>trivial
theorem zE:∀ l:List PySem.Env,KD (readyFrames l)
 | []=>by unfold readyFrames;exact trivial
 | env :: outer=>by
  unfold readyFrames;split
  · refine KD.bind xQ fun o=>?_
    split
    · exact trivial
    · refine KD.bind ?_ fun _=>KD.bind ?_ fun _=>KD.bind (aId fun o=>⟨rfl,fun h=>by
       obtain⟨c,d,da,sl⟩:=o
       cases da<;>first | rfl | cases h⟩) fun _=>zE outer
      · unfold behindIsImport
        split
        · exact trivial
        · split
          · exact trivial
          · exact KD.bind (oF _ _) fun _=>trivial
      · unfold keptBack
        split
        · split
          · exact trivial
          · refine KD.bind ?_ fun _=>trivial
            unfold underTheClaimsCaller;exact KD.bind sZ fun _=>trivial
        · exact trivial
  · exact trivial
theorem aC3 (env:PySem.Env):KD (frameOf env):=by
 unfold frameOf;refine KD.bind yX fun l=>KD.bind ?_ fun r=>?_
 · unfold frameObject
   split
   · exact trivial
   · exact KD.bind (zE _) fun _=>trivial
 · split<;>exact trivial
theorem uI (f:Addr)(b:Bool):KD (entryPlaceOf f b):=by
 unfold entryPlaceOf;refine KD.bind sZ fun l=>?_
 split<;>exact trivial
theorem aAu (a b c d e:Value)(l:List Value):KD (EntryCells.newEntry a b c d e l):=by
 unfold EntryCells.newEntry newFields newObj
 have jp:∀ da:Data,KD (newObjAsIs (.type "traceback") da):=fun da=>by
  unfold newObjAsIs;exact KD.bind (fun _=>trivial) fun _=>trivial
 generalize ([a,b,c,d,e]++if l.isEmpty=true then Aw 6 Value.none else l)=vs
 dsimp only
 split
 · exact KD.bind aU4 fun _=>jp _
 · exact jp _
theorem aLe (e:Value)(env:PySem.Env):KD (noteFrame e env):=by
 unfold noteFrame;split
 · rename_i f _
   refine KD.bind (oF _ _) fun h=>?_
   have last:KD (do setField e 1 (← EntryCells.newEntry h (← frameOf env) .none (rawInt f) .none (← entryPlaceOf f (h != .none)))):=KD.bind (aC3 _) fun _=>KD.bind (uI _ _) fun _=>KD.bind (aAu _ _ _ _ _ _) fun _=>lK _ _ _
   split
   · refine KD.bind (oF _ _) fun x=>?_
     split
     · exact trivial
     · exact KD.bind (lK _ _ _) fun _=>last
   · exact last
 · exact trivial
theorem aGi (e:Value)(f:Option Addr):KD (setFlight e f):=by
 unfold setFlight;refine KD.bind (oF _ _) fun tb=>?_
 split
 · exact lK _ _ _
 · exact trivial
theorem aCr (env:PySem.Env)(e:Value):KD (leaving env e):=by
 unfold leaving;exact KD.bind (aLe _ _) fun _=>aGi _ _
end Mir
namespace Mir
open PySem L2
variable {X:Cx}{P:XP}{pins:List (Addr×Obj)}{σ:St}{H H':Hp}{s s':Shared}{ea C:Addr}
theorem bP.there {Pg:Program}{w:World}{H:Hp}{h:Heap}{a:Addr}{o:HO}(x:bP Pg w H h a o):∃ ob,h.get? a=some ob:=by
 cases o with
 | lst xs=>obtain⟨_,_,_,_,e⟩:=x;exact⟨_,e⟩
 | tup xs=>obtain⟨_,_,_,p⟩:=x;obtain⟨o,e,_⟩:=p;exact⟨o,e⟩
 | dK kvs=>obtain⟨_,_,_,_,o,_,_,e,_⟩:=x;exact⟨o,e⟩
 | dT kvs=>obtain⟨_,_,_,_,o,_,_,e,_⟩:=x;exact⟨o,e⟩
 | set S n=>obtain⟨o,_,_,_,e,_⟩:=x;exact⟨o,e⟩
 | ins C dx fs=>obtain⟨_,_,_,e,_⟩:=x;exact⟨_,e⟩
 | own y=>exact x
 | xd fs=>obtain⟨_,⟨o,_,_,e,_⟩,_⟩:=x;exact⟨o,e⟩
 | rng lo hi=>obtain⟨_,_,_,e⟩:=x;exact⟨_,e⟩
 | frz ob u=>obtain⟨e,_⟩:=x;exact⟨_,e⟩
 | tbl ps=>exact⟨_,x⟩
 | met f y=>exact⟨_,x⟩
 | ext φ=>obtain⟨_,e,_⟩:=x;exact e
structure Fly (Pg:Program)(w:World)(l:List PySem.Env)(H:Hp)(s:Shared)(ea C:Addr)(H':Hp)(s':Shared):Prop where
 os:s'.os=s.os
 bare:PyProof.Rows.AllBare s'.gens
 hok:HOk Pg w H' s'.heap
 un:Un (frs l) [] H H' s.heap s'.heap
 new:s.heap.get? ea=none
 unt:H' ea=none
 fly:∃ a0 Bh,Heap.FlyingW Bh l ea (.ref C) a0 s'.heap/\(∀ b o o',s.heap.get? b=some o->b∉frs l->s'.heap.get? b=some o'->Bh.get? b=some o')/\(∀ b u o',H' b=some u->s'.heap.get? b=some o'->Bh.get? b=some o')
def Dct (a:Addr)(dx:Option Addr)(h:Heap):Prop:=∃ o,h.get? a=some o/\o.dict=dx
def CXM (Pg:Program)(w:World):CXT:=fun outer H s E e s'=>∃ ea C dx H',e=.ref ea/\Fly Pg w outer H s ea C H' s'/\Dct ea dx s'.heap/\E (.ref C) dx H'
theorem aEw {Pg:Program}{w:World}{h h' Bh:Heap}(x:HOk Pg w H h)(k:∀ b u o',H b=some u->h.get? b=some o'->Bh.get? b=some o')(st:Bh.StaysIn h'):HOk Pg w H h':=fun a o e =>
 (x a o e).stay (fun b u hb q=>by
  rcases hb with hb | hb
  · exact st _ _ (k b o u (by rw[hb];exact e) q)
  · exact st _ _ (k b _ u hb q)) (fun _ q=>q) fun _ _ q=>q
theorem aIm {Pg:Program}{w:World}{fs:List Addr}{H0:Hp}{h0 h h' Bh:Heap}(u:Un fs [] H0 H h0 h)(ok:HOk Pg w H h)(hk:∀ b o o',h0.get? b=some o->b∉fs->h.get? b=some o'->Bh.get? b=some o')(ht:∀ b u o',H b=some u->h.get? b=some o'->Bh.get? b=some o')(st:Bh.StaysIn h')
 (sl:∀ b o,b∈fs->h.get? b=some o->∃ s,h'.get? b=some { o with slots:=s }):Un fs [] H0 H h0 h':=by
 refine⟨fun b o q n hb hx=>st _ _ (hk b o o q hb (u.keep b o q n hb hx)),fun b o q n hb hx=>?_,u.free,fun b o q hx=>?_,u.tups,u.frzs,u.tbls⟩
 · obtain⟨s1,e1⟩:=u.slot b o q n hb hx
   obtain⟨s2,e2⟩:=sl b _ hb e1;exact⟨s2,e2⟩
 · obtain⟨o',e⟩:=u.there b o q hx
   by_cases hb:b∈fs
   · obtain⟨s2,e2⟩:=sl b _ hb e
     exact⟨_,e2⟩
   · exact⟨o',st _ _ (hk b o o' q hb e)⟩
theorem zV {env:PySem.Env}{l:List PySem.Env}{L:Addr}(h:env.frame=some L):frs (env :: l)=L :: frs l:=by unfold frs;rw[Fo,h]
theorem aH5 {M:Model}{E:Value->Shared->Prop}{Q:Unit->Shared->Prop}(I:Inv X pins σ H s)(hx:X.ex=[])(hst:X.stack=X.env :: X.outer)(hf:X.env.frame=some X.env.locals)(F:Fly X.prog X.w X.stack H s ea C H' s')
 (hQ:∀ h',Fly X.prog X.w X.outer X.H₀ X.s₀ ea C H' { s' with heap:=h' }->Q () { s' with heap:=h' }):wpAny M X.A (leaving X.env (.ref ea)) Q E s':=by
 obtain⟨a0,Bh,fl,cov,trk⟩:=F.fly;have I':Inv X pins σ H' s':=I.call' (ch:=[]) F.os F.un F.hok F.bare (fun b z=>absurd z (by simp))
 rw[hst]at fl;refine wpAny_leaves_onW (by rw[I.ok.frames,hst]) hf fl fun h' x1 x2=>hQ h' ?_
 have ne:∀ b o,X.s₀.heap.get? b=some o->b≠X.env.locals:=fun b o e=>Bq (An (Ap e) I.ok.above)
 have cov':∀ b o o',X.s₀.heap.get? b=some o->b∉frs X.outer->s'.heap.get? b=some o'->Bh.get? b=some o':=fun b o o' e n q=>by
  obtain⟨o1,e1⟩:=I.base.there b o e (by rw[hx];simp)
  refine cov b o1 o' e1 ?_ q
  rw[hst,zV hf];simp only[Aj,not_or];exact⟨ne b o e,n⟩
 have base:Un (frs X.outer) [] X.H₀ H' X.s₀.heap s'.heap:=by
  have:=I'.base
  rw[hx]at this;exact this
 refine⟨F.os.trans I.os,F.bare,aEw F.hok trk x1.1,aIm base F.hok cov' trk x1.1 (fun b o hb q=>?_),?_,F.unt,a0,Bh,x1,fun b o o' e n q=>?_,fun b u o' e q=>?_⟩
 · obtain⟨_,o1,e1,nf⟩:=fl.2.2.1.mem (b:=b) (by have:=zV (l:=X.outer) hf;unfold frs at this;rw[this];exact Ac _ hb)
   rw[q]at e1;cases e1;exact x2 b o q nf
 · cases q:X.s₀.heap.get? ea with
   | none=>rfl
   | some o =>
    obtain⟨o1,e1⟩:=I.base.there ea o q (by rw[hx];simp)
    rw[F.new]at e1;cases e1
 · obtain⟨o1,e1⟩:=base.there b o e (by simp)
   have q1:=cov' b o o1 e n e1;have:=x1.1 _ _ q1
   rw[show ({ s' with heap:=h' }:Shared).heap.get? b=some o' from q]at this
   cases this;exact q1
 · obtain⟨o1,e1⟩:=bP.there (F.hok b u e)
   have q1:=trk b u o1 e e1;have:=x1.1 _ _ q1
   rw[show ({ s' with heap:=h' }:Shared).heap.get? b=some o' from q]at this
   cases this;exact q1
theorem aLt {M:Model}{E:Value->Shared->Prop}{Q:Unit->Shared->Prop}{dx:Option Addr}(I:Inv X pins σ H s)(hx:X.ex=[])(hst:X.stack=X.env :: X.outer)(hf:X.env.frame=some X.env.locals)(F:Fly X.prog X.w X.stack H s ea C H' s')(di:Dct ea dx s'.heap)
 (hQ:∀ h',Fly X.prog X.w X.outer X.H₀ X.s₀ ea C H' { s' with heap:=h' }->Dct ea dx h'->Q () { s' with heap:=h' }):wpAny M X.A (leaving X.env (.ref ea)) Q E s':=by
 obtain⟨o,e1,e2⟩:=di;refine wpAny_mono (KD.any (aCr _ _) e1 (aH5 (Q:=fun _ s2=>∃ h',s2={ s' with heap:=h' }/\Fly X.prog X.w X.outer X.H₀ X.s₀ ea C H' { s' with heap:=h' }) I hx hst hf F fun h' z=>⟨h',rfl,z⟩)) (fun _ s2 z=>?_) fun _ _ z=>z
 obtain⟨⟨h',q1,q2⟩,o',q3,q4⟩:=z;subst q1;exact hQ h' q2 ⟨o',q3,q4.trans e2⟩
end Mir
namespace Mir
open PySem L2
variable {X:Cx}{P:XP}{a b c e:Expr}{es:List Expr}{f g:FE}{fs:FEs}{pos:Pos}
abbrev bmV:List Value:=[.type "ValueError",.type "Exception",.type "BaseException",.type "object"]
def PX (cl:XC->Addr)(E:XK):XP:=⟨fun x _ H=>∀ H' dx,aD H H'->XD x dx H'->E (.ref (cl x.c)) dx H',fun h s H' dx s' xd=>h H' dx (s.trans s') xd⟩
section
variable {Pg:Program}{w:World}{K:PySem.W.Frag}{mg:Str->Option Value}{base:Heap}{cl:XC->Addr}{N:List Str}{qual:Str}{scope:Scope}{fa:Addr}{cdv:Value}{A:Around}{outer:List PySem.Env}{s0:Shared}{H0:Hp}{E:XK}
theorem gX:Thr (CXM Pg w) cl (qS (CXM Pg w) Pg w K mg base N qual scope fa cdv A outer s0 H0 E) (PX cl E):=by
 rintro pins σ H s e s' I ⟨ea,C,dx,H',rfl,F,di,x,hx,xd,px⟩
 refine aLt I rfl rfl rfl F di fun h' F' di'=>⟨ea,C,dx,H',rfl,F',di',?_⟩
 rw[hx];exact px H' dx (aD.refl H') xd
theorem iY:PassesOwn (model Pg w) (qS (CXM Pg w) Pg w K mg base N qual scope fa cdv A outer s0 H0 E).A (qS (CXM Pg w) Pg w K mg base N qual scope fa cdv A outer s0 H0 E).env (qS (CXM Pg w) Pg w K mg base N qual scope fa cdv A outer s0 H0 E).xe:=PassesOwn.leaving
theorem aV2 {X:Cx}{cl:XC->Addr}:Thr (CXM Pg w) cl X XP0:=by
 rintro pins σ H s e s' I ⟨ea,C,dx,H',rfl,F,di,x,hx,xd,px⟩
 exact px.elim
theorem aO6 {x:Str}{ps:List Str}{k:Nat}{st:Stmt}{F:FS}{f:Addr}{fd:FuncData}(Fu:Fun K x x st f fd)(S:FnScope N ps (aN st))
 (hb:∀ (f:Addr) (cdv:Value) (A:Around) (outer:List PySem.Env) (s:Shared) (H:Hp) (E:XK),Room k (A.deeper (Io x (aN st) s.heap.objs.size f cdv)) ->
  PSs (qS (CXM Pg w) Pg w K mg base N x (aN st) f cdv A outer s H E) (eO st) (tS K (PX cl E) F)):FnOk Pg w K mg base (CXM Pg w) (k+1) f fd ps (spM K cl (cJ ps.length N.length F)):=by
 obtain⟨oc,od,kV,doc,pm,an,cdv,ct,osl,rfl,lk,hcd⟩:=Fu.ex;refine aOw lk hcd S (aM6 fun ds e=>?_) fun A outer s H vs Q E hr hsp=>⟨_,hb f cdv A outer s H E hr,?_⟩
 · unfold cJ
   rw[if_neg e]
 · obtain⟨ds,B,hB,r,q⟩:=hsp
   refine⟨H,B,stE N.length ds,DenS.start hB r,?_⟩
   unfold cJ at q;by_cases e:ds.length=ps.length
   · rw[if_pos e]at q
     cases e2:F (stE N.length ds) with
     | nx ρ'=>simp only[e2]at q;exact fun σ' H' d' x'=>q .non H' d'.e.sam (show V.non=V.non from rfl)
     | rt r=>simp only[e2]at q;exact fun v H' s' ro=>q v H' s' (ro.fr s')
     | bk ρ'=>simp only[e2]at q
     | ct ρ'=>simp only[e2]at q
     | exc z ρ'=>simp only[e2]at q;exact fun σ' H' d' x' H'' dx s'' xd=>q H'' dx (d'.e.sam.trans s'') xd
     | stk=>simp only[e2]at q
   · rw[if_neg e]at q;exact q.elim
theorem dQ {x:Str}{ps:List Str}{k:Nat}{st:Stmt}{F:FS}(Fa:bU K mg x st ps)(S:FnScope N ps (aN st))
 (hb:∀ (f:Addr) (cdv:Value) (A:Around) (outer:List PySem.Env) (s:Shared) (H:Hp) (E:XK),Room k (A.deeper (Io x (aN st) s.heap.objs.size f cdv)) ->
  PSs (qS (CXM Pg w) Pg w K mg base N x (aN st) f cdv A outer s H E) (eO st) (tS K (PX cl E) F)):aK Pg w K mg base (CXM Pg w) (k+1) x ps (spM K cl (cJ ps.length N.length F)) :=
 let ⟨f,fd,Fu,m,b⟩:=Fa
 ⟨f,fd,aO6 Fu S hb,m,Fu.kp,b⟩
end
end Mir
namespace Mir
open PySem L2
variable {X:Cx}{P:XP}{pins:List (Addr×Obj)}{σ:St}{H H':Hp}{s s':Shared}{ea C:Addr}
section
variable {Pg:Program}{w:World}{l:List PySem.Env}{M:Model}{A:Around}{E:Value->Shared->Prop}{R:Shared->Prop}
theorem Fly.at {h' Bh:Heap}{a0:Value}(F:Fly Pg w l H s ea C H' s')(fl:Heap.FlyingW Bh l ea (.ref C) a0 s'.heap)(cov:∀ b o o',s.heap.get? b=some o->b∉frs l->s'.heap.get? b=some o'->Bh.get? b=some o')
 (trk:∀ b u o',H' b=some u->s'.heap.get? b=some o'->Bh.get? b=some o') (fl':Heap.FlyingW Bh l ea (.ref C) a0 h') (up:s'.heap.UpToSlots h'):Fly Pg w l H s ea C H' { s' with heap:=h' }:=by
 have same:∀ b o1 o',Bh.get? b=some o1->h'.get? b=some o'->o1=o':=fun b o1 o' q e=>Cw.inj ((fl'.1 _ _ q).symm.trans e);refine⟨F.os,F.bare,aEw F.hok trk fl'.1,aIm F.un F.hok cov trk fl'.1 fun b o hb q=>?_,F.new,F.unt,a0,Bh,fl',fun b o o' e n q=>?_,fun b u o' e q=>?_⟩
 · obtain⟨_,o1,e1,nf⟩:=fl.2.2.1.mem (b:=b) hb
   rw[q]at e1;cases e1;exact up b o q nf
 · obtain⟨o1,e1⟩:=F.un.there b o e (by simp)
   have q1:=cov b o o1 e n e1;exact same b o1 o' q1 q▸q1
 · obtain⟨o1,e1⟩:=bP.there (F.hok b u e)
   have q1:=trk b u o1 e e1;exact same b o1 o' q1 q▸q1
end
theorem Fly.inv (F:Fly X.prog X.w X.stack H s ea C H' s')(I:Inv X pins σ H s):Inv X pins σ H' s':=I.call' (ch:=[]) F.os F.un F.hok F.bare fun b z=>absurd z (by simp)
end Mir
namespace Mir
open PySem L2
variable {K:PySem.W.Frag}
def noL (K:PySem.W.Frag):Bool:=K.all fun p=>!(p.2.cls==Value.type "list")
theorem aQc (h:noL K=true){a:Addr}{o:Obj}(e:K.lookup a=some o):o.cls≠.type "list":=fun c=>by
 have m:(a,o)∈K:=by
  clear h c
  induction K with
  | nil=>cases e
  | cons p r ih =>
   obtain⟨b,u⟩:=p;rw[Bu]at e;cases q:a==b with
   | true=>rw[q]at e;cases e;rw[eq_of_beq q];exact Ab
   | false=>rw[q]at e;exact Ac _ (ih e)
 have:=Fn.mp h _ m
 rw[c]at this;simp at this
theorem uY {G:Hp}:∀ ns:List Int,aE K G (ns.map .int) (ns.map V.int)
 | []=>rfl
 | n :: r=>⟨.int n,r.map V.int,rfl,rfl,uY r⟩
theorem aRz {φ:Φ}{H:Hp}{a:Addr}{ns:List Int}(hL:noL K=true)(h:φ [.lst (ns.map .int)]=.ok (sc (.bl true)))(hS:SqL K H a (ns.map V.int)):spM K (clK K) φ [.ref a] H (fun v _=>v=.bl true) fun _ _ _=>False:=by
 have rd:Rd H a (.lst (ns.map V.int)):=by
  rcases hS with q | ⟨o,its,n,e,c,_⟩
  · exact q
  · exact absurd c (aQc hL e)
 refine⟨[.lst (ns.map .int)],fun _=>False,fun _ z=>z.elim,⟨.ref a,[],rfl,⟨a,ns.map V.int,rfl,?_,uY ns⟩,rfl⟩,?_⟩
 · rcases rd with q | ⟨o,q⟩
   · exact .inl (aM.mpr ⟨fun z=>z,q⟩)
   · exact .inr ⟨o,aM.mpr ⟨fun z=>z,q⟩⟩
 · rw[h]
   exact fun v H' _ r=>r
abbrev aP1 (T:Addr):List Value:=[.ref T,.type "ValueError",.type "Exception",.type "BaseException",.type "object"]
structure XOne (K:PySem.W.Frag)(T:Addr)(n:Str)(C:Addr):Prop where
 ns:Ch K mainGlobals n=some (some (.ref C))
 lk:∃ od cd sl,K.lookup C=some ⟨.type "type",od,.cls cd,sl⟩/\cd.mro=.ref C :: aP1 T
 ga:Bf K (.ref C) "__getattribute__" = some (some (.builtin "BaseException.__getattribute__"))
 gh:Bf K (.ref C) "__getattr__" = some none
 cl:Bf K (.ref C) "__class__" = some (some (.builtin "object.__class__"))
structure XRaw (K:PySem.W.Frag)(T:Addr)(n:Str)(C:Addr)(od:Option Addr)(cd:ClassData)(sl:Array (Option Value)):Prop where
 ns:Ch K mainGlobals n=some (some (.ref C))
 lk:K.lookup C=some ⟨.type "type",od,.cls cd,sl⟩
 mro:cd.mro=.ref C :: aP1 T
 ga:Bf K (.ref C) "__getattribute__" = some (some (.builtin "BaseException.__getattribute__"))
 gh:Bf K (.ref C) "__getattr__" = some none
 cl:Bf K (.ref C) "__class__" = some (some (.builtin "object.__class__"))
theorem XRaw.one {T C:Addr}{n:Str}{od:Option Addr}{cd:ClassData}{sl:Array (Option Value)}(x:XRaw K T n C od cd sl):XOne K T n C:=⟨x.ns,⟨od,cd,sl,x.lk,x.mro⟩,x.ga,x.gh,x.cl⟩
structure At (K:PySem.W.Frag)(x:Str)(st:Stmt)(f:Addr)(oc kV doc pm cdv ct:Value)(od an:Option Addr)(sl:Array (Option Value)):Prop where
 ns:Ch K mainGlobals x=some (some (.ref f))
 lk:K.lookup f=some ⟨oc,od,.func (Dv x x (gL st) (eO st) (aN st) .none kV doc pm an cdv ct),sl⟩
 cd:Fh K cdv x=true
 kp:Ei K (.ref f)=true
end Mir
namespace Mir
open PySem L2
variable {X:Cx}{P:XP}{a b c e:Expr}{es:List Expr}{f g:FE}{fs:FEs}{pos p:Pos}
def sU (a:FE):FE:=fun ρ=>do
 let x ← a ρ
 let i ← asI x.d
 .ok (sc (.int (if i<0 then -i else i)))
def toI:D->R Int
 | .int i=>.ok i
 | .bl k=>.ok (if k then 1 else 0)
 | _=>.stk
def aVk (a:FE):FE:=fun ρ=>do
 let x ← a ρ
 let i ← toI x.d
 .ok (sc (.int i))
theorem aO9 (hg:Gl X "abs")(hm:X.mg "abs" = none)(ha:PE X a (tE X.K P f))(he:starEach [a] X.env=[(false,eval a X.env)]:=by rfl):PE X (.Call (.Name "abs" p) [a] [] pos) (tE X.K P (sU f)):=by
 refine PE.imp (iX aHa hg hm (by decide +kernel) (aA ha aO he) (he:=he)) ?_
 intro σ H Q h;refine sX h ?_
 intro H0 B ρ v H' r d0 d g s h;cases e:asI r.d with
 | stk=>simp[e]at h
 | exc x=>exact(cM e).elim
 | ok i =>
  simp only[e,R.ok_bind]at h;exact⟨i,by rw[g.int (dI e)],h _ H' (aD.refl _) (aI.sc (show Rep _ _ (.int _) _ from rfl))⟩
end Mir
namespace L2
open PySem PySem.Spec PyProof.Rows
def Ite (K:PySem.W.Frag)(a:Addr):It :=
 ⟨fun i H=>∃ xs x,SqL K H a xs/\xs[i]?=some x,fun i H v H'=>∃ t x,v=.ref t/\H t=none/\H'=upd H t (.tup [.int i,x])/\∀ xs,SqL K H a xs->xs[i]?=some x,fun i H=>∃ xs,SqL K H a xs/\xs.length<=i⟩
def ETn (e it a:Addr)(i:Nat)(h:Heap):Prop:=(∃ old,IsEnum h e it i old)/\h.IsListIter it a i
theorem aGh {P:Program}{w:World}{K:PySem.W.Frag}{es:List Expr}{k:Nat}{pos:Pos}{e it a:Addr}(n1:e≠it):Turn P w K (.Tuple es k pos) (Ite K a) [e,it] e (ETn e it a) where
 mem:=by simp
 obj:=fun i h st c hc=>by
  obtain⟨⟨old,he⟩,o,q1,q2,q3⟩:=st;simp only[Aj,Bc,or_false]at hc;rcases hc with z | z<;>rw[z]
  · exact⟨_,he,fun v z=>nomatch z⟩
  · exact⟨o,q1,fun v z=>by rw[q3]at z;cases z⟩
 keep:=fun i h h' st kp=>⟨st.1.imp fun old he=>kp _ (by simp) _ he,st.2.at fun o q=>kp _ (by simp) o q⟩
 item:=by
  intro X hP hw hK hc i pins s σ H E I hf st hg;subst hP hw hK;obtain⟨xs,x,ha,hx⟩:=hg;obtain⟨us,ru,pu,_⟩:=I.list ha;obtain⟨u,eu,rxu⟩:=ru.get hx;obtain⟨⟨old,he⟩,hit⟩:=st;have ee:e<s.heap.objs.size:=Ap he;have ei:it<s.heap.objs.size:=by obtain⟨_,q,_⟩:=hit;exact Ap q
  refine wpAny_pyNext_enum_item he hit pu.isList (x:=u) (by simpa using eu) n1 fun h' b1 b2 b3 b4 b5=>⟨_,rfl,?_⟩
  refine wpAny_letOwnedTupleGo_enum b1 fun hp2 c1 cs=>?_
  have kp:∀ c o,c∉[e,it]->s.heap.get? c=some o->hp2.get? c=some o:=fun c o hc' q=>by
   simp only[Aj,Bc,or_false,not_or]at hc';exact cs.extBut c o hc'.1 (b5 c o hc'.1 hc'.2 q)
  have st':ETn e it a (i+1) hp2:=⟨⟨u,by push_cast;exact c1⟩,b2.extBut cs.extBut n1.symm⟩
  have pr:=cs.extBut _ _ (Gx ee) b3
  refine⟨.ref s.heap.objs.size,upd H s.heap.objs.size (.tup [.int i,x]),I.turnedNew (t':=s.toks+1) kp hf (fun c hc'=>?_) (Am _) ⟨by show 2<=sizeLine;decide,[.int i s.toks,u],.cons ⟨_,rfl⟩ (.cons rxu .nil),⟨_,pr,rfl,_,rfl⟩⟩,rfl,
   ⟨_,x,rfl,I.fresh,rfl,fun zs hq=>by rw[I.list_inj hq ha];exact hx⟩,st',fun c hc'=>?_⟩
  · obtain⟨⟨_,d1⟩,o,d2,_⟩:=st'
    simp only[Aj,Bc,or_false]at hc';rcases hc' with z | z<;>rw[z]
    · exact⟨_,d1⟩
    · exact⟨_,d2⟩
  · have lt:c<s.heap.objs.size:=by
     simp only[Aj,Bc,or_false]at hc';rcases hc' with z | z<;>rw[z]<;>assumption
    rw[aH (Bq lt)];exact(hf c hc').1
 done:=by
  intro X hP hw hK hc i pins s σ H E I hf st hg;subst hP hw hK;obtain⟨xs,ha,hend⟩:=hg;obtain⟨us,ru,pu,_⟩:=I.list ha;have lu:=ru.length;obtain⟨⟨old,he⟩,hit⟩:=st;refine wpAny_pyNext_enum_end (I.ok.hd hc) he hit pu.isList (Array.getElem?_eq_none (by rw[Aq];omega)) fun h' kp=>⟨rfl,I.turnedL (t':=s.toks) (fun c o hc' q=>?_) hf⟩
  simp only[Aj,Bc,or_false,not_or]at hc';exact kp c o hc'.2 q
 self:=fun _ _ _ _ _ st h=>let ⟨⟨_,he⟩,_⟩:=st;wpAny_pyIter_enum he h
def aUk (K:PySem.W.Frag)(ta:TA):TI:=fun σ H R=>ta σ H fun vs H1=>∃ a,vs=[.ref a]/\(∃ xs,SqL K H1 a xs)/\R (Ite K a) H1
theorem aN6 {X:Cx}{es:List Expr}{k:Nat}{tp:Pos}{a:Expr}{t:TA}{p pos:Pos}(hg:Gl X "enumerate")(hm:X.mg "enumerate" = none)(ha:PA X [a] t)(hs:starEach [a] X.env=[(false,eval a X.env)]:=by rfl) :
 PI X (.Tuple es k tp) (.Call (.Name "enumerate" p) [a] [] pos) (aUk X.K t):=by
 intro pins s σ H R I h;refine Call_ (kK I hg hm (show bootBuiltins "enumerate" = some (.type "enumerate") by decide +kernel) (Cz (thn (ha pos pins s σ H _ I h) fun us s1 ⟨vs,H1,I1,r1,x,e,⟨xs,hx⟩,q⟩=>?_) (by rw[hs];rfl) rfl))
 subst e;obtain⟨u,rfl,rx⟩:=oG r1;cases rx;obtain⟨us',ru,pu,zu⟩:=I1.list hx;refine call_enumerate_list pu.isList fun h1 he hit hsz hk=>wpAny_pyIter_enum he ?_
 have big:∀ c∈[s1.heap.objs.size+1,s1.heap.objs.size],s1.heap.objs.size<=c:=fun c hc'=>by
  simp only[Aj,Bc,or_false]at hc';rcases hc' with z | z<;>rw[z]
  · exact Ci _ 1
  · exact Am _
 exact⟨_,[s1.heap.objs.size+1,s1.heap.objs.size],_,_,H1,rfl,I1.kept (t':=s1.toks) hk,aGh (Nat.succ_ne_self _),⟨⟨_,he⟩,hit⟩,fun c hc'=>I1.fpOk (big c hc') (I1.hok.fresh (big c hc')),q⟩
end L2
namespace Mir
open PySem L2
variable {X:Cx}{P:XP}{a b c e:Expr}{es:List Expr}{f g:FE}{fs:FEs}{pos p:Pos}
def qQ (ds:List D):List D:=ds.zipIdx.map fun x=>.tup [.int x.2,x.1]
def pH (a:FE):FI:=fun ρ=>do
 let x ← a ρ
 let xs ← asL x.d
 .ok ⟨x.k != .own,x.fr,qQ xs⟩
theorem aF0 {K:PySem.W.Frag}{H0 H':Hp}{B:Addr->Prop}{a:Addr}{xs:List V}{ds:List D}{st fr:Bool}(hs:st=true->¬ B a)(h2:Rd H' a (.lst xs))(h3:aE K (aU fr H0 H' B) ds xs):uF K H0 H' B (Ite K a) ⟨st,fr,qQ ds⟩:=by
 refine⟨fun c=>c=a,fun h c z=>z▸hs h,fun H2 B2 j1 j2 j3 j4 j5 i=>?_⟩
 have q1:SqL K H2 a xs:=.inl (jN h2 fun o=>j1 a o rfl);have l1:=h3.length;refine⟨fun hi=>⟨xs,q1,?_⟩,fun d hd=>?_⟩
 · simp[qQ]at hi;omega
 · cases e1:ds[i]? with
   | none=>simp[qQ,e1]at hd
   | some d1 =>
    have ed:d=.tup [.int i,d1]:=by simp[qQ,e1]at hd;exact hd.symm
    subst ed;obtain⟨v,hv,rv⟩:=h3.get e1;refine⟨⟨xs,v,q1,hv⟩,fun x H3 y=>?_⟩
    obtain⟨t,x1,e3,e4,e5,y2⟩:=y;have z1:=y2 xs q1;rw[hv]at z1;cases z1;subst e3;subst e5;refine⟨aD.upd_new e4,t,[.int i,v],rfl,aM.mpr ⟨fun z=>?_,aX⟩,.int i,[v],rfl,rfl,v,[],rfl,?_,rfl⟩
    · rcases z with z | ⟨_,o,z,_⟩
      · obtain⟨o,q⟩:=j4 t z;rw[e4]at q;cases q
      · rw[j5 _ _ z]at e4;cases e4
    · exact Rep.same (aP (fun b o q n=>aD.upd_new e4 b o (j2 b o q n)) j3) rv
theorem xN {ts:List Expr}{k:Nat}{tp:Pos}(hg:Gl X "enumerate")(hm:X.mg "enumerate" = none)(ha:PE X a (tE X.K P f))(hs:starEach [a] X.env=[(false,eval a X.env)]:=by rfl) :
 PI X (.Tuple ts k tp) (.Call (.Name "enumerate" p) [a] [] pos) (tI X.K P (pH f)):=by
 refine PI.imp (aN6 hg hm (aA ha aO hs) hs) ?_
 intro σ H Rq h
 have e:pH f=fun ρ=>evs [f] ρ >>= fun rs=>match rs with | [x]=>(asL x.d >>= fun xs=>.ok ⟨x.k != .own,x.fr,qQ xs⟩) | _=>.stk:=by
  funext ρ
  unfold pH evs;cases f ρ<;>rfl
 rw[e]at h;refine aNd (q:=fun vs H1=>∃ a,vs=[.ref a]/\(∃ xs,SqL X.K H1 a xs)/\Rq (Ite X.K a) H1) h ?_
 intro H0 B ρ vs H' rs d0 d gs s h;match vs,rs,gs with
 | [],rs,gs=>have e:rs=[]:=gs;subst e;exact h.elim
 | [v],_,⟨r,rr,e1,g1,g2⟩ =>
  subst e1;rw[show rr=[] from g2]at h
  cases e2:asL r.d with
  | stk=>simp[e2]at h
  | exc x=>exact(eF e2).elim
  | ok ds =>
   simp only[e2,R.ok_bind]at h;obtain⟨a,xs,h1,h2,h3⟩:=g1.list (dE e2);exact⟨a,by rw[h1],⟨xs,.inl h2⟩,h _ H' (aD.refl _) (aF0 (fun hk=>g1.notB d0 (dE e2) h1 hk) h2 h3)⟩
 | v :: w :: _,_,⟨r,rr,e1,g1,r2,rr2,e2,g2⟩ =>
  subst e1;subst e2;exact h.elim
end Mir
namespace Dk
open PySem Zp
def Ent (h:Heap)(d:Addr)(es:Array DictEntry)(ep:Nat):Prop:=∃ o,h.get? d=some o/\o.ExactDict/\o.data=.dict es ep
theorem Ent.ty {s:Shared}{d:Addr}{es:Array DictEntry}{ep:Nat}(x:Ent s.heap d es ep):s.TypeIs (.ref d) "dict":=by
 obtain⟨o,h1,h2,h3⟩:=x;exact⟨o,h1,h2.1⟩
section
variable {prog:Program}{w:World}{A:Around}{E:Value->Shared->Prop}{s:Shared}
abbrev krc (d:Addr)(i n ep:Nat):Obj:={ cls:=.type "dict_keyiterator",data:=.fields #[.ref d,.int i 0,.int n 0,.int ep 0] }
theorem aSe {d:Addr}{es:Array DictEntry}{ep:Nat}{Q:Value->Shared->Prop}(ne:(d==sysModules)=false)(x:Ent s.heap d es ep)
 (q:Q (.ref s.heap.objs.size) { s with heap:=s.heap.push (krc d 0 es.size ep) }):wpAny (model prog w) A (pyIter (.ref d)) Q E s:=by
 have ty:=x.ty;obtain⟨o,h1,h2,h3⟩:=x;refine wpAny_pyIter_slot ty F.slot_dict_iter (wpAny_call_entry F.slot_dict_iter ty F.entry_dict_iter ?_ (F.args_dict_iter_1 _))
 have ne':¬ (d==sysModules)=true:=by rw[ne];exact Db
 have kc:¬ (o.cls != Value.type "dict")=true:=by rw[h2.1];decide
 repeat (first | assumption | (with_reducible refine wpAny_notOrdered_dict ty ?_) | (rw[if_neg kc]) | (rw[if_neg ne']) | (with_reducible refine wpAny_dictEntries h1 h3 ?_) | (with_reducible refine wpAny_dictEpoch h1 h3 ?_) | wp_step)
 exact⟨.ref s.heap.objs.size,rfl,"dict_keyiterator",_,⟨krc d 0 es.size ep,Bb _ rfl,rfl⟩,F.slot_dict_keyiterator_next.lookup,q⟩
variable {it d:Addr}{es:Array DictEntry}{i ep:Nat}
theorem aV7 {k:DictEntry}{Q:Fin->Shared->Prop}(ho:s.heap.get? it=some (krc d i es.size ep))(x:Ent s.heap d es ep)(ek:es[i]?=some k)
 (q:∀ h',h'.get? it=some (krc d (i+1) es.size ep)->Heap.SameBut it s.heap h'->Q (.done (.ret k.key)) { s with heap:=h' }) :
 wpAny (model prog w) A (Builtin.«dict_keyiterator.__next__» ⟨[.ref it],[]⟩) Q E s:=by
 obtain⟨o,h1,h2,h3⟩:=x;have ty:s.TypeIs (.ref it) "dict_keyiterator":=⟨_,ho,rfl⟩;have ek':(if (i:Int)<0 then none else es[(i:Int).toNat]?)=some k:=by rw[if_neg (by omega),Ec];exact ek
 repeat (first | assumption | (rw[ek']) | (with_reducible refine wpAny_isOneOf_keyiter ⟨_,e1,rfl⟩ ?_) | (with_reducible refine wpAny_typeNameOfWhole_keyiter ty ?_) | (with_reducible refine wpAny_isOneOf_keyiter ty ?_) | (with_reducible refine wpAny_dictEntries h1 h3 ?_) | (with_reducible refine wpAny_dictEpoch h1 h3 ?_) | (with_reducible refine wpAny_fieldsOf ho rfl ?_) | (with_reducible refine wpAny_setField_rec ho (by simp;decide) fun h' e1 e2=>?_) | wp_step)
 exact q h' (e1.trans rfl) e2
theorem dry {Q:Fin->Shared->Prop}(hh:A.handled=none)(ho:s.heap.get? it=some (krc d i es.size ep))(x:Ent s.heap d es ep)(ek:es.size<=i)
 (q:∀ h' e o,h'.get? e=some o->o.cls=.type "StopIteration"->Heap.ExtBut it s.heap h'->E (.ref e) { s with heap:=h' }) :
 wpAny (model prog w) A (Builtin.«dict_keyiterator.__next__» ⟨[.ref it],[]⟩) Q E s:=by
 obtain⟨o,h1,h2,h3⟩:=x;have ty:s.TypeIs (.ref it) "dict_keyiterator":=⟨_,ho,rfl⟩;have ek':(if (i:Int)<0 then none else es[(i:Int).toNat]?)=none:=by rw[if_neg (by omega),Ec];exact Array.getElem?_eq_none ek
 repeat (first | assumption | (rw[ek']) | (rw[hh]) | (with_reducible refine wpAny_typeNameOfWhole_keyiter ty ?_) | (with_reducible refine wpAny_isOneOf_keyiter ty ?_) | (with_reducible refine wpAny_dictEntries h1 h3 ?_) | (with_reducible refine wpAny_dictEpoch h1 h3 ?_) | (with_reducible refine wpAny_fieldsOf ho rfl ?_) | (with_reducible refine wpAny_setField_rec ho (by simp;decide) fun h' e1 e2=>?_) | wp_step)
 unfold raiseNew;refine wpAny_bind (wpAny_handled ?_);rw[hh]
 refine wpAny_bind (wpAny_pure (wpAny_throw (q _ _ _ (Bb _ rfl) rfl ((e2.extBut.push _).push _))))
theorem nxt {o:Obj}{Q:Option Value->Shared->Prop}(ho:s.heap.get? it=some o)(hc:o.cls=.type "dict_keyiterator")
 (h:wpAny (model prog w) A.in1 (Builtin.«dict_keyiterator.__next__» ⟨[.ref it],[]⟩) (fun r s'=>∃ v,r=.done (.ret v)/\Q (some v) s') (fun e s'=>∃ a u,e=.ref a/\s'.heap.get? a=some u/\u.cls=.type "StopIteration"/\Q none s') s):wpAny (model prog w) A (pyNext (.ref it)) Q E s:=by
 have ty:s.TypeIs (.ref it) "dict_keyiterator":=⟨o,ho,hc⟩;refine wpAny_bind (wpAny_attempt (wpAny_mono (Q:=fun r s'=>∃ v,r=some v/\Q (some v) s') (wpAny_callSpecial?_slot ty F.slot_dict_keyiterator_next (wpAny_call_entry F.slot_dict_keyiterator_next ty F.entry_dict_keyiterator_next (wpAny_mono h ?_ fun _ _ e=>e) (F.args_dict_keyiterator_next_1 _))) ?_ ?_))
 · rintro _ s' ⟨v,rfl,q⟩
   exact⟨v,rfl,v,rfl,q⟩
 · rintro _ s' ⟨v,rfl,q⟩
   exact wpAny_pure q
 · rintro _ s' ⟨a,u,rfl,e1,e2,q⟩
   exact wpAny_bind (wpAny_isInstance (T:="StopIteration") (b:=true) ⟨u,e1,e2⟩ isSubtype_stop (wpAny_pure q))
end
end Dk
namespace Srt
open PySem PySem.W PyProof.Rows
def pw (lt:Nat->Nat->Bool)(n:Nat):KasT α->(α->Prop)->Prop
 | .ret a,Q=>Q a
 | .ask i j k,Q=>i<n/\j<n/\pw lt n (k (lt i j)) Q
section
variable {lt:Nat->Nat->Bool}{n:Nat}
theorem lU {α β:Type}{f:α->KasT β}{Q:β->Prop}:∀ {t:KasT α},pw lt n t (fun a=>pw lt n (f a) Q)->pw lt n (t.bind f) Q
 | .ret _,h=>h
 | .ask _ _ _,⟨h1,h2,h3⟩=>⟨h1,h2,lU h3⟩
theorem eP {α:Type}{Q Q':α->Prop}(hq:∀ a,Q a->Q' a):∀ {t:KasT α},pw lt n t Q->pw lt n t Q'
 | .ret _,h=>hq _ h
 | .ask _ _ _,⟨h1,h2,h3⟩=>⟨h1,h2,eP hq h3⟩
theorem aOz {α:Type}{cmp:Nat->Nat->(Bool->Shared->Prop)->Shared->Prop}{I:Shared->Prop}(hc:∀ i j C s,i<n->j<n->I s->(∀ s',I s'->C (lt i j) s')->cmp i j C s){R:α->Prop}{Q:α->Shared->Prop}(hq:∀ a s,R a->I s->Q a s) :
 ∀ {t:KasT α} {s:Shared},pw lt n t R->I s->t.kasWp cmp Q s
 | .ret _,_,h,i=>hq _ _ h i
 | .ask _ _ _,_,⟨h1,h2,h3⟩,i=>hc _ _ _ _ h1 h2 i fun s' i'=>aOz hc hq h3 i'
def at' (p:Array Nat)(k:Nat):Nat:=p.getD k 0
def Le (lt:Nat->Nat->Bool)(a b:Nat):Prop:=lt b a=false
structure Ord (lt:Nat->Nat->Bool):Prop where
 tr:∀ {a b c},Le lt a b->Le lt b c->Le lt a c
 tot:∀ {a b},lt a b=true->Le lt a b
theorem Ord.refl (o:Ord lt)(a:Nat):Le lt a a:=by
 cases h:lt a a with
 | false=>exact h
 | true=>exact o.tot h
def Inv (n:Nat)(p:Array Nat):Prop:=p.Perm (Af n).toArray
theorem Inv.size {p:Array Nat}(h:Inv n p):p.size=n:=by simpa using h.size_eq
theorem Inv.bd {p:Array Nat}(h:Inv n p){k:Nat}(hk:k<n):at' p k<n:=by
 have hk':k<p.size:=by rw[h.size];exact hk
 have:p[k]∈(Af n).toArray:=h.mem_iff.mp (Array.getElem_mem hk')
 unfold at';simpa[Array.getD,hk'] using this
theorem kO {p:Array Nat}{i j:Nat}(hj:j<=p.size)(k:Nat):at' (kas_rev p i j) k=if i<=k/\k<j then at' p (i+j-1-k) else at' p k:=by
 have e:=getElem?_mirror_all (xs:=p) (i:=i) hj k;have g:∀ (q:Array Nat) (j:Nat),at' q j=(q[j]?).getD 0:=fun q j=>Array.getD_eq_getD_getElem? ..;rw[g,g,g,kas_rev,e];split<;>rfl
theorem aJg {p:Array Nat}{s d:Nat}(hs:s<p.size)(hd:d<=s)(k:Nat):at' (bubble p s d) k=if k=s-d then at' p s else if s-d<k/\k<=s then at' p (k-1) else at' p k:=by
 have e:=(getElem?_bubble hs d hd k);have g:∀ (q:Array Nat) (j:Nat),at' q j=(q[j]?).getD 0:=fun q j=>Array.getD_eq_getD_getElem? ..;rw[g,g,g,g,e];split
 · rfl
 · split<;>rfl
theorem Inv.rev {p:Array Nat}(h:Inv n p)(i j:Nat):Inv n (kas_rev p i j):=(mirror_perm _ _ _ _).trans h
theorem Inv.bub {p:Array Nat}(h:Inv n p)(i j:Nat):Inv n (bubble p i j):=(bubble_perm _ _ _).trans h
def Up (lt:Nat->Nat->Bool)(p:Array Nat)(m:Nat):Prop:=∀ i j,i<=j->j<m->Le lt (at' p i) (at' p j)
def Dn (lt:Nat->Nat->Bool)(p:Array Nat)(m:Nat):Prop:=∀ i j,i<=j->j<m->Le lt (at' p j) (at' p i)
theorem Up.step (o:Ord lt){p:Array Nat}{m:Nat}(h:Up lt p m)(hm:1<=m)(e:Le lt (at' p (m-1)) (at' p m)):Up lt p (m+1):=fun i j hij hj=>by
 by_cases h1:j<m
 · exact h i j hij h1
 · have:j=m:=by omega
   subst this;by_cases h2:i=j
   · subst h2;exact o.refl _
   · exact o.tr (h i (j-1) (by omega) (by omega)) e
theorem Dn.step (o:Ord lt){p:Array Nat}{m:Nat}(h:Dn lt p m)(hm:1<=m)(e:Le lt (at' p m) (at' p (m-1))):Dn lt p (m+1):=fun i j hij hj=>by
 by_cases h1:j<m
 · exact h i j hij h1
 · have:j=m:=by omega
   subst this;by_cases h2:i=j
   · subst h2;exact o.refl _
   · exact o.tr e (h i (j-1) (by omega) (by omega))
theorem aCz (o:Ord lt){p:Array Nat}(ip:Inv n p):∀ (f a:Nat),1<=a->a+f<=n->Up lt p a->pw lt n (kas_asc p f a) fun m=>a<=m/\m<=a+f/\Up lt p m/\(m=a+f\/lt (at' p m) (at' p (m-1))=true)
 | 0,a,h1,h2,u=>⟨Am _,Am _,u,.inl rfl⟩
 | f+1,a,h1,h2,u=>by
  refine⟨ip.bd (by omega),ip.bd (by omega),?_⟩
  cases c:lt (p.getD a 0) (p.getD (a-1) 0) with
  | true=>exact⟨Am _,by omega,u,.inr c⟩
  | false =>
   refine eP ?_ (aCz o ip f (a+1) (by omega) (by omega) (u.step o h1 c))
   rintro m ⟨q1,q2,q3,q4⟩
   exact⟨by omega,by omega,q3,q4.imp (fun z=>by omega) id⟩
def Eqs (lt:Nat->Nat->Bool)(p:Array Nat)(m q:Nat):Prop:=∀ i j,m-(q+1)<=i->i<m->m-(q+1)<=j->j<m->Le lt (at' p i) (at' p j)
theorem Dn.rev (o:Ord lt){p:Array Nat}{m q:Nat}(h:Dn lt p m)(e:Eqs lt p m q)(hm:m<=p.size):Dn lt (kas_rev p (m-(q+1)) m) m:=fun i j hij hj=>by
 rw[kO hm,kO hm];split
 · split
   · exact e _ _ (by omega) (by omega) (by omega) (by omega)
   · exact h _ _ (by omega) (by omega)
 · split
   · omega
   · exact h _ _ hij hj
theorem qW (o:Ord lt):∀ (f:Nat) (p:Array Nat) (m q:Nat),Inv n p->1<=m->q+1<=m->m+f<=n->Dn lt p m->Eqs lt p m q->pw lt n (kas_desc f p m q) fun r=>Inv n r.1/\m<=r.2.1/\r.2.1<=m+f/\Dn lt r.1 r.2.1/\r.2.2+1<=r.2.1/\Eqs lt r.1 r.2.1 r.2.2
 | 0,p,m,q,ip,h1,h2,h3,d,e=>⟨ip,Am _,Am _,d,h2,e⟩
 | f+1,p,m,q,ip,h1,h2,h3,d,e=>by
  have one:∀ p':Array Nat,Eqs lt p' (m+1) 0:=fun p' i j a1 a2 a3 a4=>by
   have:i=j:=by omega
   subst this;exact o.refl _
  refine⟨ip.bd (by omega),ip.bd (by omega),?_⟩
  cases c:lt (p.getD m 0) (p.getD (m-1) 0) with
  | true =>
   simp only[if_true];have cc:Le lt (at' p m) (at' p (m-1)):=o.tot c;by_cases hq:q>0
   · rw[if_pos hq]
     refine eP ?_ (qW o f (kas_rev p (m-(q+1)) m) (m+1) 0 (ip.rev _ _) (by omega) (by omega) (by omega) ?_ (one _))
     · rintro r ⟨q1,q2,q3,q4⟩
       exact⟨q1,by omega,by omega,q4⟩
     · refine(d.rev o e (by rw[ip.size];omega)).step o h1 ?_
       rw[kO (by rw[ip.size];omega),kO (by rw[ip.size];omega),if_neg (by omega),if_pos (by omega)]
       exact o.tr cc (e _ _ (by omega) (by omega) (by omega) (by omega))
   · rw[if_neg hq]
     refine eP ?_ (qW o f p (m+1) 0 ip (by omega) (by omega) (by omega) (d.step o h1 cc) (one _))
     rintro r ⟨q1,q2,q3,q4⟩
     exact⟨q1,by omega,by omega,q4⟩
  | false =>
   have c1:Le lt (at' p (m-1)) (at' p m):=c;simp only[if_false,Cf];refine⟨ip.bd (by omega),ip.bd (by omega),?_⟩
   cases c':lt (p.getD (m-1) 0) (p.getD m 0) with
   | true=>exact⟨ip,Am _,Ci _ _,d,h2,e⟩
   | false =>
    have c2:Le lt (at' p m) (at' p (m-1)):=c';simp only[if_false,Cf];refine eP ?_ (qW o f p (m+1) (q+1) ip (by omega) (by omega) (by omega) (d.step o h1 c2) ?_)
    · rintro r ⟨q1,q2,q3,q4⟩
      exact⟨q1,by omega,by omega,q4⟩
    · intro i j a1 a2 a3 a4
      by_cases hi:i=m
      · by_cases hj:j=m
        · rw[hi,hj];exact o.refl _
        · rw[hi];exact o.tr c2 (e _ _ (by omega) (by omega) (by omega) (by omega))
      · by_cases hj:j=m
        · rw[hj];exact o.tr (e _ (m-1) (by omega) (by omega) (by omega) (by omega)) c1
        · exact e _ _ (by omega) (by omega) (by omega) (by omega)
def Cnt (lt:Nat->Nat->Bool)(n:Nat)(r:Nat×Array Nat):Prop:=Inv n r.2/\1<=r.1/\r.1<=n/\Up lt r.2 r.1
theorem aE8 (o:Ord lt){p:Array Nat}{m:Nat}(ip:Inv n p)(h1:1<=m)(h2:m<=n)(d:Dn lt p m):pw lt n (kas_tail3 m n p) (Cnt lt n):=by
 refine lU (eP ?_ (aCz o (ip.rev 0 m) (n-m) m h1 (by omega) fun i j hij hj=>?_))
 · rintro a ⟨q1,q2,q3,_⟩
   exact⟨ip.rev 0 m,by omega,by omega,q3⟩
 · rw[kO (by rw[ip.size];omega),kO (by rw[ip.size];omega),if_pos (by omega),if_pos (by omega)]
   exact d _ _ (by omega) (by omega)
theorem qB (o:Ord lt){p:Array Nat}{m:Nat}(ip:Inv n p)(h1:1<=m)(h2:m+1<=n)(d:Dn lt p (m+1)):pw lt n (kas_descPart m n p) (Cnt lt n):=by
 refine lU (eP ?_ (qW o (n-(m+1)) p (m+1) 0 ip (by omega) (by omega) (by omega) d fun i j a1 a2 a3 a4=>?_))
 · rintro⟨p',m',q'⟩ ⟨q1,q2,q3,q4,q5,q6⟩
   dsimp only at q1 q2 q3 q4 q5 q6 ⊢
   split
   · exact aE8 o (q1.rev _ _) (by omega) (by omega) (q4.rev o q6 (by rw[q1.size];omega))
   · exact aE8 o q1 (by omega) (by omega) q4
 · have:i=j:=by omega
   subst this;exact o.refl _
theorem aHi (o:Ord lt){p:Array Nat}(ip:Inv n p)(hn:1<=n):pw lt n (kas_count n p) (Cnt lt n):=by
 refine lU (eP ?_ (aCz o ip (n-1) 1 (Am _) (by omega) fun i j hij hj=>?_))
 · rintro m ⟨q1,q2,q3,q4⟩
   by_cases hm:m=n
   · rw[if_pos (by simpa using hm)]
     exact⟨ip,q1,by omega,q3⟩
   · rw[if_neg (by simpa using hm)]
     have c:Le lt (at' p m) (at' p (m-1)):=by
      rcases q4 with z | z
      · omega
      · exact o.tot z
     by_cases h1:m>1
     · rw[if_pos h1]
       refine⟨ip.bd (by omega),ip.bd (by omega),?_⟩
       cases e:lt (p.getD 0 0) (p.getD (m-1) 0) with
       | true=>exact⟨ip,q1,by omega,q3⟩
       | false =>
        simp only[if_false,Cf];have e':Le lt (at' p (m-1)) (at' p 0):=e;have all:∀ i j,i<m->j<m->Le lt (at' p i) (at' p j):=fun i j hi hj=>o.tr (q3 i (m-1) (by omega) (by omega)) (o.tr e' (q3 0 j (Cc _) hj))
        refine qB o (ip.rev 0 m) q1 (by omega) fun i j hij hj=>?_
        have hs:m<=p.size:=by rw[ip.size];omega
        rw[kO hs,kO hs];by_cases hj':j<m
        · rw[if_pos (by omega),if_pos (by omega)]
          exact all _ _ (by omega) (by omega)
        · rw[if_neg (by omega)]
          by_cases hi':i<m
          · rw[if_pos (by omega)]
            have:j=m:=by omega
            subst this;exact o.tr c (all _ _ (by omega) (by omega))
          · rw[if_neg (by omega)]
            have:i=j:=by omega
            subst this;exact o.refl _
     · rw[if_neg h1]
       have:m=1:=by omega
       subst this;refine qB o ip q1 (by omega) fun i j hij hj=>?_
       by_cases h:i=j
       · subst h;exact o.refl _
       · have:i=0/\j=1:=by omega
         rw[this.1,this.2];exact c
 · have:i=j:=by omega
   subst this;exact o.refl _
theorem sH (o:Ord lt){p:Array Nat}{k:Nat}(ip:Inv n p)(hk:k<n)(u:Up lt p k):∀ (f l r:Nat),r<=l+f->r<=k->l<=k->(∀ i,i<l->Le lt (at' p i) (at' p k))->(∀ i,r<=i->i<k->Le lt (at' p k) (at' p i)) ->
 pw lt n (kas_place p k f l r) fun m=>m<=k/\(∀ i,i<m->Le lt (at' p i) (at' p k))/\∀ i,m<=i->i<k->Le lt (at' p k) (at' p i)
 | 0,l,r,h1,h2,h3,h4,h5=>⟨h3,h4,fun i a b=>h5 i (by omega) b⟩
 | f+1,l,r,h1,h2,h3,h4,h5=>by
  unfold kas_place;split
  · exact⟨h3,h4,fun i a b=>h5 i (by omega) b⟩
  · rename_i hlr
    refine⟨ip.bd hk,ip.bd (by omega),?_⟩
    cases c:lt (p.getD k 0) (p.getD ((l+r)/2) 0) with
    | true =>
     simp only[if_true];have cc:Le lt (at' p k) (at' p ((l+r)/2)):=o.tot c;exact sH o ip hk u f l ((l+r)/2) (by omega) (by omega) h3 h4 fun i a b=>o.tr cc (u _ _ a b)
    | false =>
     simp only[if_false,Cf];have cc:Le lt (at' p ((l+r)/2)) (at' p k):=c;exact sH o ip hk u f ((l+r)/2+1) r (by omega) h2 (by omega) (fun i a=>o.tr (u i ((l+r)/2) (by omega) (by omega)) cc) h5
theorem aHg (o:Ord lt):∀ (f:Nat) (p:Array Nat) (k:Nat),Inv n p->k+f<=n->Up lt p k->pw lt n (kas_bin f p k) fun p'=>Inv n p'/\Up lt p' (k+f)
 | 0,p,k,ip,h,u=>⟨ip,u⟩
 | f+1,p,k,ip,h,u=>by
  refine lU (eP ?_ (sH o ip (by omega) u k 0 k (by omega) (Am _) (Cc _) (fun i z=>absurd z (Nat.not_lt_zero _)) fun i a b=>by omega))
  rintro m ⟨q1,q2,q3⟩
  refine eP ?_ (aHg o f (bubble p k (k-m)) (k+1) (ip.bub _ _) (by omega) fun i j hij hj=>?_)
  · rintro p' ⟨w1,w2⟩
    exact⟨w1,by rw[show k+(f+1)=k+1+f by omega];exact w2⟩
  · have hs:k<p.size:=by rw[ip.size];omega
    rw[aJg hs (by omega),aJg hs (by omega)]
    by_cases i1:i=k-(k-m)
    · rw[if_pos i1]
      by_cases j1:j=k-(k-m)
      · rw[if_pos j1];exact o.refl _
      · rw[if_neg j1,if_pos (by omega)]
        exact q3 _ (by omega) (by omega)
    · rw[if_neg i1]
      by_cases j1:j=k-(k-m)
      · rw[if_pos j1,if_neg (by omega)]
        exact q2 _ (by omega)
      · rw[if_neg j1]
        by_cases i2:k-(k-m)<i/\i<=k
        · rw[if_pos i2,if_pos (by omega)]
          exact u _ _ (by omega) (by omega)
        · rw[if_neg i2]
          by_cases j2:k-(k-m)<j/\j<=k
          · rw[if_pos j2];exact u _ _ (by omega) (by omega)
          · rw[if_neg j2];exact u _ _ (by omega) (by omega)
theorem aMs (o:Ord lt)(hn:1<=n):pw lt n (kas_sort n) fun p=>Inv n p/\Up lt p n:=by
 refine lU (eP ?_ (aHi o (show Inv n (Af n).toArray from Array.Perm.refl _) hn))
 rintro⟨m,p⟩ ⟨q1,q2,q3,q4⟩
 dsimp only at q1 q2 q3 q4 ⊢
 split
 · refine eP ?_ (aHg o (n-max m 1) p (max m 1) q1 (by omega) ?_)
   · rintro p' ⟨w1,w2⟩
     exact⟨w1,by rw[show n=max m 1+(n-max m 1) by omega];exact w2⟩
   · rw[show max m 1=m by omega];exact q4
 · exact⟨q1,by rw[show n=m by omega];exact q4⟩
end
end Srt
namespace Srt
open PySem PySem.W PyProof.Rows
def mP (t s:Shared):Prop:=∃ tk,s={ t with toks:=tk }
theorem mP.refl (t:Shared):mP t t:=⟨t.toks,rfl⟩
section
variable {prog:Program}{w:World}{A:Around}{E:Value->Shared->Prop}{s:Shared}{lt:Nat->Nat->Bool}
def oB (prog:Program)(w:World)(A:Around)(lt:Nat->Nat->Bool)(vs:List Value)(κ:SortKind)(t:Shared):Prop :=
 ∀ i j C s1,i<vs.length->j<vs.length->mP t s1->(∀ s2,mP t s2->C (lt i j) s2)->kas_ask prog w A κ vs i j C s1
theorem aGo (o:Ord lt){a:Addr}{vs:List Value}{n:Nat}{P:PySem.Fin->Shared->Prop}(at0:s.heap.get? a=some (seqObj "list" vs.toArray n))(few:vs.length<64)
 (ask:2<=vs.length->∀ t:Shared,(∀ b x,b≠a->s.heap.get? b=some x->t.heap.get? b=some x)->wpAny (model prog w) A (keyKind' vs.toArray) (fun κ t'=>mP t t'/\oB prog w A lt vs κ t) (fun _ _=>False) t)
 (fin:∀ (p:Array Nat) (h':Heap) (tk c:Nat),Inv vs.length p->Up lt p vs.length->(∀ b x,b≠a->s.heap.get? b=some x->h'.get? b=some x)->h'.get? a=some (seqObj "list" (Gy (p.toList.map fun i=>vs.getD i Value.none)) c)->P (.done (.ret .none)) { s with heap:=h',toks:=tk }) :
 wpAny (model prog w) A (Builtin.«list.sort» (⟨[.ref a],[]⟩)) P E s:=by
 have lts:a<s.heap.objs.size:=Ap at0;have line:vs.length<=sizeLine:=by rw[sizeLine_eq];omega
 rw[list_sort_plain];refine wpAny_bind (listItems_at at0 rfl ?_)
 refine wpAny_bind (listUpdate_at at0 rfl ?_ (by rw[Aq];exact line) (Cc _))
 generalize hU:s.heap.update a (Obj.mapSeq fun _=>(#[]:Array Value))=U
 have sb:Heap.SameBut a s.heap U:=hU▸Heap.SameBut.update s.heap a _;obtain⟨ep,atU⟩:∃ ep,U.get? a=some (seqObj "list" #[] ep):=⟨_,hU▸get?_update_seq at0 fun _=>#[]⟩;refine wpAny_bind (seqEpoch_at atU rfl ?_)
 refine wpAny_bind (wpAny_newTuple ?_ line)
 refine wpAny_bind (wpAny_newList (wpAny_holding ?_) (Cc _))
 generalize hV:(U.push (seqObj "tuple" vs.toArray 0)).push (seqObj "list" #[] 0)=Vh
 have up:∀ b x,U.get? b=some x->Vh.get? b=some x:=fun b x q=>hV▸Ag _ (Ag _ q);have kp:∀ b x,b≠a->s.heap.get? b=some x->Vh.get? b=some x:=fun b x nb q=>up b x ((sb.2 b nb).trans q);show wpAny (model prog w) A _ P E { s with heap:=Vh }
 dsimp only
 have size:∀ (p:Array Nat) (out:Array Value),out=Gy (p.toList.map fun i=>vs.getD i Value.none)->Inv vs.length p->out.size<=sizeLine+1:=fun p out ho ip=>by
  rw[ho,Aq,Ad,Array.length_toList,ip.size];exact Nat.le_succ_of_le line
 have last:∀ (p:Array Nat) (tk:Nat) (out:Array Value),out=Gy (p.toList.map fun i=>vs.getD i Value.none)->Inv vs.length p->Up lt p vs.length->P (.done (.ret .none)) { s with heap:=Vh.update a (Obj.mapSeq fun _=>out),toks:=tk }:=fun p tk out ho ip u=>by
  have sv:=Heap.SameBut.update Vh a (Obj.mapSeq fun _=>out);obtain⟨c,atc⟩:∃ c,(Vh.update a (Obj.mapSeq fun _=>out)).get? a=some (seqObj "list" out c):=⟨_,get?_update_seq (up _ _ atU) fun _=>out⟩;exact fin p _ tk c ip u (fun b x nb q=>(sv.2 b nb).trans (kp b x nb q)) (by rw[←ho];exact atc)
 by_cases two:vs.toArray.size<2
 · rw[if_pos two,if_pos two]
   have tw:vs.length<2:=by simpa using two
   refine wpAny_bind (wpAny_pure ?_)
   rw[StateT.run_pure];refine wpAny_bind (wpAny_pure ?_)
   have ident:(arrOf (SortSt.mk' general' (vs.toArray.zip vs.toArray) #[] 7 none)).map (·.2)=Gy ((Af vs.length).toArray.toList.map fun i=>vs.getD i Value.none):=by
    show (vs.toArray.zip vs.toArray).map (·.2)=_
    match vs,tw with
    | [],_=>simp
    | [v],_=>simp
   have alone:Up lt (Af vs.length).toArray vs.length:=fun i j hij hj=>by
    have:i=j:=by omega
    subst this;exact o.refl _
   dsimp only
   refine wpAny_bind (seqEpoch_at (up _ _ atU) rfl (wpAny_bind (listUpdate_at (up _ _ atU) rfl ?_ (Cc _) (size (Af vs.length).toArray _ ident (show Inv vs.length (Af vs.length).toArray from Array.Perm.refl _)))))
   simp only[if_false,Cf,bne_self_eq_false];exact wpAny_pure (last (Af vs.length).toArray s.toks _ ident (show Inv vs.length (Af vs.length).toArray from Array.Perm.refl _) alone)
 · rw[if_neg two,if_neg two]
   have tw:2<=vs.length:=by simpa using two
   refine wpAny_bind (wpAny_mono (ask tw { s with heap:=Vh } kp) (fun κ t' ⟨lk,an⟩=>?_) fun _ _ z=>z.elim)
   obtain⟨tk0,e0⟩:=lk;subst e0
   refine wpAny_bind (wpAny_mono (kat_run (ks:=vs) (vs:=vs) (κ:=κ) (Q:=fun st' s'=>∃ p:Array Nat,arrOf st'=p.map (kas_item (vs.toArray.zip vs.toArray))/\failedOf st'=none/\(Inv vs.length p/\Up lt p vs.length)/\mP { s with heap:=Vh } s')
    (G:=fun p s'=>(Inv vs.length p/\Up lt p vs.length)/\mP { s with heap:=Vh } s') rfl tw few (fun p st' s' _ a2 a3 a4=>⟨p,a2,a3,a4.1,a4.2⟩) (aOz (I:=mP { s with heap:=Vh }) (fun i j C s1 hi hj l q=>an i j C s1 hi hj l q) (fun p s1 r l=>⟨r,l⟩) (aMs o (by omega)) ⟨tk0,rfl⟩)) ?_ fun _ _ z=>z)
   rintro⟨⟨⟩,st'⟩ s' ⟨p,ar,fl,⟨ip,u⟩,tk1,e1⟩
   subst e1;dsimp only
   refine wpAny_bind (seqEpoch_at (up _ _ atU) rfl (wpAny_bind (listUpdate_at (up _ _ atU) rfl ?_ (Cc _) (size p _ (kat_snds rfl ar) ip))))
   rw[fl];simp only[if_false,Cf,bne_self_eq_false];exact wpAny_pure (last p tk1 _ (kat_snds rfl ar) ip u)
end
end Srt
namespace Srt
open PySem PySem.W PyProof.Rows
abbrev lx:=HT.iU
theorem aJl:∀ a:List Int,lx a a=false
 | []=>rfl
 | x :: a=>by show (if x=x then lx a a else _)=false;rw[if_pos rfl];exact aJl a
theorem aHu:∀ {a b:List Int},lx a b=true->lx b a=false
 | [],[],_=>rfl
 | [],_ :: _,_=>rfl
 | _ :: _,[],h=>by cases h
 | x :: a,y :: b,h=>by
  have h':(if x=y then lx a b else decide (x<y))=true:=h
  show (if y=x then lx b a else decide (y<x))=false
  by_cases e:x=y
  · rw[if_pos e]at h';rw[if_pos e.symm];exact aHu h'
  · rw[if_neg e]at h';rw[if_neg (Ne.symm e)]
    have:=of_decide_eq_true h'
    exact decide_eq_false (by omega)
theorem aJm:∀ {a b:List Int},lx a b=false->lx b a=false->a=b
 | [],[],_,_=>rfl
 | [],(_ :: _),h,_=>(by cases h)
 | (_ :: _),[],_,h=>(by cases h)
 | x :: a,y :: b,h,g=>by
  have h':(if x=y then lx a b else decide (x<y))=false:=h
  have g':(if y=x then lx b a else decide (y<x))=false:=g
  by_cases e:x=y
  · rw[if_pos e]at h';rw[if_pos e.symm]at g';rw[e,aJm h' g']
  · rw[if_neg e]at h';rw[if_neg (Ne.symm e)]at g'
    have u:=of_decide_eq_false h';have v:=of_decide_eq_false g';omega
theorem aI2:∀ {a b c:List Int},lx a b=true->lx b c=true->lx a c=true
 | [],[],_,h,_=>by cases h
 | [],_ :: _,[],_,g=>by cases g
 | [],(_ :: _),(_ :: _),_,_=>rfl
 | (_ :: _),[],_,h,_=>(by cases h)
 | _ :: _,_ :: _,[],_,g=>by cases g
 | x :: a,y :: b,z :: c,h,g=>by
  have h':(if x=y then lx a b else decide (x<y))=true:=h
  have g':(if y=z then lx b c else decide (y<z))=true:=g
  show (if x=z then lx a c else decide (x<z))=true
  by_cases e:x=y
  · rw[if_pos e]at h'
    by_cases f:y=z
    · rw[if_pos f]at g';rw[if_pos (e.trans f)];exact aI2 h' g'
    · rw[if_neg f]at g';rw[if_neg (by omega)];have:=of_decide_eq_true g';exact decide_eq_true (by omega)
  · rw[if_neg e]at h'
    have u:=of_decide_eq_true h';by_cases f:y=z
    · rw[if_neg (by omega)];exact decide_eq_true (by omega)
    · rw[if_neg f]at g';have v:=of_decide_eq_true g';rw[if_neg (by omega)];exact decide_eq_true (by omega)
theorem aRu {α:Type}{r:α->α->Bool}(key:Nat->α)(asy:∀ {a b},r a b=true->r b a=false)(tri:∀ {a b},r a b=false->r b a=false->a=b)(trs:∀ {a b c},r a b=true->r b c=true->r a c=true):Ord fun i j=>r (key i) (key j):=by
 refine⟨fun {a b c} h g=>?_,fun h=>asy h⟩
 have h':r (key b) (key a)=false:=h;have g':r (key c) (key b)=false:=g;show r (key c) (key a)=false
 cases q:r (key c) (key a) with
 | false=>rfl
 | true =>
  cases ab:r (key a) (key b) with
  | true=>have:=trs q ab;rw[g']at this;cases this
  | false=>rw[tri ab h']at q;rw[g']at q;cases q
def px (a b:List Int×Int):Bool:=if a.1=b.1 then decide (a.2<b.2) else lx a.1 b.1
theorem aRk {a b:List Int×Int}(h:px a b=true):px b a=false:=by
 unfold px at h ⊢;by_cases e:a.1=b.1
 · rw[if_pos e]at h;rw[if_pos e.symm];have:=of_decide_eq_true h;exact decide_eq_false (by omega)
 · rw[if_neg e]at h;rw[if_neg (Ne.symm e)];exact aHu h
theorem aSd {a b:List Int×Int}(h:px a b=false)(g:px b a=false):a=b:=by
 unfold px at h g;by_cases e:a.1=b.1
 · rw[if_pos e]at h;rw[if_pos e.symm]at g
   have u:=of_decide_eq_false h;have v:=of_decide_eq_false g;exact Prod.ext e (by omega)
 · rw[if_neg e]at h;rw[if_neg (Ne.symm e)]at g;exact absurd (aJm h g) e
theorem aQl {a b c:List Int×Int}(h:px a b=true)(g:px b c=true):px a c=true:=by
 unfold px at h g ⊢;by_cases e:a.1=b.1
 · rw[if_pos e]at h
   by_cases f:b.1=c.1
   · rw[if_pos f]at g;rw[if_pos (e.trans f)]
     have u:=of_decide_eq_true h;have v:=of_decide_eq_true g;exact(decide_eq_true (by omega))
   · rw[if_neg f]at g;rw[if_neg (by rw[e];exact f),e];exact g
 · rw[if_neg e]at h
   by_cases f:b.1=c.1
   · rw[if_neg (by rw[←f];exact e),←f];exact h
   · rw[if_neg f]at g
     have t:=aI2 h g;rw[if_neg (fun z=>by rw[z,aJl]at t;cases t)];exact t
section
variable {prog:Program}{w:World}{A:Around}{E:Value->Shared->Prop}{s:Shared}
theorem aGm {t s1:Shared}(l:mP t s1):s1.heap=t.heap:=by obtain⟨tk,rfl⟩:=l;rfl
end
end Srt
namespace Srt
open PySem PySem.W PyProof.Rows
section
variable {prog:Program}{w:World}{A:Around}{E:Value->Shared->Prop}{s:Shared}{lt:Nat->Nat->Bool}
theorem aD4 {h:Heap}{a:Addr}{its:Array Value}{k:List Int}(t:IsTup h a its)(i:IntsAre its.toList k):IsTupleKey (PySem.intKind prog w) h k a:=by
 obtain⟨o,h1,h2,n,h3⟩:=t;refine⟨o,its,n,h1,h2,h3,?_⟩
 have go:∀ {vs:List Value} {ns:List Int},IntsAre vs ns->ItemsAre (PySem.intKind prog w) ns vs:=by
  intro vs ns r;induction r with
  | nil=>exact .nil
  | cons n t _ ih=>exact .cons (intKind_is _ _ _ _) ih
 exact go i
def kY (h:Heap)(vs:List Value)(ks:List (List Int×Int)):Prop:=vs.length=ks.length/\∀ (i:Nat) (k:List Int×Int),ks[i]?=some k->∃ p a its tz,vs[i]?=some (.ref p)/\IsTup h p #[.ref a,.int k.2 tz]/\IsTup h a its/\IntsAre its.toList k.1
theorem kY.at_ {h:Heap}{vs:List Value}{ks:List (List Int×Int)}(t:kY h vs ks){i:Nat}(hi:i<vs.length):∃ p a its tz,vs.getD i Value.none=.ref p/\IsTup h p #[.ref a,.int (ks.getD i ([],0)).2 tz]/\IsTup h a its/\IntsAre its.toList (ks.getD i ([],0)).1:=by
 have hk:i<ks.length:=by rw[←t.1];exact hi
 obtain⟨p,a,its,tz,h1,h2,h3,h4⟩:=t.2 i ks[i] (Ae hk);refine⟨p,a,its,tz,by rw[Aa,h1];rfl,?_⟩
 rw[Aa,Ae hk];exact⟨h2,h3,h4⟩
theorem qH {h:Heap}:∀ {vs:List Value} {ks:List (List Int×Int)},kY h vs ks->∃ fs,KatTups h vs fs/\fs.length=vs.length/\∀ v∈fs,∃ a its,v=Value.ref a/\IsTup h a its
 | [],ks,t=>⟨[],.nil,rfl,fun _ z=>nomatch z⟩
 | v :: vs,[],t=>by have:=t.1;simp at this
 | v :: vs,k :: ks,t=>by
  obtain⟨p,a,its,tz,h1,⟨o,h2,h3,n,h4⟩,h5,h6⟩:=t.2 0 k rfl;have e:v=.ref p:=by simpa using h1
  subst e
  obtain⟨fs,f1,f2,f3⟩:=qH (vs:=vs) (ks:=ks) ⟨by simpa using t.1,fun i q hq=>by
   obtain⟨p',a',its',tz',u1,u2⟩:=t.2 (i+1) q (by simpa using hq)
   exact⟨p',a',its',tz',by simpa using u1,u2⟩⟩
  exact⟨.ref a :: fs,.cons h2 h3 h4 rfl f1,by simp[f2],fun u hu=>by
   rcases Aj.mp hu with z | z
   · exact⟨a,its,z,h5⟩
   · exact f3 u z⟩
theorem aFg {vs:List Value}{ks:List (List Int×Int)}{t:Shared}(T:kY t.heap vs ks)(hu:A.units<cLine)(two:2<=vs.length) :
 wpAny (model prog w) A (keyKind' vs.toArray) (fun κ t'=>mP t t'/\oB prog w A (fun i j=>px (ks.getD i ([],0)) (ks.getD j ([],0))) vs κ t) (fun _ _=>False) t:=by
 obtain⟨fs,f1,f2,f3⟩:=qH T;refine kat_kind (T:=.type "tuple") f1 (by omega) (fun v hv=>?_) (by decide) ⟨mP.refl t,fun i j C s1 hi hj l q=>?_⟩
 · obtain⟨a,its,rfl,o,h1,h2,_⟩:=f3 v hv
   have lk:Looks (model prog w) t.heap (typeOf (.ref a)) o.cls:=(Looks.ld h1).andThen .now;rw[h2]at lk;exact lk
 · obtain⟨p1,a1,its1,tz1,e1,⟨o1,g1,c1,n1,d1⟩,T1,i1⟩:=T.at_ hi
   obtain⟨p2,a2,its2,tz2,e2,⟨o2,g2,c2,n2,d2⟩,T2,i2⟩:=T.at_ hj;unfold kas_ask;rw[e1,e2];have hp:=aGm l;refine kat_lt (by rw[hp];exact g1) d1 (by rw[hp];exact g2) d2 ?_
   have qq:C (px (ks.getD i ([],0)) (ks.getD j ([],0))) s1:=q s1 l;generalize ks.getD i ([],0)=x at *
   generalize ks.getD j ([],0)=y at *
   have T1':IsTup s1.heap a1 its1:=by rw[hp];exact T1
   have T2':IsTup s1.heap a2 its2:=by rw[hp];exact T2
   show KatLex prog w A _ _ C [(.ref a1,.ref a2),(.int x.2 tz1,.int y.2 tz2)] 0 s1
   refine kat_cons (wpAny_eqBool_tuple hu (aD4 T1' i1) (aD4 T2' i2) ?_)
   unfold px at qq;by_cases z:x.1=y.1
   · rw[if_pos z]at qq
     rw[decide_eq_true z];refine kat_yes (kat_cons (wpAny_eqBool_int ?_))
     by_cases u:x.2=y.2
     · rw[show (x.2==y.2)=true by simpa using u]
       rw[decide_eq_false (by omega)]at qq
       exact kat_yes (kat_nil (by simpa using qq))
     · rw[show (x.2==y.2)=false by simpa using u]
       exact kat_no (kat_one _ _ (Im qq))
   · rw[if_neg z]at qq
     rw[decide_eq_false z];exact kat_no (kat_one _ _ (HT.aC8 T1' T2' i1 i2 hu qq))
theorem aFq (o:Ord lt){x:Value}{vs:List Value}{Q:Value->Shared->Prop}(few:vs.length<64)
 (col:wpAny (model prog w) A.in1 (collect x) (fun us s1=>us=vs/\∃ h1 tk,s1={ s with heap:=h1,toks:=tk }/\∀ b y,s.heap.get? b=some y->h1.get? b=some y) E s)
 (ask:2<=vs.length->∀ t:Shared,(∀ b y,s.heap.get? b=some y->t.heap.get? b=some y)->wpAny (model prog w) A.in1.in1 (keyKind' vs.toArray) (fun κ t'=>mP t t'/\oB prog w A.in1.in1 lt vs κ t) (fun _ _=>False) t)
 (fin:∀ (p:Array Nat) (h':Heap) (tk c:Nat) (D:Addr),Inv vs.length p->Up lt p vs.length->(∀ b y,s.heap.get? b=some y->h'.get? b=some y)->s.heap.get? D=none->h'.get? D=some (seqObj "list" (Gy (p.toList.map fun i=>vs.getD i Value.none)) c)->Q (.ref D) { s with heap:=h',toks:=tk }) :
 wpAny (model prog w) A (call (.builtin "sorted") [x]) Q E s:=by
 refine Calls.call_function_entry kind_sorted plain_sorted entry_sorted (args_sorted1 _) (show wpAny (model prog w) A.in1 (Builtin.«sorted» ⟨[x],[]⟩) _ _ s from ?_)
 unfold Builtin.«sorted»;refine wpAny_bind (m:=checkCount "sorted" 1 1 _) (wpAny_pure (wpAny_bind (wpAny_mono col (fun us s1 ⟨e,h1,tk1,e1,k1⟩=>?_) fun _ _ z=>z)))
 subst e e1;refine wpAny_bind (wpAny_newList ?_ (by rw[sizeLine_eq]<;>omega))
 have at1:(h1.push (seqObj "list" us.toArray 0)).get? h1.objs.size=some (seqObj "list" us.toArray 0):=Bb _ rfl;have k2:∀ b y,s.heap.get? b=some y->(h1.push (seqObj "list" us.toArray 0)).get? b=some y:=fun b y q=>Ag _ (k1 b y q);have nD:∀ b y,s.heap.get? b=some y->b≠h1.objs.size:=fun b y q z=>absurd (Ap (k1 b y q)) (by rw[z];exact Ef _)
 have gone:s.heap.get? h1.objs.size=none:=by
  cases q:s.heap.get? h1.objs.size with
  | none=>rfl
  | some y=>exact absurd rfl (nD _ y q)
 refine wpAny_bind (wpAny_holding (wpAny_call_entry slot_list_sort ⟨_,at1,rfl⟩ entry_list_sort (aGo (s:={ s with heap:=h1.push (seqObj "list" us.toArray 0),toks:=tk1 }) o at1 few (fun tw t kt=>ask tw t fun b y q=>kt b y (nD b y q) (k2 b y q)) fun p h' tk c ip u kh hD=>⟨_,rfl,?_⟩) (args_list_sort _)))
 exact wpAny_pure ⟨_,rfl,fin p h' tk c h1.objs.size ip u (fun b y q=>kh b y (nD b y q) (k2 b y q)) gone hD⟩
end
end Srt
namespace L2
open PySem PySem.Spec PyProof.Rows
def zL (sc:Scope)(XN:List Str)(scope:Scope)(N:List Str)(k:Nat)(fs:List Nat):Bool :=
 scope.kind==.function&&decide (scope.names.map (·.1)).Nodup&&scope.names.all (fun y=>y.2 != .free||sc.names.contains (y.1,.cell)||sc.names.contains (y.1,.free))&&N.length==k+fs.length &&
  fs.zipIdx.all fun p=>match N[k+p.2]?,XN[p.1]? with
   | some x,some y=>decide (x=y)&&scope.names.lookup x==some .free&&(sc.names.lookup x==some .cell||sc.names.lookup x==some .free)
   | _,_=>false
theorem xX {scope:Scope}{env:Env}{x:Str}:scope.names.lookup x=some .cell->(relabel scope env).names.lookup x=some .cell:=by
 unfold relabel;generalize scope.names=names
 induction names with
 | nil=>simp
 | cons y r ih =>
  obtain⟨n,kd⟩:=y;simp only[Ai];intro h;cases hx:x==n with
  | true =>
   simp only[hx,Bu]at h;cases h;simp[Bu,hx]
  | false =>
   simp only[hx,Bu]at h;have:=ih h
   split<;>simp only[Bu,hx]<;>exact this
theorem wI {X:Cx}{sc scope:Scope}{k0 k:Nat}{N0 N:List Str}{fs0 fs:List Nat}{fp:List Addr}{s:Shared}{H:Hp}(C0:CompOk X sc N0 k0 fs0)(h:zL sc N0 scope N k fs=true):CompOk (cF X sc N0 fp s H) scope N k fs:=by
 unfold zL at h;simp only[Ct]at h;obtain⟨⟨⟨⟨h1,h2⟩,h3⟩,h4⟩,h5⟩:=h;refine⟨by simpa using h1,of_decide_eq_true h2,fun y hy hf=>?_,by simpa using h4,fun j i e=>?_⟩
 · show y.1∈(cellsFrom (s.heap.objs.size+1) sc.names (iF X.env.cells sc.names [])).map (·.1)
   rw[bY,Ca,Av];have:=Fn.mp h3 y hy
   rw[hf]at this;simp only[bne_self_eq_false,Bool.false_or,Bool.or_eq_true,List.contains_iff_mem]at this;rcases this with q | q
   · exact .inl (iC _ _ _ (Ah.mpr ⟨_,Ck.mpr ⟨q,rfl⟩,rfl⟩))
   · obtain⟨c,e⟩:=bN (C0.free _ q rfl)
     exact .inr (Ah.mpr ⟨_,nY sc.names [] (.inr ⟨q,e⟩),rfl⟩)
 · have hm:(i,j)∈fs.zipIdx:=Gr.mpr e
   have:=Fn.mp h5 (i,j) hm
   dsimp only at this
   split at this
   · rename_i x y e1 e2
     simp only[Df,Bool.or_eq_true,beq_iff_eq,decide_eq_true_eq]at this;obtain⟨⟨q1,q2⟩,q3⟩:=this;subst q1;refine⟨x,e1,e2,q2,?_⟩
     exact q3.elim (fun q=>.inl (xX q)) oO
   · cases this
end L2
namespace Mir
open PySem L2
variable {X:Cx}{P:XP}{a b c e:Expr}{es:List Expr}{f g:FE}{fs:FEs}{pos p:Pos}
def asT:D->R (List D)
 | .tup ds=>.ok ds
 | _=>.stk
theorem aI.str {H0 H H':Hp}{K:PySem.W.Frag}{B:Addr->Prop}{v:V}{r:Res}{i:Str}(g:aI K H0 H H' B v r)(e:r.d=.str i):v=.str i:=by
 have:=g.shr_of (by rw[e];rfl)
 rw[e]at this;exact this
end Mir
namespace Mir
open PySem L2
variable {X:Cx}{P:XP}{a b c e:Expr}{es:List Expr}{f g:FE}{fs:FEs}{pos p:Pos}
theorem aR8 {x:Str}{i:Int}(hg:Gl X x)(hm:∃ t,X.mg x=some (.int i t))(hd:(x==("__debug__":Str))=false:=by decide):PE X (.Name x pos) (tE X.K P (cE (.int i))) :=
 let ⟨t,hm⟩:=hm
 m_c (aLk (v:=.int i) hg hm ⟨t,rfl⟩ hd) fun _=>rfl
def nG (a:FE):FT:=fun ρ=>do
 let x ← a ρ
 let ds ← asS x.d
 .ok (!ds.isEmpty)
theorem aE.empty {K:PySem.W.Frag}{G:Hp}{ds:List D}{vs:List V}(r:aE K G ds vs):vs.isEmpty=ds.isEmpty:=by
 have:=r.length
 cases ds<;>cases vs<;>simp at this ⊢
theorem aDd {e:Expr}(h:PE X e (tE X.K P f))(he:∀ whole,isTrue e X.env whole=(do let v ← whole;standAt e.pos;holding [v] (truthy v)):=by intro _;rfl):PT X e (tT X.K P (nG f)):=by
 refine PT.imp (aIw h he) ?_
 rintro σ H Q ⟨H0,B,ρ,d,h⟩
 unfold nG at h;cases e1:f ρ with
 | stk=>simp[e1]at h
 | exc x=>simp[e1]at h;exact dA d e1 h
 | ok r =>
  cases e2:asS r.d with
  | stk=>simp[e1,e2]at h
  | exc x=>exact(lV e2).elim
  | ok ds =>
   simp only[e1,e2,R.ok_bind]at h;refine eV d e1 fun v H' s d' g'=>?_
   obtain⟨a,xs,h1,h2,h3⟩:=g'.seq e2;refine⟨!ds.isEmpty,?_,h H' s⟩
   rw[h1];rcases h2 with h2 | h2
   · exact .inl ⟨xs,.inl h2,by rw[h3.empty]⟩
   · exact .inr (.inl ⟨xs,SqT.of h2,by rw[h3.empty]⟩)
end Mir
namespace Mir
open PySem L2
variable {X:Cx}{P:XP}{a b c e:Expr}{es:List Expr}{f g:FE}{fs:FEs}{pos p:Pos}
variable {st:Stmt}{rest:List Stmt}{F G:FS}
mutual
theorem Rep.stb {K:PySem.W.Frag}{G G':Hp}(s:∀ b o,G b=some o->stab o=true->G' b=some o):∀ {d:D} {v:V},d.imm=true->Rep K G d v->Rep K G' d v
 | .non,_,_,h=>h
 | .bl _,_,_,h=>h
 | .int _,_,_,h=>h
 | .str _,_,_,h=>h
 | .lst _,_,i,_=>by cases i
 | .tup ds,_,i,⟨a,xs,h1,h2,h3⟩=>⟨a,xs,h1,s _ _ h2 rfl,aE.stb s (by simpa[D.imm] using i) h3⟩
 | .obj _ _,_,i,_=>by cases i
 | .any,_,i,_=>by cases i
 | .dct _ _,_,i,_=>by cases i
 | .exc _ _,_,_,h=>aCg.map h fun _ _ q=>s _ _ q rfl
theorem aE.stb {K:PySem.W.Frag}{G G':Hp}(s:∀ b o,G b=some o->stab o=true->G' b=some o):∀ {ds:List D} {vs:List V},D.imms ds=true->aE K G ds vs->aE K G' ds vs
 | [],_,_,h=>h
 | d :: r,_,i,⟨x,xr,h1,h2,h3⟩=>by
  have i':d.imm=true/\D.imms r=true:=by simpa[D.imms] using i
  exact⟨x,xr,h1,Rep.stb s i'.1 h2,aE.stb s i'.2 h3⟩
end
end Mir
namespace Mir
open PySem L2
variable {X:Cx}{P:XP}{a b c e:Expr}{es:List Expr}{f g:FE}{fs:FEs}{pos p:Pos}
def aIt (H0 H H1:Hp):Prop:=∀ b,H1 b=H b\/∃ o xs,H b=some (.frz o (.lst xs))/\H1 b=some (.lst xs)/\H0 b=none
theorem aIt.ne {H0 H H1:Hp}(t:aIt H0 H H1){b:Addr}{u:HO}(h:H b=some u)(n:∀ o xs,u≠.frz o (.lst xs)):H1 b=some u:=by
 rcases t b with e | ⟨o,ys,e1,e2,_⟩
 · exact e.trans h
 · rw[e1]at h;cases h;exact absurd rfl (n _ _)
theorem aIt.cut {H0 H H1:Hp}(t:aIt H0 H H1)(B:Addr->Prop):aIt H0 (Mir.cut H B) (Mir.cut H1 B):=fun b=>by
 unfold Mir.cut;by_cases hb:B b
 · left;simp[hb]
 · simpa[hb] using t b
end Mir
namespace L2
open PySem PySem.Spec PyProof.Rows
section
variable {κ:Type}[DecidableEq κ]
def qO (kvs:List (κ×V))(k:κ):Option V:=(kvs.find? fun kv=>decide (kv.1=k)).map (·.2)
def nU (kvs:List (κ×V))(k:κ)(v:V):List (κ×V) :=
 if (kvs.any fun kv=>decide (kv.1=k))=true then kvs.map (fun kv=>if kv.1=k then (kv.1,v) else kv) else kvs++[(k,v)]
def aOc (kvs:List (κ×V))(k:κ):List (κ×V):=kvs.filter fun kv=>decide (kv.1≠k)
theorem nW {p:κ×V}{r:List (κ×V)}{k:κ}(e:p.1=k):qO (p :: r) k=some p.2:=by simp[qO,Fb,e]
theorem nT {p:κ×V}{r:List (κ×V)}{k:κ}(e:¬ p.1=k):qO (p :: r) k=qO r k:=by simp[qO,Fb,e]
theorem aAq (k:κ):∀ kvs:List (κ×V),(kvs.any fun kv=>decide (kv.1=k))=(qO kvs k).isSome
 | []=>rfl
 | p :: r=>by
  rw[List.any_cons];by_cases e:p.1=k
  · simp only[nW e,decide_eq_true e,Bool.true_or,Option.isSome_some]
  · rw[nT e,decide_eq_false e,Bool.false_or];exact aAq k r
theorem qC (kvs:List (κ×V))(k:κ)(v:V):(nU kvs k v).length<=kvs.length+1:=by
 unfold nU;split
 · rw[Ad];omega
 · rw[Ak,Al,Dr];omega
theorem mO.isSome_eq {o:Option V}{u:Option Value}(r:mO o u):o.isSome=u.isSome:=by
 cases o with
 | none=>cases u with
  | none=>rfl
  | some _=>exact(show False from r).elim
 | some _=>cases u with
  | none=>exact(show False from r).elim
  | some _=>rfl
theorem mO.getD {o:Option V}{u:Option Value}{d:V}{d':Value}(r:mO o u)(rd:bF d d'):bF (o.getD d) (u.getD d'):=by
 cases o with
 | none=>cases u with
  | none=>exact rd
  | some _=>exact(show False from r).elim
 | some _=>cases u with
  | none=>exact(show False from r).elim
  | some _=>exact r
theorem KV.val {kvs:List (κ×V)}{vs:List (κ×Value)}(r:KV kvs vs)(k:κ):mO (qO kvs k) (valueAt vs k):=by
 unfold KV at r;induction r with
 | nil=>exact True.intro
 | @cons p q ps qs h t ih =>
  obtain⟨h1,h2⟩:=h;by_cases e:p.1=k
  · have e':q.1=k:=h1.symm.trans e
    have b:valueAt (q :: qs) k=some q.2:=by simp[valueAt,Fb,e']
    rw[nW e,b];exact h2
  · have e':¬ q.1=k:=fun z=>e (h1.trans z)
    have b:valueAt (q :: qs) k=valueAt qs k:=by simp[valueAt,Fb,e']
    rw[nT e,b];exact ih
theorem KV.any {kvs:List (κ×V)}{vs:List (κ×Value)}(r:KV kvs vs)(k:κ):(kvs.any fun kv=>decide (kv.1=k))=vs.any fun kv=>decide (kv.1=k):=by
 unfold KV at r;induction r with
 | nil=>rfl
 | cons h t ih=>rw[List.any_cons,List.any_cons,ih,h.1]
theorem KV.repl {kvs:List (κ×V)}{vs:List (κ×Value)}(r:KV kvs vs)(k:κ){y:V}{u:Value}(ry:bF y u) :
 KV (kvs.map fun kv=>if kv.1=k then (kv.1,y) else kv) (vs.map fun kv=>if kv.1=k then (kv.1,u) else kv):=by
 unfold KV at r ⊢;induction r with
 | nil=>exact .nil
 | @cons p q ps qs h t ih =>
  rw[Ai,Ai];refine .cons ?_ ih
  obtain⟨h1,h2⟩:=h;by_cases e:p.1=k
  · rw[if_pos e,if_pos (h1.symm.trans e)];exact⟨h1,ry⟩
  · rw[if_neg e,if_neg (fun z=>e (h1.trans z))];exact⟨h1,h2⟩
theorem KV.put {kvs:List (κ×V)}{vs:List (κ×Value)}(r:KV kvs vs)(k:κ){y:V}{u:Value}(ry:bF y u):KV (nU kvs k y) (stored vs k u):=by
 unfold nU stored;rw[r.any k];by_cases e:(vs.any fun kv=>decide (kv.1=k))=true
 · rw[if_pos e,if_pos e];exact r.repl k ry
 · rw[if_neg e,if_neg e];exact Paired.snoc r ⟨rfl,ry⟩
theorem KV.drop {kvs:List (κ×V)}{vs:List (κ×Value)}(r:KV kvs vs)(k:κ):KV (aOc kvs k) (without vs k):=by
 unfold KV at r ⊢;unfold aOc without;induction r with
 | nil=>exact .nil
 | @cons p q ps qs h t ih =>
  obtain⟨h1,h2⟩:=h;rw[Eh,Eh];by_cases e:p.1=k
  · have a:¬ decide (p.1≠k)=true:=by simp[e]
    have b:¬ decide (q.1≠k)=true:=by simp[h1.symm.trans e]
    rw[if_neg a,if_neg b];exact ih
  · have e':¬ q.1=k:=fun z=>e (h1.trans z)
    have a:decide (p.1≠k)=true:=by simp[e]
    have b:decide (q.1≠k)=true:=by simp[e']
    rw[if_pos a,if_pos b];exact .cons ⟨h1,h2⟩ ih
theorem KV.length {kvs:List (κ×V)}{vs:List (κ×Value)}(r:KV kvs vs):kvs.length=vs.length:=Paired.length r
end
theorem aDf {P:Program}{w:World}{k:Key}{u:Value}(r:bF (kV k) u):(cQ P w).is k u=true:=by
 cases k with
 | inl i=>obtain⟨t,e⟩:=(show ∃ t,u=Value.int i t from r);subst e;exact aAv P w i t
 | inr x=>obtain⟨t,e⟩:=(show ∃ t,u=Value.str x t from r);subst e;exact aA4 P w x t
theorem vG {P:Program}{w:World}:∀ {ks:List Key} {us:List Value},bA (ks.map kV) us->ItemsAre (cQ P w) ks us
 | [],_,r=>by rw[Ic]at r;cases r;exact .nil
 | k :: ks,_,r=>by
  rw[Ai]at r;cases r with
  | cons h t=>exact .cons (aDf h) (vG t)
abbrev KT (H:Hp):List (List Key×V)->List (List Key×Addr×Value)->Prop:=Paired fun p q=>p.1=q.1/\H q.2.1=some (.tup (p.1.map kV))/\bF p.2 q.2.2
theorem KT.val {H:Hp}{kvs:List (List Key×V)}{xs:List (List Key×Addr×Value)}(r:KT H kvs xs)(k:List Key):mO (qO kvs k) ((atKey xs k).map (·.2)):=by
 induction r with
 | nil=>exact True.intro
 | @cons p q ps qs h t ih =>
  obtain⟨h1,_,h2⟩:=h;by_cases e:p.1=k
  · have e':q.1=k:=h1.symm.trans e
    have b:atKey (q :: qs) k=some q.2:=by simp[atKey,Fb,e']
    rw[nW e,b];exact h2
  · have e':¬ q.1=k:=fun z=>e (h1.trans z)
    have b:atKey (q :: qs) k=atKey qs k:=by simp[atKey,Fb,e']
    rw[nT e,b];exact ih
theorem KT.repl {H:Hp}{kvs:List (List Key×V)}{xs:List (List Key×Addr×Value)}(r:KT H kvs xs)(k:List Key){y:V}{u:Value}(ry:bF y u) :
 KT H (kvs.map fun kv=>if kv.1=k then (kv.1,y) else kv) (xs.map (putAt k u)):=by
 induction r with
 | nil=>exact .nil
 | @cons p q ps qs h t ih =>
  rw[Ai,Ai];refine .cons ?_ ih
  obtain⟨h1,h2,h3⟩:=h;unfold putAt;by_cases e:p.1=k
  · rw[if_pos e,if_pos (h1.symm.trans e)];exact⟨h1,h2,ry⟩
  · rw[if_neg e,if_neg (fun z=>e (h1.trans z))];exact⟨h1,h2,h3⟩
theorem KT.put {H:Hp}{kvs:List (List Key×V)}{xs:List (List Key×Addr×Value)}(r:KT H kvs xs)(k:List Key){b:Addr}{y:V}{u:Value}(hb:H b=some (.tup (k.map kV)))(ry:bF y u) :
 KT H (nU kvs k y) (storedH xs k b u):=by
 have e:(kvs.any fun kv=>decide (kv.1=k))=(atKey xs k).isSome:=by
  rw[aAq,(r.val k).isSome_eq,Option.isSome_map]
 unfold nU storedH;rw[e];by_cases q:(atKey xs k).isSome=true
 · rw[if_pos q,if_pos q];exact r.repl k ry
 · rw[if_neg q,if_neg q];exact Paired.snoc r ⟨rfl,hb,ry⟩
theorem KT.keeps {H H':Hp}{kvs:List (List Key×V)}{xs:List (List Key×Addr×Value)}(r:KT H kvs xs)(ht:∀ b ys,H b=some (.tup ys)->H' b=some (.tup ys)):KT H' kvs xs :=
 Paired.mapP r fun _ _ z=>⟨z.1,ht _ _ z.2.1,z.2.2⟩
section
variable {P:Program}{w:World}{H:Hp}{h:Heap}{a:Addr}
theorem aJ3 {u:HO}(ok:HOk P w H h)(e:Rd H a u):bP P w H h a u:=e.ok ok
theorem zO {kvs:List (Key×V)}(ok:HOk P w H h)(e:Rd H a (.dK kvs)):kvs.length<=sizeLine/\(a==sysModules)=false/\∃ vs,KV kvs vs/\h.DictOf (cQ P w) a vs :=
 show bP P w H h a (.dK kvs) from aJ3 ok e
theorem aT6 {kvs:List (Key×V)}(ok:HOk P w H h)(e:H a=some (.dK kvs)):kvs.length<=sizeLine/\(a==sysModules)=false/\∃ vs,KV kvs vs/\h.DictOf (cQ P w) a vs:=zO ok (.inl e)
theorem wZ {ks:List Key}(ok:HOk P w H h)(e:H a=some (.tup (ks.map kV))):(tupleKind (cQ P w)).is h ks a:=by
 obtain⟨_,its,r,o,h1,h2,n,h3⟩:=(show bP P w H h a (.tup (ks.map kV)) from ok a _ e)
 exact⟨o,its.toArray,n,h1,h2,h3,by simpa using vG r⟩
theorem aA9 {kvs:List (List Key×V)}(ok:HOk P w H h)(e:Rd H a (.dT kvs)):kvs.length<=sizeLine/\(a==sysModules)=false /\
 ∃ xs,KT H kvs xs/\h.DictOfH (tupleKind (cQ P w)) a xs:=by
 obtain⟨z,y,xs,r,o,es,ep,h1,h2,h3,h4,h5⟩:=(show bP P w H h a (.dT kvs) from aJ3 ok e)
 refine⟨z,y,xs,r,o,es,ep,h1,h2,h3,h4,fun x hx=>?_,h5⟩
 have all:∀ {l:List (List Key×V)} {m:List (List Key×Addr×Value)},KT H l m->∀ x∈m,(tupleKind (cQ P w)).is h x.1 x.2.1:=by
  intro l m q;induction q with
  | nil=>intro x hx;exact nomatch hx
  | @cons p q ps qs hq t ih =>
   intro x hx;rcases Aj.mp hx with e | hx
   · subst e
     exact wZ ok (by rw[←hq.1];exact hq.2.1)
   · exact ih x hx
 exact all r x hx
theorem aUg {kvs:List (List Key×V)}(ok:HOk P w H h)(e:H a=some (.dT kvs)):kvs.length<=sizeLine/\(a==sysModules)=false /\
 ∃ xs,KT H kvs xs/\h.DictOfH (tupleKind (cQ P w)) a xs:=aA9 ok (.inl e)
end
def aFi (H:Hp)(a:Addr)(y:V)(r:Option V):Prop :=
 (∃ kvs k,Rd H a (.dK kvs)/\y=kV k/\r=qO kvs k)\/∃ kvs k b,Rd H a (.dT kvs)/\y=.ref b/\H b=some (.tup (k.map kV))/\r=qO kvs k
def aSx (H:Hp)(a:Addr)(y v:V)(H':Hp):Prop :=
 (∃ kvs k,H a=some (.dK kvs)/\y=kV k/\kvs.length<sizeLine/\H'=upd H a (.dK (nU kvs k v))) \/
 ∃ kvs k b,H a=some (.dT kvs)/\y=.ref b/\H b=some (.tup (k.map kV))/\kvs.length<sizeLine/\H'=upd H a (.dT (nU kvs k v))
section
variable {X:Cx}{pins:List (Addr×Obj)}{σ:St}{H:Hp}{s:Shared}{a:Addr}{y v:V}{u r:Value}{o:Option V}{A:Around}{E:Value->Shared->Prop}
theorem Inv.big (I:Inv X pins σ H s):sysModules<s.heap.objs.size:=by
 have h:mainGlobals<s.heap.objs.size:=(I.mod.glob.keeps I.bk).lt;exact Nat.lt_trans (by decide) h
theorem aGp {Q:Value->Shared->Prop}(hu:A.units+1<cLine)(I:Inv X pins σ H s)(g:aFi H a y (some v))(ry:bF y u)(h:∀ w' s',Inv X pins σ H s'->bF v w'->Q w' s') :
 wpAny (model X.prog X.w) A (getItem (.ref a) u) Q E s:=by
 rcases g with ⟨kvs,k,e,ey,l⟩ | ⟨kvs,k,b,e,ey,eb,l⟩
 · subst ey
   obtain⟨z,hd,vs,rel,dd⟩:=zO I.hok e;obtain⟨w',hw,rw'⟩:=mO.some_of (v:=v) (o:=valueAt vs k) (by rw[l];exact rel.val k)
   exact wpAny_getItem_of (aDf ry) dd.mapOf hw (h w' _ (I.tok _) rw')
 · subst ey
   cases (show u=Value.ref b from ry)
   obtain⟨z,hd,xs,rel,dd⟩:=aA9 I.hok e;obtain⟨w',hw,rw'⟩:=mO.some_of (v:=v) (o:=(atKey xs k).map (·.2)) (by rw[l];exact rel.val k)
   obtain⟨p,hp,hp2⟩:=Gb.mp hw;refine wpAny_getItem_heap (tupleKind_room_in1 hu) (wZ I.hok eb) dd hp ?_
   rw[hp2];exact h w' _ (I.tok _) rw'
theorem aEo {h':Heap}{t':Nat}{ob:HO}(I:Inv X pins σ H s)(mu:Mut (H a))(hs:Heap.SameBut a s.heap h')(he:∃ q,h'.get? a=some q)(new:bP X.prog X.w (upd H a ob) h' a ob) :
 Inv X pins σ (upd H a ob) { s with heap:=h',toks:=t' } :=
 I.write (x:=a) (e:=a) mu (.inl rfl) (fun b q hb z=>(hs.2 b hb).trans z) he new
theorem aSj {P:Program}{w:World}{H':Hp}{h':Heap}{kvs:List (Key×V)}{vs:List (Key×Value)}(z:kvs.length<=sizeLine)(hd:(a==sysModules)=false)(rel:KV kvs vs)(dd:h'.DictOf (cQ P w) a vs) :
 bP P w H' h' a (.dK kvs):=⟨z,hd,vs,rel,dd⟩
theorem aGx {H':Hp}{Q:Unit->Shared->Prop}(hu:A.units+1<cLine)(I:Inv X pins σ H s)(g:aSx H a y v H')(ry:bF y u)(rv:bF v r)(h:∀ s',Inv X pins σ H' s'->Q () s') :
 wpAny (model X.prog X.w) A (setItem (.ref a) u r) Q E s:=by
 rcases g with ⟨kvs,k,e,ey,l,eH⟩ | ⟨kvs,k,b,e,ey,eb,l,eH⟩
 · subst ey eH
   obtain⟨z,hd,vs,rel,dd⟩:=aT6 I.hok e;have hz:vs.length<=sizeLine:=by rw[←rel.length];exact z
   have hl:(nU kvs k v).length<=sizeLine:=by have:=qC kvs k v;omega
   refine wpAny_setItem_pairs (hsz:=hz) (aDf ry) dd fun h' dd' hs=>h _ ?_
   have he:∃ q,h'.get? a=some q:=let ⟨q,_,_,hq,_⟩:=dd';⟨q,hq⟩
   exact aEo I (by rw[e];exact True.intro) hs he (aSj hl hd (rel.put k rv) dd')
 · subst ey eH
   cases (show u=Value.ref b from ry)
   obtain⟨z,hd,xs,rel,dd⟩:=aUg I.hok e;have hz:xs.length<=sizeLine:=by rw[←Paired.length rel];exact z
   have hl:(nU kvs k v).length<=sizeLine:=by have:=qC kvs k v;omega
   refine wpAny_setItem_heap (hsz:=hz) (tupleKind_room_in1 hu) (wZ I.hok eb) dd fun h' dd' hs=>h _ ?_
   obtain⟨q,es,ep,hq,h2,h3,h4,_,h5⟩:=dd';refine aEo I (by rw[e];exact True.intro) hs ⟨q,hq⟩ ⟨hl,hd,_,(rel.put k eb rv).keeps fun c ys ec=>?_,q,es,ep,hq,h2,h3,h4,h5⟩
   rw[aH (aTt ec e (fun z=>nomatch z))];exact ec
end
def aP7 (i:Expr):Prop:=∀ ov iv,subscripted i false ov iv=operate [ov,iv] (getItem ov iv)
theorem aKu {prog:Program}{w:World}{A:Around}{E:Value->Shared->Prop}{s:Shared}{env:Env}{value slice:Expr}{pos:Pos}{T id:String}{Q:Value->Shared->Prop}
 (hl:typeLookup (.type T) "__getitem__" = pure (some (.builtin id))) (hs:aP7 slice)
 (h:wpAny (model prog w) A (eval value env) (fun o s₁=>wpAny (model prog w) A (eval slice env) (fun i s₂=>s₂.TypeIs o T/\wpAny (model prog w) A (getItem o i) Q E s₂) E s₁) E s) :
 wpAny (model prog w) A (eval (.Subscript value slice pos) env) Q E s:=by
 refine Subscript_ (wpAny_mono h (fun o s₁ h₁=>wpAny_mono h₁ (fun i s₂ h₂=>?_) fun _ _ x=>x) fun _ _ x=>x)
 obtain⟨hT,h₂⟩:=h₂;unfold subscriptTail;refine wpAny_bind ?_
 rw[getitemInPython_of_ne hT.not_modules];refine wpAny_bind (wpAny_specialOf hT hl ?_)
 have fin:wpAny (model prog w) A (subscripted slice false o i) (fun r s₃=>wpAny (model prog w) A (letTemporaryGo value o r >>= fun _=>pure r) Q E s₃) E s₂:=by
  rw[hs o i];exact wpAny_operating (wpAny_mono h₂ (fun r s₃ h₃=>wpAny_bind (wpAny_letTemporaryGo (wpAny_pure h₃))) fun _ _ x=>x)
 first
  | exact wpAny_pure (wpAny_bind fin)
  | exact wpAny_bind (wpAny_pure (wpAny_bind fin))
  | exact wpAny_bind fin
theorem aBm {X:Cx}{pins:List (Addr×Obj)}{σ:St}{H:Hp}{s:Shared}{a:Addr}{y:V}{o:Option V}(I:Inv X pins σ H s)(g:aFi H a y o):s.TypeIs (.ref a) "dict":=by
 rcases g with ⟨kvs,k,e,_,_⟩ | ⟨kvs,k,b,e,_,_,_⟩
 · obtain⟨_,_,vs,_,dd⟩:=zO I.hok e
   exact dd.typeIs
 · obtain⟨_,_,xs,_,dd⟩:=aA9 I.hok e
   exact dd.typeIs
def aTc (td ty:TE):TE:=fun σ H Q=>td σ H fun x H1=>ty σ H1 fun y H2=>∃ a v,x=.ref a/\aFi H2 a y (some v)/\Q v H2
def aSz (td ty tv:TE):TS:=fun D σ H=>tv σ H fun v H1=>td σ H1 fun x H2=>ty σ H2 fun y H3=>∃ a H4,x=.ref a/\aSx H3 a y v H4/\D.nx σ H4
section
variable {X:Cx}{o i e value:Expr}{pos pos' tpos:Pos}{td ty tv:TE}
theorem aK7 (hu:X.A.units+1<cLine)(ho:PE X o td)(hi:PE X i ty)(hs:aP7 i):PE X (.Subscript o i pos) (aTc td ty):=by
 intro pins s σ H Q I h;refine aKu PySem.F.slot_dict_getitem.lookup hs (thn (ho pins s σ H _ I h) fun u s1 ⟨x,H1,I1,rx,q1⟩=>thn (hi pins s1 σ H1 _ I1 q1) fun iv s2 ⟨y,H2,I2,ry,a,v,ex,g,q2⟩=>?_)
 subst ex;obtain rfl:u=Value.ref a:=rx;exact⟨aBm I2 g,aGp hu I2 g ry fun w' s3 I3 rw'=>⟨v,H2,I3,rw',q2⟩⟩
theorem aMc (hu:X.A.units+1<cLine)(ho:PE X o td)(hi:PE X i ty)(hv:PE X value tv)(hs:swapsWith value (some (.Subscript o i pos')) pos.line X.env=pure false) :
 PS X (.Assign [.Subscript o i pos'] value pos) (aSz td ty tv):=by
 intro pins s σ H D I h;refine wpAny_Assign_Subscript (thn (hv pins s σ H _ I h) fun r s1 ⟨v,H1,I1,rv,q1⟩=>thn (ho pins s1 σ H1 _ I1 q1) fun u s2 ⟨x,H2,I2,rx,q2⟩=>thn (hi pins s2 σ H2 _ I2 q2) fun iv s3 ⟨y,H3,I3,ry,a,H4,ex,g,q3⟩=>?_) hs
 subst ex;obtain rfl:u=Value.ref a:=rx;exact aGx hu I3 g ry rv fun s4 I4=>⟨σ,H4,I4,q3⟩
end
theorem aJ1 {P:Program}{w:World}{H:Hp}(h:Heap)(hb:sysModules<h.objs.size):bP P w H (h.push { cls:=.type "dict",data:=.dict #[] }) h.objs.size (.dT []) :=
 ⟨Cc _,beq_eq_false_iff_ne.mpr (Ne.symm (Bq hb)),[],.nil,_,#[],0,Bb _ rfl,⟨rfl,rfl,rfl⟩,rfl,rfl,Dh⟩
def aP0:TE:=fun _ H Q=>∀ p,H p=none->Q (.ref p) (upd H p (.dT []))
section
variable {X:Cx}{pos:Pos}
theorem aKb:PE X (.Dict [] [] pos) aP0:=fun pins s σ H Q I h =>
 wpAny_Dict_empty ⟨.ref s.heap.objs.size,_,I.laid (a:=s.heap.objs.size) (o:=.dT []) (t':=s.toks) (fun _ _ q=>Ag _ q) (Am _) (aJ1 s.heap I.big),rfl,h _ (I.hok.fresh (Am _))⟩
end
structure M2 (X:Cx)(o:Expr)(m:Str)(apos:Pos)(e f:Expr)(cpos:Pos):Prop where
 base:attributeBase o m X.env (eval o X.env)=eval o X.env
 few:((backTo cpos (starEach [e,f] X.env)).all (fun x=>!x.1)&&(backToKw cpos (keywordEach [] X.env)).all (fun x=>x.1.isSome)
  && decide (([e,f]:List Expr).length+([]:List Keyword).length+(if ([]:List Keyword).isEmpty then 0 else 1)<30))=true
 line:(apos.endLine==cpos.line)=true
 trees:backTo cpos (starEach [e,f] X.env)=[(false,eval e X.env),(false,eval f X.env)]
def IsD (H:Hp)(a:Addr):Prop:=(∃ kvs,Rd H a (.dK kvs))\/∃ kvs,Rd H a (.dT kvs)
theorem aQs {X:Cx}{pins:List (Addr×Obj)}{σ:St}{H:Hp}{s:Shared}{a:Addr}(I:Inv X pins σ H s)(d:IsD H a) :
 s.TypeIs (.ref a) "dict"/\(∀ b,Value.ref a=.ref b->∃ ob,s.heap.get? b=some ob/\ob.dict=none)/\(a==sysModules)=false:=by
 rcases d with ⟨kvs,e⟩ | ⟨kvs,e⟩
 · obtain⟨_,hd,vs,_,dd⟩:=zO I.hok e
   refine⟨dd.typeIs,fun b q=>?_,hd⟩
   cases q;obtain⟨ob,_,_,h1,h2,_⟩:=dd;exact⟨ob,h1,h2.2.1⟩
 · obtain⟨_,hd,xs,_,dd⟩:=aA9 I.hok e
   refine⟨dd.typeIs,fun b q=>?_,hd⟩
   cases q;obtain⟨ob,_,_,h1,h2,_⟩:=dd;exact⟨ob,h1,h2.2.1⟩
section
variable {X:Cx}{pins:List (Addr×Obj)}{σ:St}{H:Hp}{s:Shared}{a:Addr}{y d:V}{u r:Value}{o:Option V}{A:Around}{E:Value->Shared->Prop}
theorem aRt {Q:Value->Shared->Prop}(hu:A.units+1<cLine)(I:Inv X pins σ H s)(g:aFi H a y o)(ry:bF y u)(rd:bF d r)(h:∀ w' s',Inv X pins σ H s'->bF (o.getD d) w'->Q w' s') :
 wpAny (model X.prog X.w) A (call (.builtin "dict.get") [.ref a,u,r]) Q E s:=by
 rcases g with ⟨kvs,k,e,ey,l⟩ | ⟨kvs,k,b,e,ey,eb,l⟩
 · subst ey
   obtain⟨z,hd,vs,rel,dd⟩:=zO I.hok e;refine call_meetsIn PySem.F.slot_dict_get dd.typeIs PySem.F.entry_dict_get (PySem.F.args_dict_get_3 _ _ _) (meets_dict_get_default (cQ X.prog X.w) a (aDf ry) hd r) ⟨_,dd.mapOf,h _ _ (I.tok _) ?_⟩
   rw[l];exact(rel.val k).getD rd
 · subst ey
   cases (show u=Value.ref b from ry)
   obtain⟨z,hd,xs,rel,dd⟩:=aA9 I.hok e;refine call_meetsIn PySem.F.slot_dict_get dd.typeIs PySem.F.entry_dict_get (PySem.F.args_dict_get_3 _ _ _) (meetsH_dict_get_default (tupleKind (cQ X.prog X.w)) a b hd r) ⟨tupleKind_room_in1 hu,k,xs,wZ I.hok eb,dd,h _ _ (I.tok _) ?_⟩
   rw[l];exact(rel.val k).getD rd
end
def aRh (td ty tx:TE):TE:=fun σ H Q=>td σ H fun x H1=>∃ a,x=.ref a/\IsD H1 a/\ty σ H1 fun y H2=>tx σ H2 fun z H3=>∃ o,aFi H3 a y o/\Q (o.getD z) H3
section
variable {X:Cx}{o e f:Expr}{apos cpos:Pos}{td ty tx:TE}
theorem aIu (hu:X.A.units+1<cLine)(ho:PE X o td)(he:PE X e ty)(hf:PE X f tx)(m:M2 X o "get" apos e f cpos):PE X (.Call (.Attribute o "get" apos) [e,f] [] cpos) (aRh td ty tx):=by
 intro pins s σ H Q I h;refine wpAny_Call_method m.base m.few m.line PySem.F.plainAttrs_dict PySem.F.slot_dict_get PySem.F.type_dict_get (thn (ho pins s σ H _ I h) fun u s1 ⟨x,H1,I1,rx,a,ex,d,q1⟩=>?_)
 subst ex;obtain rfl:u=Value.ref a:=rx;obtain⟨t1,t2,_⟩:=aQs I1 d;refine⟨t1,t2,?_⟩
 rw[m.trees]
 refine Calls.callWith_builtin rfl (Calls.evalArgs_plain (Calls.spliced_cons (thn (he pins s1 σ H1 _ I1 q1) fun iv s2 ⟨y,H2,I2,ry,q2⟩ =>
  Calls.spliced_cons (thn (hf pins s2 σ H2 _ I2 q2) fun fv s3 ⟨z,H3,I3,rz,ov,g,q3⟩=>Calls.spliced_nil ?_))))
 exact aRt hu I3 g ry rz fun w' s4 I4 rw'=>⟨_,H3,I4,rw',q3⟩
end
end L2
namespace Mir
open PySem L2
variable {X:Cx}{P:XP}{a b c e:Expr}{es:List Expr}{f g h':FE}{fs:FEs}{pos p:Pos}
def asK:D->R (List Int)
 | .tup ds=>cZ ds
 | _=>.stk
theorem yC {d:D}{x:Xc}(h:asK d=.exc x):False:=by
 cases d<;>simp[asK]at h
 exact fK h
def iD:List (List Int)->List D->List Int->Option D
 | k :: ks,d :: ds,j=>if k=j then some d else iD ks ds j
 | _,_,_=>none
def wX (ks:List (List Int))(ds:List D)(j:List Int)(v:D):List (List Int)×List D :=
 if j∈ks then (ks,(ks.zip ds).map fun p=>if p.1=j then v else p.2) else (ks++[j],ds++[v])
theorem yG {a b:List Int}(h:a.map (Sum.inl:Int->Key)=b.map Sum.inl):a=b:=by
 induction a generalizing b with
 | nil=>cases b with
  | nil=>rfl
  | cons _ _=>simp at h
 | cons x r ih=>cases b with
  | nil=>simp at h
  | cons y s =>
   simp only[Ai,Gf.injEq,Sum.inl.injEq]at h;rw[h.1,ih h.2]
theorem aRd (k:List Int):(k.map Sum.inl:List Key).map kV=k.map V.int:=by
 rw[Bt];rfl
section
variable {K:PySem.W.Frag}{G:Hp}
theorem vR {k:List Int}{ks:List (List Int)}{kvs:List (List Key×V)}(h:cH (k :: ks) kvs):∃ v r,kvs=(k.map Sum.inl,v) :: r/\cH ks r:=by
 unfold cH at h;cases kvs with
 | nil=>simp at h
 | cons p r =>
  simp only[Gf.injEq,Ai]at h;exact⟨p.2,r,by rw[←h.1],h.2⟩
theorem qX:∀ {ks:List (List Int)} {ds:List D} {kvs:List (List Key×V)} {j:List Int},cH ks kvs->aE K G ds (kvs.map (·.2))->(∀ d,iD ks ds j=some d->∃ v,qO kvs (j.map Sum.inl)=some v/\Rep K G d v)/\(iD ks ds j=none->qO kvs (j.map Sum.inl)=none)
 | [],ds,kvs,j,hk,r=>by
  have e:kvs=[]:=by unfold cH at hk;simpa using hk
  subst e;exact⟨fun d z=>by simp[iD]at z,fun _=>rfl⟩
 | k :: ks,ds,kvs,j,hk,r=>by
  obtain⟨v,t,rfl,hk'⟩:=vR hk;cases ds with
  | nil=>have:=r.length;simp at this
  | cons d ds =>
   obtain⟨x,xr,e1,e2,e3⟩:=r;simp only[Ai,Gf.injEq]at e1;obtain⟨e1,e1'⟩:=e1;subst e1 e1';by_cases z:k=j
   · subst z
     refine⟨fun d' q=>?_,fun q=>by simp[iD]at q⟩
     simp only[iD,if_true,Cw.injEq]at q;subst q;exact⟨v,nW rfl,e2⟩
   · have nz:¬ (k.map Sum.inl:List Key)=j.map Sum.inl:=fun w=>z (yG w)
     have ih:=qX (j:=j) hk' e3;rw[nT (p:=(k.map Sum.inl,v)) nz];simp only[iD,if_neg z];exact ih
theorem aE1:∀ {ks:List (List Int)} {ds:List D} {kvs:List (List Key×V)} {j:List Int} {d:D} {v:V},cH ks kvs->aE K G ds (kvs.map (·.2))->Rep K G d v->aE K G ((ks.zip ds).map fun p=>if p.1=j then d else p.2) ((kvs.map fun kv=>if kv.1=j.map Sum.inl then (kv.1,v) else kv).map (·.2))
 | [],ds,kvs,j,d,v,hk,r,rv=>by
  have e:kvs=[]:=by unfold cH at hk;simpa using hk
  subst e;rfl
 | k :: ks,ds,kvs,j,d,v,hk,r,rv=>by
  obtain⟨u,t,rfl,hk'⟩:=vR hk;cases ds with
  | nil=>have:=r.length;simp at this
  | cons d0 ds =>
   obtain⟨x,xr,e1,e2,e3⟩:=r;simp only[Ai,Gf.injEq]at e1;obtain⟨e1,e1'⟩:=e1;subst e1 e1';have ih:=aE1 (j:=j) hk' e3 rv;by_cases z:k=j
   · subst z
     refine⟨v,_,?_,?_,ih⟩
     · simp
     · simp only[if_true];exact rv
   · have nz:¬ (k.map Sum.inl:List Key)=j.map Sum.inl:=fun w=>z (yG w)
     refine⟨u,_,?_,?_,ih⟩
     · simp[nz]
     · simp only[if_neg z];exact e2
theorem aMt {ks:List (List Int)}{kvs:List (List Key×V)}(hk:cH ks kvs)(j:List Int):(kvs.any fun kv=>decide (kv.1=j.map Sum.inl))=decide (j∈ks):=by
 have e:(kvs.any fun kv=>decide (kv.1=j.map Sum.inl))=(kvs.map (·.1)).any fun q=>decide (q=j.map Sum.inl):=by rw[List.any_map];rfl
 rw[e,hk,List.any_map];rw[Bool.eq_iff_iff,decide_eq_true_eq,Hz];constructor
 · rintro⟨q,hq,w⟩
   rw[←yG (of_decide_eq_true w)];exact hq
 · intro hq
   exact⟨j,hq,decide_eq_true rfl⟩
theorem aNw {ks:List (List Int)}{ds:List D}{kvs:List (List Key×V)}{j:List Int}{d:D}{v:V}(hk:cH ks kvs)(r:aE K G ds (kvs.map (·.2)))(rv:Rep K G d v):cH (wX ks ds j d).1 (nU kvs (j.map Sum.inl) v)/\aE K G (wX ks ds j d).2 ((nU kvs (j.map Sum.inl) v).map (·.2)):=by
 unfold wX nU;rw[aMt hk j];by_cases z:j∈ks
 · rw[if_pos z,decide_eq_true z,if_pos rfl]
   refine⟨?_,aE1 hk r rv⟩
   unfold cH at hk ⊢;rw[Bt,←hk];apply Cg
   intro p _;show (if p.1=_ then (p.1,v) else p).1=p.1
   split<;>rfl
 · rw[if_neg z,decide_eq_false z,if_neg (by simp)]
   refine⟨?_,?_⟩
   · unfold cH at hk ⊢
     rw[Ca,Ca,hk];rfl
   · rw[Ca];exact r.append (aE.one rv)
end
def aEk:FE:=fun _=>.ok ⟨.tmp,true,.dct [] []⟩
theorem aQf:PE X (.Dict [] [] pos) (tE X.K P aEk):=by
 refine PE.imp aKb ?_
 rintro σ H Q ⟨H0,B,ρ,d,h⟩ p hp
 refine h _ _ (aD.upd_new hp) ⟨p,_,rfl,hp,aX,⟨[],rfl,rfl,rfl⟩⟩
theorem aI.key {H0 H H':Hp}{B:Addr->Prop}{v:V}{r:Res}{k:List Int}{K:PySem.W.Frag}(g:aI K H0 H H' B v r)(e:asK r.d=.ok k):∃ b,v=.ref b/\H' b=some (.tup ((k.map Sum.inl:List Key).map kV)):=by
 cases hd:r.d with
 | tup ds =>
  rw[hd]at e;obtain⟨b,xs,h1,h2,h3⟩:=g.tuple hd;have:=aE.ints e h3
  exact⟨b,h1,by rw[aRd,←this];exact h2⟩
 | _=>rw[hd]at e;simp[asK]at e
def mE (a k:FE):FE:=fun ρ=>do
 let x ← a ρ
 let y ← k ρ
 match x.d with
 | .dct ks ds=>do
  let j ← asK y.d
  match iD ks ds j with
  | some d=>.ok ⟨.shr,x.fr||d.imm,d⟩
  | none=>.stk
 | _=>.stk
theorem aJh (hu:X.A.units+64<cLine)(ha:PE X a (tE X.K P f))(hb:PE X b (tE X.K P g))(hs:aP7 b:=by exact fun _ _=>rfl):PE X (.Subscript a b pos) (tE X.K P (mE f g)):=by
 refine PE.imp (aK7 (by omega) ha hb hs) ?_
 intro σ H Q h;refine t2 (q:=fun x y H2=>∃ a v,x=.ref a/\aFi H2 a y (some v)/\Q v H2) h ?_
 intro H0 B ρ v w H' r r' d g1 g2 s h;cases hd:r.d with
 | dct ks ds =>
  simp only[hd]at h;cases e1:asK r'.d with
  | stk=>simp[e1]at h
  | exc x=>exact(yC e1).elim
  | ok j =>
   simp only[e1,R.ok_bind]at h;obtain⟨a,kvs,h1,h2,h3,h4⟩:=g1.dict hd;obtain⟨b,k1,k2⟩:=g2.key e1;cases e2:iD ks ds j with
   | none=>simp[e2]at h
   | some dd =>
    simp only[e2]at h;obtain⟨u,q1,q2⟩:=(qX h3 h4).1 dd e2;exact⟨a,u,h1,.inr ⟨kvs,_,b,h2,k1,k2,q1.symm⟩,h u H' (aD.refl _) (Rep.fr d.sam q2)⟩
 | _=>simp[hd]at h
end Mir
namespace Mir
open PySem L2
variable {X:Cx}{P:XP}{a b c e:Expr}{es:List Expr}{f g k:FE}{fs:FEs}{pos p:Pos}
def aCo (a k x:FE):FE:=fun ρ=>do
 let m ← a ρ
 match m.d with
 | .dct ks ds=>do
  let y ← k ρ
  let z ← x ρ
  let j ← asK y.d
  match iD ks ds j with
  | some d=>.ok ⟨.shr,m.fr||d.imm,d⟩
  | none=>do
   let i ← asI z.d
   .ok (sc (.int i))
 | _=>.stk
theorem aT3 {ap cp:Pos}(hu:X.A.units+64<cLine)(ha:PE X a (tE X.K P f))(hb:PE X b (tE X.K P k))(hc:PE X c (tE X.K P g))
 (hbase:attributeBase a "get" X.env (eval a X.env)=eval a X.env:=by rfl)
 (hfew:((backTo cp (starEach [b,c] X.env)).all (fun x=>!x.1)&&(backToKw cp (keywordEach [] X.env)).all (fun x=>x.1.isSome)&&decide (([b,c]:List Expr).length+([]:List Keyword).length+(if ([]:List Keyword).isEmpty then 0 else 1)<30))=true:=by rfl)
 (hline:(ap.endLine==cp.line)=true:=by rfl) (htr:backTo cp (starEach [b,c] X.env)=[(false,eval b X.env),(false,eval c X.env)]:=by rfl) :
 PE X (.Call (.Attribute a "get" ap) [b,c] [] cp) (tE X.K P (aCo f k g)):=by
 refine PE.imp (aIu (by omega) ha hb hc ⟨hbase,hfew,hline,htr⟩) ?_
 rintro σ H Q ⟨H0,B,ρ,d,h⟩
 unfold aCo at h;cases e1:f ρ with
 | stk=>simp[e1]at h
 | exc x=>simp[e1]at h;exact dA d e1 h
 | ok r =>
  simp only[e1,R.ok_bind]at h;cases hd:r.d with
  | dct ks ds =>
   simp only[hd]at h;refine eV d e1 fun v H1 s1 d1 g1=>?_
   obtain⟨a,kvs,h1,h2,h3,h4⟩:=g1.dict hd;refine⟨a,h1,.inr ⟨kvs,h2⟩,?_⟩
   cases e2:k ρ with
   | stk=>simp[e2]at h
   | exc x=>simp[e2]at h;exact dA d1 e2 (P.mono h s1)
   | ok r2 =>
    simp only[e2,R.ok_bind]at h;refine eV d1 e2 fun v2 H2 s2 d2 g2=>?_
    cases e3:g ρ with
    | stk=>simp[e3]at h
    | exc x=>simp[e3]at h;exact dA d2 e3 (P.mono h (s1.trans s2))
    | ok r3 =>
     simp only[e3,R.ok_bind]at h;refine eV d2 e3 fun v3 H3 s3 d3 g3=>?_
     cases e4:asK r2.d with
     | stk=>simp[e4]at h
     | exc x=>exact(yC e4).elim
     | ok j =>
      simp only[e4,R.ok_bind]at h;obtain⟨bb,k1,k2⟩:=g2.key e4;have s23:=s2.trans s3;have h2':Rd H3 a (.dT kvs):=aD.rd s23 h2;have h4':aE X.K (aU r.fr H0 H3 B) ds (kvs.map (·.2)):=aE.same (aP (fun b o q _=>s23 b o q) fun b z=>.inl z) h4;cases e5:iD ks ds j with
      | some dd =>
       simp only[e5]at h;obtain⟨u,q1,q2⟩:=(qX h3 h4').1 dd e5;exact⟨some u,.inr ⟨kvs,_,bb,h2',k1,s3 _ _ k2,q1.symm⟩,h u H3 ((s1.trans s2).trans s3) (Rep.fr d3.sam q2)⟩
      | none =>
       simp only[e5]at h;have q1:=(qX (j:=j) h3 h4').2 e5;cases e6:asI r3.d with
       | stk=>simp[e6]at h
       | exc x=>exact(cM e6).elim
       | ok i =>
        simp only[e6,R.ok_bind]at h;refine⟨none,.inr ⟨kvs,_,bb,h2',k1,s3 _ _ k2,q1.symm⟩,?_⟩
        show Q v3 H3
        rw[g3.int (dI e6)];exact h _ H3 ((s1.trans s2).trans s3) (aI.sc (show Rep _ _ (.int i) _ from rfl))
  | _=>simp[hd]at h
def ownD (i:Nat)(ρ:Env):R (Bool×List (List Int)×List D):=match ρ[i]? with
 | some (some ⟨.own,fr,.dct ks ds⟩)=>.ok (fr,ks,ds)
 | _=>.stk
theorem aL2 {i:Nat}{ρ:Env}{y:Bool×List (List Int)×List D}(h:ownD i ρ=.ok y):ρ[i]?=some (some ⟨.own,y.1,.dct y.2.1 y.2.2⟩):=by
 unfold ownD at h;split at h
 · rename_i e;cases h;exact e
 · cases h
def wS (i:Nat)(k f:FE):FS:=fun ρ=>(ownD i ρ).at ρ fun y=>(f ρ).at ρ fun r=>(r.give).at ρ fun x=>(k ρ).at ρ fun kr=>(asK kr.d).at ρ fun j =>
 if y.2.1.length<sizeLine then .nx (ρ.set i (some ⟨.own,y.1&&x.fr,.dct (wX y.2.1 y.2.2 j x.d).1 (wX y.2.1 y.2.2 j x.d).2⟩)) else .stk
theorem cH.len {ks:List (List Int)}{kvs:List (List Key×V)}(h:cH ks kvs):kvs.length=ks.length:=by
 simpa using congrArg Hd h
theorem aQe {i:Nat}{x:Str}{p tp:Pos}(hu:X.A.units+64<cLine)(hN:X.N[i]?=some x)(hv:Vis X.env.scope x)(hk:PE X b (tE X.K P k))(he:PE X e (tE X.K P f))(hd:(x==("__debug__":Str))=false:=by decide)(hcd:(x==("__classdict__":Str))=false:=by decide)
 (hs:swapsWith e (some (.Subscript (.Name x p) b tp)) pos.line X.env=pure false:=by rfl) :
 PS X (.Assign [.Subscript (.Name x p) b tp] e pos) (tS X.K P (wS i k f)):=by
 refine PS.imp (aMc (by omega) (pO hN hv hd hcd) hk he hs) ?_
 rintro D σ H ⟨H0,T,ρ,d,h⟩
 unfold wS at h;cases e0:ownD i ρ with
 | stk=>simp only[e0,R.at]at h;exact h.elim
 | exc z=>unfold ownD at e0;split at e0<;>cases e0
 | ok y =>
  simp only[e0,R.at]at h;have ho:=aL2 e0;cases e1:f ρ with
  | stk=>simp only[e1]at h;exact h.elim
  | exc z=>simp only[e1]at h;exact dA d.e e1 (h σ H d Ext.refl)
  | ok r =>
   simp only[e1]at h;refine eV d.e e1 fun v H1 s1 d1 g1=>?_
   cases e2:r.give with
   | stk=>simp only[e2]at h;exact h.elim
   | exc z=>unfold Res.give at e2;split at e2<;>cases e2
   | ok r' =>
    simp only[e2]at h;obtain⟨w1,w2⟩:=g1.give d.e e2;subst w1;obtain⟨a,kvs,q1,q2,q3,q4,q5⟩:=d.ownD ho;refine⟨_,q1,?_⟩
    cases e3:k ρ with
    | stk=>simp only[e3]at h;exact h.elim
    | exc z=>simp only[e3]at h;exact dA d1 e3 (h σ H1 (d.mono s1) (Ext.same s1))
    | ok kr =>
     simp only[e3]at h;refine eV d1 e3 fun v2 H2 s2 d2 g2=>?_
     cases e4:asK kr.d with
     | stk=>simp only[e4]at h;exact h.elim
     | exc z=>exact(yC e4).elim
     | ok j =>
      simp only[e4]at h;by_cases hz:y.2.1.length<sizeLine
      · rw[if_pos hz]at h
        obtain⟨bb,k1,k2⟩:=g2.key e4;have s12:=s1.trans s2;have dS:=d.mono s12;have m1:∀ fr,aD (aU fr H0 H1 (Bs T σ ρ)) (aU fr H0 H2 (Bs T σ ρ)):=fun fr=>aP (fun b o q _=>s2 b o q) fun b z=>.inl z;have m2:∀ fr,aD (aU fr H0 H (Bs T σ ρ)) (aU fr H0 H2 (Bs T σ ρ)):=fun fr=>aP (fun b o q _=>s12 b o q) fun b z=>.inl z
        have rv:Rep X.K (aU (y.1&&r.fr) H0 H2 (Bs T σ ρ)) r.d v:=by
         obtain⟨_,_,z1,z2,_⟩:=(aE.one (Rep.same (m1 _) w2)).andR (fr:=y.1);cases z1;exact z2
        have pk:=aNw (j:=j) q4 (aE.same (m2 _) q5).andL rv;refine⟨a,_,rfl,.inr ⟨kvs,j.map Sum.inl,bb,s12 _ _ q3,k1,k2,by rw[q4.len];exact hz,rfl⟩,?_⟩
        obtain⟨v1,v2⟩:=dS.writeO (fr:=y.1&&r.fr) (dd:=.dct (wX y.2.1 y.2.2 j r.d).1 (wX y.2.1 y.2.2 j r.d).2) (o':=.dT (nU kvs (j.map Sum.inl) v)) q1 ho rfl q2 ⟨_,rfl,pk.1,pk.2⟩;exact h σ _ v1 ((Ext.same s12).trans v2)
      · rw[if_neg hz]at h;exact h.elim
end Mir
namespace Srt
open PySem PySem.W PyProof.Rows
def ins {α:Type}(r:α->α->Bool)(x:α):List α->List α
 | []=>[x]
 | y :: l=>if r y x then y :: ins r x l else x :: y :: l
def srt {α:Type}(r:α->α->Bool):List α->List α
 | []=>[]
 | x :: l=>ins r x (srt r l)
section
variable {α:Type}{r:α->α->Bool}
theorem tQ (x:α):∀ l:List α,(ins r x l).Perm (x :: l)
 | []=>Dy _
 | y :: l=>by
  unfold ins;split
  · exact((tQ x l).cons y).trans (List.Perm.swap x y l)
  · exact Dy _
theorem dZ:∀ l:List α,(srt r l).Perm l
 | []=>Dy _
 | x :: l=>(tQ x (srt r l)).trans ((dZ l).cons x)
structure Tot (r:α->α->Bool):Prop where
 asy:∀ {a b},r a b=true->r b a=false
 tri:∀ {a b},r a b=false->r b a=false->a=b
 trs:∀ {a b c},r a b=true->r b c=true->r a c=true
theorem Tot.le (t:Tot r){a b c:α}(h:r b a=false)(g:r c b=false):r c a=false:=by
 cases q:r c a with
 | false=>rfl
 | true =>
  cases ab:r a b with
  | true=>have:=t.trs q ab;rw[g]at this;cases this
  | false=>rw[t.tri ab h]at q;rw[g]at q;cases q
theorem aIq (t:Tot r)(x:α):∀ {l:List α},l.Pairwise (fun a b=>r b a=false)->(ins r x l).Pairwise fun a b=>r b a=false
 | [],_=>by simp[ins]
 | y :: l,h=>by
  have hc:=Eu.mp h;obtain⟨h1,h2⟩:=hc;unfold ins;split
  · rename_i z
    refine Eu.mpr ⟨fun b hb=>?_,aIq t x h2⟩
    rcases Aj.mp ((tQ x l).mem_iff.mp hb) with e | e
    · rw[e];exact t.asy z
    · exact h1 b e
  · rename_i z
    have z':r y x=false:=by simpa using z
    refine Eu.mpr ⟨fun b hb=>?_,h⟩
    rcases Aj.mp hb with e | e
    · rw[e];exact z'
    · exact t.le z' (h1 b e)
theorem lD (t:Tot r):∀ l:List α,(srt r l).Pairwise fun a b=>r b a=false
 | []=>Do
 | x :: l=>aIq t x (lD t l)
theorem jI (t:Tot r){l k:List α}(p:k.Perm l)(u:k.Pairwise fun a b=>r b a=false):k=srt r l :=
 List.Perm.eq_of_pairwise (le:=fun a b=>r b a=false) (fun a b _ _ h g=>t.tri g h) u (lD t l) (p.trans (dZ l).symm)
theorem aD7 (l:List α):(srt r l).length=l.length:=(dZ l).length_eq
theorem vH (ks:List α)(d0:α):(Af ks.length).map (fun i=>ks.getD i d0)=ks:=by
 refine Hx (by simp) fun i h1 h2=>?_
 simp[h2]
theorem sD {n:Nat}{p:Array Nat}(ip:Inv n p):p.toList.Perm (Af n):=by simpa using Array.perm_iff_toList_perm.mp ip
theorem aPu (t:Tot r){p:Array Nat}{ks:List α}(d0:α)(ip:Inv ks.length p)(u:Up (fun i j=>r (ks.getD i d0) (ks.getD j d0)) p ks.length):p.toList.map (fun i=>ks.getD i d0)=srt r ks:=by
 refine jI t ?_ ?_
 · have:=(sD ip).map fun i=>ks.getD i d0
   rw[vH]at this;exact this
 · rw[Cj,Ek]
   intro i j hi hj hij;have sz:=ip.size;have:=u i j (En hij) (by rw[←sz];simpa using hj)
   unfold at' at this;have ei:p.getD i 0=p.toList[i]:=by simp[Array.getD,show i<p.size by simpa using hi]
   have ej:p.getD j 0=p.toList[j]:=by simp[Array.getD,show j<p.size by simpa using hj]
   rw[ei,ej]at this;exact this
end
def ix (a b:Int):Bool:=decide (a<b)
theorem iK:Tot ix:=⟨fun h=>decide_eq_false (by have:=of_decide_eq_true h;omega),fun h g=>by have:=of_decide_eq_false h;have:=of_decide_eq_false g;omega,fun h g=>decide_eq_true (by have:=of_decide_eq_true h;have:=of_decide_eq_true g;omega)⟩
theorem kX:Tot px:=⟨aRk,aSd,aQl⟩
theorem Tot.ord {α:Type}{r:α->α->Bool}(t:Tot r)(key:Nat->α):Ord fun i j=>r (key i) (key j):=aRu key t.asy t.tri t.trs
section
variable {prog:Program}{w:World}{A:Around}{E:Value->Shared->Prop}{s:Shared}
theorem yP:∀ {vs:List Value} {ns:List Int} {i:Nat},IntsAre vs ns->i<vs.length->∃ t,vs.getD i Value.none=.int (ns.getD i 0) t
 | _,_,_,.nil,h=>by simp at h
 | _,_,0,.cons n t hr,_=>⟨t,rfl⟩
 | _,_,i+1,.cons n t hr,h=>by
  obtain⟨u,e⟩:=yP (i:=i) hr (by simpa using h)
  exact⟨u,by simpa using e⟩
theorem aHo {vs:List Value}{ns:List Int}{t:Shared}(T:IntsAre vs ns)(two:2<=vs.length) :
 wpAny (model prog w) A (keyKind' vs.toArray) (fun κ t'=>mP t t'/\oB prog w A (fun i j=>ix (ns.getD i 0) (ns.getD j 0)) vs κ t) (fun _ _=>False) t:=by
 match vs,T,two with
 | v1 :: v2 :: vs,T,_ =>
  rw[keyKind_ints T];refine wpAny_pure ⟨mP.refl t,fun i j C s1 hi hj l q=>?_⟩
  obtain⟨t1,e1⟩:=yP T hi;obtain⟨t2,e2⟩:=yP T hj;unfold kas_ask;rw[e1,e2];exact kat_lt_int (q s1 l)
end
end Srt
namespace L2
open PySem PySem.Spec PyProof.Rows
section
variable {X:Cx}{pins:List (Addr×Obj)}{σ:St}{H:Hp}{s:Shared}{h':Heap}{D:Addr}{o:HO}
theorem bP.there {P:Program}{w:World}{h:Heap}{a:Addr}(x:bP P w H h a o):∃ u,h.get? a=some u:=by
 cases o with
 | lst xs=>obtain⟨_,_,_,_,e⟩:=x;exact⟨_,e⟩
 | tup xs=>obtain⟨_,_,_,u,e,_⟩:=x;exact⟨_,e⟩
 | dK kvs=>obtain⟨_,_,_,_,u,_,_,e,_⟩:=x;exact⟨_,e⟩
 | dT kvs=>obtain⟨_,_,_,_,u,_,_,e,_⟩:=x;exact⟨_,e⟩
 | set S n=>obtain⟨u,_,_,_,e,_⟩:=x;exact⟨_,e⟩
 | ins C dx fs=>obtain⟨_,_,_,e,_⟩:=x;exact⟨_,e⟩
 | own y=>exact x
 | xd fs=>obtain⟨_,⟨u,_,_,e,_⟩,_⟩:=x;exact⟨_,e⟩
 | rng lo hi=>obtain⟨_,_,_,e⟩:=x;exact⟨_,e⟩
 | frz ob u=>obtain⟨e,_⟩:=x;exact⟨_,e⟩
 | tbl ps=>exact⟨_,x⟩
 | met f y=>exact⟨_,x⟩
 | ext φ=>obtain⟨_,e,_⟩:=x;exact e
theorem Inv.laidN {t':Nat}(I:Inv X pins σ H s)(k:∀ b u,s.heap.get? b=some u->h'.get? b=some u)(hD:s.heap.get? D=none)(new:bP X.prog X.w (upd H D o) h' D o) :
 H D=none/\Inv X pins σ (upd H D o) { s with heap:=h',toks:=t' }:=by
 have hn:H D=none:=by
  cases q:H D with
  | none=>rfl
  | some u=>obtain⟨v,e⟩:=(I.hok D u q).there;rw[hD]at e;cases e
 have nb:∀ b u,s.heap.get? b=some u->b≠D:=fun b u e z=>by rw[z,hD]at e;cases e
 refine⟨hn,I.un ⟨fun b u q _ _ _=>k b u q,fun b u q _ _ _=>⟨u.slots,k b u q⟩,fun b u q n _=>?_,fun b u q _=>⟨u,k b u q⟩,fun b xs q=>?_,fun b u xs q=>?_,fun b ps q=>⟨#[],?_⟩⟩ fun b u e=>?_⟩
 · rw[aH (nb b u q)];exact n
 · rw[aH (aZ q hn)];exact q
 · rw[aH (aZ q hn)];exact q
 · rw[aH (aZ q hn),q];simp
 · by_cases hb:b=D
   · subst hb;rw[aX]at e;cases e;exact new
   · rw[aH hb]at e
     exact(I.hok b u e).stay (fun c v _ q=>k c v q) (fun c q=>by rw[aH (aZ q hn)];exact q) fun c xs q=>by rw[aH (aZ q hn)];exact q
theorem bA.picks {ys:List V}{its:List Value}(r:bA ys its):∀ {l:List Nat},(∀ i∈l,i<ys.length)->bA (l.map fun i=>ys.getD i .non) (l.map fun i=>its.getD i Value.none)
 | [],_=>.nil
 | i :: l,h=>by
  refine .cons ?_ (bA.picks r fun j hj=>h j (Ac _ hj))
  have hi:=h i Ab;obtain⟨u,e,q⟩:=r.get (Ae hi);show bF (ys.getD i .non) (its.getD i Value.none)
  rw[Aa,Ae hi,Aa,e];exact q
theorem vF {lt:Nat->Nat->Bool}{ys:List V}{its:List Value}{x:Value}{Q:VK}(od:Srt.Ord lt)(I:Inv X pins σ H s)(r:bA ys its)(few:ys.length<64)
 (col:∀ R:List Value->Shared->Prop,(∀ h',(∀ b u,s.heap.get? b=some u->h'.get? b=some u)->R its { s with heap:=h' })->wpAny (model X.prog X.w) X.A.in1 (collect x) R X.xe s)
 (ask:2<=its.length->∀ t:Shared,(∀ b y,s.heap.get? b=some y->t.heap.get? b=some y)->wpAny (model X.prog X.w) X.A.in1.in1 (keyKind' its.toArray) (fun κ t'=>Srt.mP t t'/\Srt.oB X.prog X.w X.A.in1.in1 lt its κ t) (fun _ _=>False) t)
 (q:∀ p,Srt.Inv ys.length p->Srt.Up lt p ys.length->∀ l,H l=none->Q (.ref l) (upd H l (.lst (p.toList.map fun i=>ys.getD i .non)))) :
 wpAny (model X.prog X.w) X.A (call (.builtin "sorted") [x]) (EP X pins σ Q) X.xe s:=by
 have hl:=r.length;refine Srt.aFq od (vs:=its) (by rw[←hl];exact few) (col _ fun h' k=>⟨rfl,h',s.toks,rfl,k⟩) ask fun p h' tk c D ip u k hD e=>?_
 rw[←hl]at ip u;have bd:∀ i∈p.toList,i<ys.length:=fun i hi=>by simpa using (Srt.sD ip).mem_iff.mp hi
 have ln:(p.toList.map fun i=>ys.getD i V.non).length<=sizeLine:=by
  rw[Ad,Array.length_toList,ip.size,sizeLine_eq];omega
 obtain⟨h1,h2⟩:=I.laidN (t':=tk) (o:=.lst (p.toList.map fun i=>ys.getD i .non)) k hD ⟨ln,_,c,r.picks bd,e⟩;exact⟨.ref D,_,h2,rfl,q p ip u D h1⟩
end
end L2
namespace L2
open PySem PySem.Spec PyProof.Rows
abbrev pick (p:Array Nat)(ys:List V):List V:=p.toList.map fun i=>ys.getD i .non
section
variable {X:Cx}{pins:List (Addr×Obj)}{σ:St}{H:Hp}{s:Shared}
theorem aE7 {a:Addr}{its:List Value}(hq:PlainL s.heap a its.toArray\/IsTup s.heap a its.toArray)(hz:its.length<=sizeLine)(R:List Value->Shared->Prop)
 (k:∀ h',(∀ b u,s.heap.get? b=some u->h'.get? b=some u)->R its { s with heap:=h' }):wpAny (model X.prog X.w) X.A.in1 (collect (.ref a)) R X.xe s:=by
 rcases hq with hq | hq
 · obtain⟨o,ho,hc,n,hd⟩:=hq.isList
   exact wpAny_collect_seq a (.inl rfl) ho hc hd (fun h' kp=>k h' kp) (by simpa using hz)
 · obtain⟨o,ho,hc,n,hd⟩:=hq
   exact wpAny_collect_seq a (.inr rfl) ho hc hd (fun h' kp=>k h' kp) (by simpa using hz)
theorem aGu:kS X (.builtin "sorted") (fun xs H Q=>∃ (a:Addr) (ns:List Int),xs=[.ref a]/\(SqL X.K H a (ns.map V.int)\/SqT X.K H a (ns.map V.int))/\ns.length<64 /\
 ∀ p,Srt.Inv ns.length p->Srt.Up (fun i j=>Srt.ix (ns.getD i 0) (ns.getD j 0)) p ns.length->∀ l,H l=none->Q (.ref l) (upd H l (.lst (pick p (ns.map V.int))))):=by
 intro pins s σ H xs us Q I r h;obtain⟨a,ns,rfl,hq,few,q⟩:=h;obtain⟨u,rfl,rx⟩:=oG r;cases rx
 obtain⟨its,rv,pl,hz⟩:∃ its:List Value,bA (ns.map V.int) its/\(PlainL s.heap a its.toArray\/IsTup s.heap a its.toArray)/\its.length<=sizeLine:=by
  rcases hq with hq | hq
  · obtain⟨its,r,pl,z⟩:=I.list hq;exact⟨its,r,.inl pl,by rw[←r.length];exact z⟩
  · obtain⟨its,r,pl,z⟩:=I.tuple hq;exact⟨its,r,.inr pl,by rw[←r.length];exact z⟩
 have hi:=pR rv;refine vF (Srt.iK.ord fun i=>ns.getD i 0) I rv (by simpa using few) (fun R k=>aE7 pl hz R k) (fun two t k=>Srt.aHo hi two) fun p ip u l hl=>?_
 rw[Ad]at ip u;exact q p ip u l hl
def PrV (H:Hp)(ys:List V)(ks:List (List Int×Int)):Prop:=ys.length=ks.length/\∀ (i:Nat) (k:List Int×Int),ks[i]?=some k->∃ p b,ys[i]?=some (.ref p)/\H p=some (.tup [.ref b,.int k.2])/\H b=some (.tup (k.1.map V.int))
theorem aJi (I:Inv X pins σ H s){b:Addr}{xs:List V}(h:H b=some (.tup xs)):∃ its:List Value,bA xs its/\IsTup s.heap b its.toArray:=by
 obtain⟨_,its,r,t⟩:=I.hok b _ h;exact⟨its,r,t⟩
theorem IsTup.on {h h':Heap}{a:Addr}{its:Array Value}(t:IsTup h a its)(k:∀ b u,h.get? b=some u->h'.get? b=some u):IsTup h' a its:=by
 obtain⟨o,h1,h2⟩:=t;exact⟨o,k a o h1,h2⟩
theorem aF8 (I:Inv X pins σ H s){h':Heap}{ys:List V}{its:List Value}{ks:List (List Int×Int)}(r:bA ys its)(z:PrV H ys ks)(k:∀ b u,s.heap.get? b=some u->h'.get? b=some u):Srt.kY h' its ks:=by
 refine⟨by rw[←r.length];exact z.1,fun i q hq=>?_⟩
 obtain⟨p,b,h1,h2,h3⟩:=z.2 i q hq;obtain⟨u,e,ru⟩:=r.get h1;cases (show u=Value.ref p from ru)
 obtain⟨i2,r2,t2⟩:=aJi I h2;obtain⟨i3,r3,t3⟩:=aJi I h3;obtain⟨v1,v2,rfl,q1,q2⟩:=aJp r2;cases (show v1=Value.ref b from q1)
 obtain⟨tz,rfl⟩:=(show ∃ t,v2=Value.int q.2 t from q2)
 exact⟨p,b,i3.toArray,tz,e,IsTup.on t2 k,IsTup.on t3 k,by simpa using pR r3⟩
theorem aF1 (hu:X.A.units+64<cLine):kS X (.builtin "sorted") (fun xs H Q=>∃ (a:Addr) (ys:List V) (ks:List (List Int×Int)),xs=[.ref a]/\SqL X.K H a ys/\PrV H ys ks/\ys.length<64 /\
 ∀ p,Srt.Inv ks.length p->Srt.Up (fun i j=>Srt.px (ks.getD i ([],0)) (ks.getD j ([],0))) p ks.length->∀ l,H l=none->Q (.ref l) (upd H l (.lst (pick p ys)))):=by
 intro pins s σ H xs us Q I r h;obtain⟨a,ys,ks,rfl,hq,hp,few,q⟩:=h;obtain⟨u,rfl,rx⟩:=oG r;cases rx;obtain⟨its,rv,pl,z⟩:=I.list hq;refine vF (Srt.kX.ord fun i=>ks.getD i ([],0)) I rv few (fun R k=>aE7 (.inl pl) (by rw[←rv.length];exact z) R k) (fun two t k=>Srt.aFg (aF8 I rv hp k) (by show X.A.units+1+1<cLine;omega) two) fun p ip u l hl=>?_
 rw[hp.1]at ip u;exact q p ip u l hl
theorem KT.addrs {kvs:List (List Key×V)}{xs:List (List Key×Addr×Value)}(r:KT H kvs xs):xs.length=kvs.length/\∀ (i:Nat) (q:List Key×Addr×Value),xs[i]?=some q->∃ p,kvs[i]?=some p/\H q.2.1=some (.tup (p.1.map kV)):=by
 induction r with
 | nil=>exact⟨rfl,fun i q h=>by simp at h⟩
 | cons hq t ih =>
  refine⟨by simp[ih.1],fun i q h=>?_⟩
  cases i with
  | zero=>simp at h;subst h;exact⟨_,rfl,hq.2.1⟩
  | succ j =>
   obtain⟨p,h1,h2⟩:=ih.2 j q (by simpa using h)
   exact⟨p,by simpa using h1,h2⟩
theorem aL1 (k:List Int):(k.map (Sum.inl:Int->Key)).map kV=k.map V.int:=by
 rw[Bt];rfl
end
end L2
namespace L2
open PySem PySem.Spec PyProof.Rows
section
variable {X:Cx}{pins:List (Addr×Obj)}{σ:St}{H:Hp}{s:Shared}{a:Addr}{o:Obj}{kvs:List (List Key×V)}
theorem Inv.ice (I:Inv X pins σ H s)(h:H a=some (.dT kvs))(ho:s.heap.get? a=some o):Inv X pins σ (upd H a (.frz o (.dT kvs))) s:=by
 have hn:∀ {b:Addr} {u:HO},H b=some u->u≠.dT kvs->b≠a:=fun e d z=>by rw[z,h]at e;cases e;exact d rfl
 have hz:∀ {b:Addr},H b=none->b≠a:=fun e z=>by rw[z,h]at e;cases e
 refine I.un (t':=s.toks) ⟨fun b u q _ _ _=>q,fun b u q _ _ _=>⟨u.slots,q⟩,fun b u q n _=>by rw[aH (hz n)];exact n,fun b u q _=>⟨u,q⟩,fun b xs q=>by rw[aH (hn q (by simp))];exact q,fun b u xs q=>by rw[aH (hn q (by simp))];exact q,fun b ps q=>⟨#[],by rw[aH (hn q (by simp)),q];simp⟩⟩ fun b u e=>?_
 have st:∀ u,bP X.prog X.w H s.heap b u->bP X.prog X.w (upd H a (.frz o (.dT kvs))) s.heap b u:=fun u q=>q.stay (fun c v _ z=>z) (fun c z=>by rw[aH (hn z (by simp))];exact z) fun c xs z=>by rw[aH (hn z (by simp))];exact z
 by_cases hb:b=a
 · subst hb;rw[aX]at e;cases e
   exact⟨ho,st _ (I.hok b _ h)⟩
 · rw[aH hb]at e
   exact st u (I.hok b u e)
theorem Inv.melt (I:Inv X pins σ H s){u:HO}(h:H a=some (.frz o u))(n0:∀ o' u',X.H₀ a≠some (.frz o' u')):Inv X pins σ (upd H a u) s:=by
 have hn:∀ {b:Addr} {u':HO},H b=some u'->u'≠.frz o u->b≠a:=fun e d z=>by rw[z,h]at e;cases e;exact d rfl
 have hz:∀ {b:Addr},H b=none->b≠a:=fun e z=>by rw[z,h]at e;cases e
 have B:=I.base;refine⟨I.ok,I.os,I.bare,⟨B.keep,B.slot,fun b ob q n x=>?_,B.there,fun b xs q=>?_,fun b ob v q=>?_,fun b ps q=>?_⟩,I.loc,I.cell,?_,fun x c e=>?_,fun p hp=>?_,fun b v e=>?_,I.len⟩
 · have:=B.free b ob q n x
   rw[aH (hz this)];exact this
 · have:=B.tups b xs q
   rw[aH (hn this (by simp))];exact this
 · have:=B.frzs b ob v q
   rw[aH (fun z=>n0 ob v (by rw[←z];exact q))];exact this
 · obtain⟨m,e⟩:=B.tbls b ps q
   exact⟨m,by rw[aH (hn e (by simp))];exact e⟩
 · rw[aH (hz I.free)];exact I.free
 · have:=I.freeC x c e
   rw[aH (hz this)];exact this
 · obtain⟨e1,e2,e3⟩:=I.pin p hp
   exact⟨e1,by rw[aH (hz e2)];exact e2,e3⟩
 · have st:∀ v,bP X.prog X.w H s.heap b v->bP X.prog X.w (upd H a u) s.heap b v:=fun v q=>q.stay (fun c v _ z=>z) (fun c z=>by rw[aH (hn z (by simp))];exact z) fun c xs z=>by rw[aH (hn z (by simp))];exact z
   by_cases hb:b=a
   · subst hb;rw[aX]at e;cases e
     exact st _ (I.hok b _ h).2
   · rw[aH hb]at e
     exact st v (I.hok b v e)
theorem KT.vals {xs:List (List Key×Addr×Value)}(r:KT H kvs xs):∀ (i:Nat) (p:List Key×V),kvs[i]?=some p->∃ q,xs[i]?=some q/\H q.2.1=some (.tup (p.1.map kV))/\bF p.2 q.2.2:=by
 induction r with
 | nil=>exact fun i q h=>by simp at h
 | cons hq t ih =>
  intro i q h;cases i with
  | zero=>simp at h;subst h;exact⟨_,rfl,hq.2⟩
  | succ j =>
   obtain⟨p,h1,h2⟩:=ih j q (by simpa using h)
   exact⟨p,by simpa using h1,h2⟩
theorem aUz (I:Inv X pins σ H s)(h:H a=some (.frz o (.dT kvs))){es:Array DictEntry}{ep:Nat}(hd:o.data=.dict es ep):Dk.Ent s.heap a es ep/\es.size=kvs.length/\(a==sysModules)=false /\
 ∀ (i:Nat) (p:List Key×V),kvs[i]?=some p->∃ k b,es[i]?=some k/\k.key=.ref b/\H b=some (.tup (p.1.map kV))/\bF p.2 k.val:=by
 obtain⟨e0,z,y,xs,r,o',es',ep',h1,h2,h3,h4,h5⟩:=I.hok a _ h;rw[e0]at h1;cases h1;rw[hd]at h3;cases h3;have el:es.size=xs.length:=by rw[←Array.length_toList,h4,Ad]
 refine⟨⟨o,e0,h2,hd⟩,by rw[el];exact(KT.addrs (show KT H kvs xs from r)).1,y,fun i p hp=>?_⟩
 obtain⟨q,q1,q2,q3⟩:=KT.vals (show KT H kvs xs from r) i p hp
 refine⟨entryOfKey (tupleKind (cQ X.prog X.w)) q,q.2.1,?_,rfl,q2,q3⟩
 rw[←Array.getElem?_toList,h4,Ao,q1];rfl
end
def KyA (H:Hp)(bs:List Addr)(kvs:List (List Key×V)):Prop:=bs.length=kvs.length/\∀ (i:Nat) (b:Addr) (p:List Key×V),bs[i]?=some b->kvs[i]?=some p->H b=some (.tup (p.1.map kV))
theorem aLi {X:Cx}{pins:List (Addr×Obj)}{σ:St}{H:Hp}{s:Shared}{a:Addr}{o:Obj}{kvs:List (List Key×V)}(I:Inv X pins σ H s)(h:Rd H a (.dT kvs))(ho:s.heap.get? a=some o) :
 ∃ es ep bs,o.ExactDict/\o.data=.dict es ep/\es.toList.map (·.key)=bs.map Value.ref/\KyA H bs kvs/\(a==sysModules)=false:=by
 obtain⟨z,y,xs,r,o',es,ep,h1,h2,h3,h4,h5⟩:=(show bP X.prog X.w H s.heap a (.dT kvs) from aJ3 I.hok h)
 rw[ho]at h1;cases h1;obtain⟨k1,k2⟩:=KT.addrs (show KT H kvs xs from r)
 refine⟨es,ep,xs.map (·.2.1),h2,h3,by rw[h4,Bt,Bt];rfl,⟨by simp[k1],fun i b p hb hp=>?_⟩,y⟩
 rw[Ao]at hb;cases e:xs[i]? with
 | none=>rw[e]at hb;cases hb
 | some q =>
  rw[e]at hb;cases hb;obtain⟨p',g1,g2⟩:=k2 i q e;rw[hp]at g1;cases g1;exact g2
def aV1 (H H2 H3:Hp):Prop:=H3=H2\/∃ a o u,H2 a=some (.frz o u)/\(∀ o' u',H a≠some (.frz o' u'))/\H3=upd H2 a u
theorem aNl {X:Cx}{e:Expr}{t:TE}(h:PE X e t):PE X e (fun σ H Q=>t σ H fun v H2=>∃ H3,aV1 H H2 H3/\Q v H3):=by
 intro pins s σ H Q I q;refine thn (h pins s σ H _ I q) fun v s1 ⟨x,H2,I2,r,H3,m,q⟩=>?_
 rcases m with m | ⟨a,o,u,m1,m2,m3⟩
 · subst m
   exact⟨x,H3,I2,r,q⟩
 · subst m3
   exact⟨x,_,I2.melt m1 fun o' u' z=>m2 o' u' (I.base.frzs a o' u' z),r,q⟩
end L2
namespace Mir
open PySem L2
variable {X:Cx}{P:XP}{a b c e:Expr}{es:List Expr}{f g:FE}{fs:FEs}{pos p:Pos}
section
variable {K:PySem.W.Frag}{G:Hp}
theorem aE.map_ints:∀ (ns:List Int),aE K G (ns.map D.int) (ns.map V.int)
 | []=>rfl
 | n :: ns=>⟨.int n,_,rfl,rfl,aE.map_ints ns⟩
theorem aE.pick {α:Type}(mk:α->D){ks:List α}{ys:List V}{q:Array Nat}{d0:α}{r:α->α->Bool}(t:Srt.Tot r)(h:aE K G (ks.map mk) ys)(ip:Srt.Inv ks.length q)(u:Srt.Up (fun i j=>r (ks.getD i d0) (ks.getD j d0)) q ks.length) :
 aE K G ((Srt.srt r ks).map mk) (L2.pick q ys):=by
 rw[←Srt.aPu t d0 ip u,Bt];have bd:∀ i∈q.toList,i<ks.length:=fun i hi=>by simpa using (Srt.sD ip).mem_iff.mp hi
 have ln:=h.length;rw[Ad]at ln
 have go:∀ l:List Nat,(∀ i∈l,i<ks.length)->aE K G (l.map (mk∘fun i=>ks.getD i d0)) (l.map fun i=>ys.getD i .non):=by
  intro l;induction l with
  | nil=>intro _;rfl
  | cons i l ih =>
   intro b;have hi:=b i Ab;obtain⟨v,e1,e2⟩:=h.get (i:=i) (d:=mk (ks.getD i d0)) (by simp[hi])
   exact⟨_,_,rfl,by show Rep K G (mk (ks.getD i d0)) (ys.getD i .non);rw[show ys.getD i .non=v by simp[e1]];exact e2,ih fun j hj=>b j (Ac _ hj)⟩
 exact go q.toList bd
end
def vI (a:FE):FE:=fun ρ=>do
 let x ← a ρ
 let ds ← asS x.d
 let ns ← cZ ds
 if ns.length<64 then .ok ⟨.tmp,true,.lst ((Srt.srt Srt.ix ns).map D.int)⟩ else .stk
theorem aAk:bootBuiltins "sorted" = some (.builtin "sorted"):=by decide +kernel
theorem aQu (hg:Gl X "sorted")(hm:X.mg "sorted" = none)(ha:PE X a (tE X.K P f))(he:starEach [a] X.env=[(false,eval a X.env)]:=by rfl):PE X (.Call (.Name "sorted" p) [a] [] pos) (tE X.K P (vI f)):=by
 refine PE.imp (iX aGu hg hm aAk (aA ha aO he) (he:=he)) ?_
 intro σ H Q h;refine sX h ?_
 intro H0 B ρ v H' r d0 d g s h;cases e:asS r.d with
 | stk=>simp[e]at h
 | exc x=>exact(lV e).elim
 | ok ds =>
  simp only[e,R.ok_bind]at h;cases e2:cZ ds with
  | stk=>simp[e2]at h
  | exc x=>exact(fK e2).elim
  | ok ns =>
   simp only[e2,R.ok_bind]at h;by_cases few:ns.length<64
   · rw[if_pos few]at h
     obtain⟨a,xs,h1,h2,h3⟩:=g.seq e;have hx:=aE.ints e2 h3;subst hx;refine⟨a,ns,by rw[h1],h2.imp .inl fun z=>.inl (.inl z),few,fun q iq u l hl=>h _ _ (aD.upd_new hl) (gV d s hl ?_)⟩
     exact aE.pick D.int Srt.iK (aE.map_ints ns) iq u
   · rw[if_neg few]at h;exact h.elim
def mkP (k:List Int×Int):D:=.tup [.tup (k.1.map D.int),.int k.2]
def asP:D->R (List Int×Int)
 | .tup [.tup ds,.int n]=>do
  let k ← cZ ds
  .ok (k,n)
 | _=>.stk
def fN:List D->R (List (List Int×Int))
 | []=>.ok []
 | d :: r=>do
  let i ← asP d
  let l ← fN r
  .ok (i :: l)
theorem aBi:∀ {ds:List D} {l:List Int},cZ ds=.ok l->ds=l.map D.int
 | [],l,h=>by simp[cZ]at h;subst h;rfl
 | d :: r,l,h=>by
  simp only[cZ]at h;cases e:asI d with
  | stk=>simp[e]at h
  | exc y=>exact(cM e).elim
  | ok i =>
   cases e2:cZ r with
   | stk=>simp[e,e2]at h
   | exc y=>exact(fK e2).elim
   | ok l' =>
    simp only[e,e2,R.ok_bind,R.ok.injEq]at h;subst h;rw[dI e,aBi e2];rfl
theorem aQw {d:D}{k:List Int×Int}(h:asP d=.ok k):d=mkP k:=by
 unfold asP at h;split at h
 · rename_i ds n
   cases e:cZ ds with
   | stk=>simp[e]at h
   | exc y=>exact(fK e).elim
   | ok l =>
    simp only[e,R.ok_bind,R.ok.injEq]at h;subst h;rw[aBi e];rfl
 · cases h
theorem aEy {d:D}{x:Xc}(h:asP d=.exc x):False:=by
 unfold asP at h;split at h
 · rename_i ds n
   cases e:cZ ds with
   | stk=>simp[e]at h
   | exc y=>exact(fK e).elim
   | ok l=>simp[e]at h
 · cases h
theorem nC {x:Xc}:∀ {ds:List D},fN ds=.exc x->False
 | [],h=>by simp[fN]at h
 | d :: r,h=>by
  simp only[fN]at h;cases e:asP d with
  | stk=>simp[e]at h
  | exc y=>exact aEy e
  | ok i =>
   cases e2:fN r with
   | stk=>simp[e,e2]at h
   | exc y=>exact nC e2
   | ok l=>simp[e,e2]at h
theorem vP:∀ {ds:List D} {l:List (List Int×Int)},fN ds=.ok l->ds=l.map mkP
 | [],l,h=>by simp[fN]at h;subst h;rfl
 | d :: r,l,h=>by
  simp only[fN]at h;cases e:asP d with
  | stk=>simp[e]at h
  | exc y=>exact(aEy e).elim
  | ok i =>
   cases e2:fN r with
   | stk=>simp[e,e2]at h
   | exc y=>exact(nC e2).elim
   | ok l' =>
    simp only[e,e2,R.ok_bind,R.ok.injEq]at h;subst h;rw[aQw e,vP e2];rfl
theorem pI:∀ ns:List Int,D.imms (ns.map D.int)=true
 | []=>rfl
 | n :: ns=>by simp[D.imms,D.imm,pI ns]
theorem sF:∀ ks:List (List Int×Int),D.imms (ks.map mkP)=true
 | []=>rfl
 | k :: ks=>by simp[mkP,D.imms,D.imm,pI,sF ks]
theorem aQ0 {K:PySem.W.Frag}{G H:Hp}(sm:aD G H){ks:List (List Int×Int)}{ys:List V}(h:aE K G (ks.map mkP) ys):PrV H ys ks:=by
 refine⟨by rw[←h.length,Ad],fun i k hk=>?_⟩
 obtain⟨v,e1,e2⟩:=h.get (i:=i) (d:=mkP k) (by simp[hk])
 obtain⟨q,xs,rfl,e3,x1,xr,rfl,⟨b,zs,rfl,e4,e5⟩,x2,xr2,rfl,e6,e7⟩:=e2;have e8:xr2=[]:=e7;have e9:x2=.int k.2:=e6;subst e8 e9;have ez:=aE.ints (show cZ (k.1.map D.int)=.ok k.1 from ?_) e5
 · subst ez
   exact⟨q,b,e1,sm _ _ e3,sm _ _ e4⟩
 · generalize k.1=l
   induction l with
   | nil=>rfl
   | cons n l ih=>simp[cZ,asI,ih]
def wT (a:FE):FE:=fun ρ=>do
 let x ← a ρ
 let ds ← asL x.d
 let ks ← fN ds
 if ks.length<64 then .ok ⟨.tmp,true,.lst ((Srt.srt Srt.px ks).map mkP)⟩ else .stk
theorem aPw (hu:X.A.units+64<cLine)(hg:Gl X "sorted")(hm:X.mg "sorted" = none)(ha:PE X a (tE X.K P f))(he:starEach [a] X.env=[(false,eval a X.env)]:=by rfl):PE X (.Call (.Name "sorted" p) [a] [] pos) (tE X.K P (wT f)):=by
 refine PE.imp (iX (aF1 hu) hg hm aAk (aA ha aO he) (he:=he)) ?_
 intro σ H Q h;refine sX h ?_
 intro H0 B ρ v H' r d0 d g s h;cases e:asL r.d with
 | stk=>simp[e]at h
 | exc x=>exact(eF e).elim
 | ok ds =>
  simp only[e,R.ok_bind]at h;cases e2:fN ds with
  | stk=>simp[e2]at h
  | exc x=>exact(nC e2).elim
  | ok ks =>
   simp only[e2,R.ok_bind]at h;by_cases few:ks.length<64
   · rw[if_pos few]at h
     obtain⟨a,xs,h1,h2,h3⟩:=g.list (dE e);have ed:=vP e2;subst ed;have ln:=h3.length;rw[Ad]at ln;refine⟨a,xs,ks,by rw[h1],.inl h2,aQ0 fV h3,by omega,fun q iq u l hl=>h _ _ (aD.upd_new hl) (gV d s hl ?_)⟩
     have r1:=aE.pick mkP Srt.kX h3 iq u;cases hf:r.fr with
     | true=>rw[hf]at r1;exact r1
     | false=>rw[hf]at r1;exact aE.imm d.sam (sF _) r1
   · rw[if_neg few]at h;exact h.elim
end Mir
namespace Mir
open PySem L2
variable {X:Cx}{P:XP}{a b c e:Expr}{es:List Expr}{f g:FE}{fs:FEs}{pos p:Pos}
theorem aMy {K:PySem.W.Frag}{H0 H1 Hf H2 H3:Hp}{B:Addr->Prop}{p:Addr}{ds:List D}{vs:List V}(sam:aD H0 H1)(bnd:∀ b,B b->∃ o,H1 b=some o/\stab o=false)
 (up:∀ b o,H1 b=some o->stab o=false->∃ o',Hf b=some o'/\stab o'=false) (dn:∀ b o,H2 b=some o->(∀ o',Hf b=some o'->stab o'=true)->H3 b=some o)
 (r:aE K (aU true Hf H2 fun b=>False\/b=p) ds vs):aE K (aU true H0 H3 fun b=>B b\/b=p) ds vs:=by
 refine aE.same (fun b o e=>?_) r
 obtain⟨n,e⟩:=aM.mp e
 have st:∀ o',Hf b=some o'->stab o'=true:=fun o' q=>by
  cases z:stab o' with
  | true=>rfl
  | false=>exact(n (.inr ⟨rfl,o',q,z⟩)).elim
 refine aM.mpr ⟨fun z=>?_,dn b o e st⟩
 rcases z with (z | z) | ⟨_,o',q,z⟩
 · obtain⟨o',q1,q2⟩:=bnd b z
   obtain⟨o2,q3,q4⟩:=up b o' q1 q2;rw[st o2 q3]at q4;cases q4
 · exact n (.inl (.inr z))
 · obtain⟨o2,q3,q4⟩:=up b o' (sam _ _ q) z
   rw[st o2 q3]at q4;cases q4
variable {scope:Scope}{N:List Str}{k:Nat}{tg elt:Expr}{ifs:List Expr}{t:Tg}{fb:FB}
end Mir
namespace Ls
open PySem PySem.Spec PyProof.Rows
section
variable {prog:Program}{w:World}{A:Around}{E:Value->Shared->Prop}{s:Shared}{S t:Addr}{items:Array Value}{ns:List Int}
abbrev met (ns:List Int)(n:Nat):List Int:=firstMet (fun i=>ns.getD i 0) n
end
end Ls
namespace L2
open PySem PySem.Spec PyProof.Rows
section
variable {X:Cx}
def pF (ns:List Int):Nat:=(ns.foldl step_dedup []).length
theorem aEv (ns:List Int):Ls.met ns ns.length=ns.foldl step_dedup []:=by
 show ((Af ns.length).map fun i=>ns.getD i 0).foldl step_dedup []=_
 rw[Srt.vH]
theorem aFz:kS X (.builtin "len") (fun xs H Q=>∃ (a:Addr) (S:Int->Bool) (n:Nat),xs=[.ref a]/\H a=some (.set S n)/\n<1000/\Q (.int n) H):=by
 intro pins s σ H xs us Q I r h;obtain⟨a,S,n,rfl,hq,few,q⟩:=h;obtain⟨u,rfl,rx⟩:=oG r;cases rx;have z:=I.hok a _ hq;obtain⟨o,es,ep,t,z1,z2,z3,_,_,_,z4,z5⟩:=(show s.heap.SetOf (intKind X.prog X.w) a S n from z)
 refine call_len_set z1 z2 z3 z4 (by rw[z5];omega) ⟨.int n,H,I.tok _,⟨_,by rw[z5]⟩,q⟩
theorem aD5 (ns:List Int):pF ns<=ns.length:=by
 have:=firstMet_length_le (fun i=>ns.getD i 0) ns.length
 rw[show firstMet (fun i=>ns.getD i 0) ns.length=_ from aEv ns]at this
 exact this
end
end L2
namespace Mir
open PySem L2
variable {X:Cx}{P:XP}{a b c e:Expr}{es:List Expr}{f g:FE}{fs:FEs}{pos p:Pos}
def aHq (a b:FE):FE:=fun ρ=>do
 let x ← a ρ
 let y ← b ρ
 let i ← asT x.d
 let j ← asT y.d
 if i.length+j.length<=sizeLine then .ok ⟨.shr,x.fr&&y.fr,.tup (i++j)⟩ else .stk
end Mir
namespace Mir
open PySem L2
def aUa:D->Bool
 | .lst es=>D.imms es
 | _=>false
theorem aKz {d:D}(h:aUa d=true):∃ es,d=.lst es/\D.imms es=true:=by
 cases d<;>first | exact⟨_,rfl,h⟩ | cases h
theorem aE.lil {K:PySem.W.Frag}{G G':Hp}(s:∀ b o,G b=some o->stab o=true->G' b=some o):∀ {ds:List D} {vs:List V},ds.all aUa=true->(∀ b xs,V.ref b∈vs->Rd G b (.lst xs)->Rd G' b (.lst xs))->aE K G ds vs->aE K G' ds vs
 | [],_,_,_,h=>h
 | d :: r,_,i,l,⟨x,xr,h1,h2,h3⟩=>by
  rw[List.all_cons,Df]at i;obtain⟨es,rfl,ie⟩:=aKz i.1;obtain⟨a,xs,e1,e2,e3⟩:=h2;subst h1;refine⟨x,xr,rfl,⟨a,xs,e1,l a xs (by rw[e1];exact Ab) e2,aE.stb s ie e3⟩,aE.lil s i.2 (fun b ys q=>l b ys (Ac _ q)) h3⟩
theorem Rd.raw {G:Hp}{a:Addr}{xs:List V}(h:Rd G a (.lst xs)):∃ o,G a=some o/\stab o=false:=by
 rcases h with h | ⟨o,h⟩
 · exact⟨_,h,rfl⟩
 · exact⟨_,h,rfl⟩
end Mir
namespace Mir
open PySem L2
variable {X:Cx}{P:XP}{a b c e:Expr}{es:List Expr}{f g:FE}{fs:FEs}{pos p:Pos}
def aI7 (a:FE)(lo hi:FO):FE:=fun ρ=>do
 let x ← a ρ
 let l ← lo ρ
 let h ← hi ρ
 let ds ← asT x.d
 .ok ⟨.shr,x.fr,.tup (mQ ds l h)⟩
end Mir
namespace Mir
open PySem L2
variable {X:Cx}{P:XP}{a b c e:Expr}{es:List Expr}{f g:FE}{fs:FEs}{pos p:Pos}
def aVd (a:FE):FE:=fun ρ=>do
 let x ← a ρ
 let ds ← asT x.d
 let l ← cZ ds
 .ok (sc (.int l.sum))
end Mir
namespace L2
open PySem PySem.Spec PyProof.Rows
def ItK (a:Addr)(o:Obj)(kvs:List (List Key×V))(bs:List Addr):It :=
 ⟨fun i H=>H a=some (.frz o (.dT kvs))/\i<kvs.length,fun i H v H'=>H'=H/\∃ b,v=.ref b/\bs[i]?=some b,fun i H=>H a=some (.frz o (.dT kvs))/\kvs.length<=i⟩
theorem aTe {P:Program}{w:World}{A:Around}{E:Value->Shared->Prop}{s:Shared}{it d:Addr}{i n ep:Nat}{Q:Value->Shared->Prop}(ho:s.heap.get? it=some (Dk.krc d i n ep))(q:Q (.ref it) s):wpAny (model P w) A (pyIter (.ref it)) Q E s:=by
 have ty:s.TypeIs (.ref it) "dict_keyiterator":=⟨_,ho,rfl⟩;refine wpAny_pyIter_slot ty F.slot_dict_keyiterator_iter (wpAny_call_entry F.slot_dict_keyiterator_iter ty F.entry_dict_keyiterator_iter ?_ (F.args_dict_keyiterator_iter_1 _))
 exact wpAny_pure ⟨.ref it,rfl,"dict_keyiterator",_,ty,F.slot_dict_keyiterator_next.lookup,q⟩
theorem aGs {P:Program}{w:World}{K:PySem.W.Frag}{tg:Expr}{it a:Addr}{o:Obj}{kvs:List (List Key×V)}{es:Array DictEntry}{ep:Nat}{bs:List Addr}(hd:o.data=.dict es ep)(hb:es.toList.map (·.key)=bs.map Value.ref):Turn P w K tg (ItK a o kvs bs) [it] it (fun i h=>h.get? it=some (Dk.krc a i es.size ep)) where
 mem:=by simp
 obj:=fun i h e c hc=>by
  have z:c=it:=by simpa using hc
  subst z;exact⟨_,e,fun v z=>nomatch z⟩
 keep:=fun i h h' e kp=>kp _ (by simp) _ e
 item:=by
  intro X hP hw hK hc i pins s σ H E I hf st hg;subst hP hw hK;obtain⟨x,sz,_,get⟩:=aUz I hg.1 hd;have hlt:i<kvs.length:=hg.2;obtain⟨ky,b,g1,g2,g3,g4⟩:=get i kvs[i] (Ae hlt)
  have hbi:bs[i]?=some b:=by
   have:(es.toList.map (·.key))[i]?=(bs.map Value.ref)[i]?:=by rw[hb]
   rw[Ao,Ao,Array.getElem?_toList,g1]at this;cases q:bs[i]? with
   | none=>rw[q]at this;cases this
   | some c=>rw[q]at this;simp[g2]at this;rw[this]
  obtain⟨f0,f1,f2,f3,f4,f5⟩:=hf it (by simp)
  refine Dk.nxt st rfl (Dk.aV7 st x g1 fun h' e u=>⟨_,rfl,_,rfl,?_⟩)
  have I1:Inv X pins σ H { s with heap:=h' }:=I.turned (t':=s.toks) (fun c o hc e=>u.extBut c o hc e) f0 f1 f3 f4 f5
  exact aH2 (s:={ s with heap:=h' }) e rfl rfl (by decide) ⟨.ref b,H,I1,by rw[g2];rfl,⟨rfl,b,rfl,hbi⟩,e,fun c hc'=>(hf c hc').1⟩
 done:=by
  intro X hP hw hK hc i pins s σ H E I hf st hg;subst hP hw hK;obtain⟨x,sz,_,get⟩:=aUz I hg.1 hd;obtain⟨f0,f1,f2,f3,f4,f5⟩:=hf it (by simp)
  refine Dk.nxt st rfl (Dk.dry (show X.A.in1.handled=none from I.ok.hd hc) st x (by rw[sz];exact hg.2) fun h' ex u e1 e2 eb=>⟨ex,u,rfl,e1,e2,rfl,I.turned (t':=s.toks) (fun c u hc' q=>eb c u hc' q) f0 f1 f3 f4 f5⟩)
 self:=fun _ _ _ _ _ e h=>aTe e h
def aTk (td:TE):TI:=fun σ H R=>td σ H fun x H1=>∃ a kvs,x=.ref a/\((H1 a=some (.dT kvs)/\∀ o bs,KyA H1 bs kvs->R (ItK a o kvs bs) (upd H1 a (.frz o (.dT kvs))))\/∃ o,H1 a=some (.frz o (.dT kvs))/\∀ bs,KyA H1 bs kvs->R (ItK a o kvs bs) H1)
theorem aMa {X:Cx}{tg e:Expr}{td:TE}(he:PE X e td):PI X tg e (aTk td):=by
 intro pins s σ H R I h;refine thn (he pins s σ H _ I h) fun v s1 ⟨x,H1,I1,r1,a,kvs,ex,q1⟩=>?_
 subst ex;obtain rfl:v=Value.ref a:=r1
 obtain⟨o,H2,I2,h2,q2⟩:∃ o H2,Inv X pins σ H2 s1/\H2 a=some (.frz o (.dT kvs))/\∀ bs,KyA H1 bs kvs->R (ItK a o kvs bs) H2:=by
  rcases q1 with ⟨q,f⟩ | ⟨o,q,f⟩
  · obtain⟨o,ho⟩:=(I1.hok a _ q).there
    exact⟨o,_,I1.ice q ho,aX,f o⟩
  · exact⟨o,H1,I1,q,f⟩
 have rd:Rd H1 a (.dT kvs):=q1.elim (fun z=>.inl z.1) fun⟨o,z,_⟩=>.inr ⟨o,z⟩;have ho:s1.heap.get? a=some o:=(I2.hok a _ h2).1;obtain⟨es,ep,bs,x1,x2,x3,x4,x5⟩:=aLi I1 rd ho;have en:Dk.Ent s1.heap a es ep:=⟨o,ho,x1,x2⟩;refine Dk.aSe x5 en ?_
 have fr:=I2.hok.fresh (Am _)
 exact⟨_,[_],_,_,H2,rfl,I2.kept (t':=s1.toks) fun b u q=>Ag _ q,aGs x2 x3,Bb _ rfl,fun c hc'=>by
  rw[As.mp hc']
  exact I2.fpOk (Am _) fr,q2 bs x4⟩
end L2
namespace Mir
open PySem L2
variable {X:Cx}{P:XP}{a b c e:Expr}{es:List Expr}{f g:FE}{fs:FEs}{pos p:Pos}
def pW (k:List Int):D:=.tup (k.map .int)
def aC1 (i k:Nat)(tg:Tg)(fb:FB):FE:=fun ρ=>match ρ[i]? with
 | some (some ⟨_,_,.dct ks ds⟩)=>do
  let y ← fL tg fb false (Aw k none++[some ⟨.shr,false,.dct ks ds⟩]) (ks.map pW)
  if D.imms ds=true/\ks.length<=sizeLine/\y.1=true then .ok ⟨.tmp,true,.lst y.2⟩ else .stk
 | _=>.stk
theorem aGa {K:PySem.W.Frag}{Hf:Hp}{a:Addr}{o:Obj}{kvs:List (List Key×V)}{bs:List Addr}{ks:List (List Int)}(h:Hf a=some (.frz o (.dT kvs)))(hb:KyA Hf bs kvs)(hk:cH ks kvs) :
 uF K Hf Hf (fun _=>False) (ItK a o kvs bs) ⟨true,false,ks.map pW⟩:=by
 refine⟨fun c=>c=a,fun _ c _ z=>z,fun H2 B2 j1 j2 j3 j4 j5 i=>?_⟩
 have h2:=j1 a _ rfl h;have l1:kvs.length=ks.length:=by have:=congrArg Hd hk;simpa using this
 refine⟨fun hi=>⟨h2,by show kvs.length<=i;have:(ks.map pW).length<=i:=hi;rw[Ad]at this;omega⟩,fun d hd=>?_⟩
 have hlt:i<kvs.length:=by
  have:=(Bl.mp hd).1
  have t2:i<(ks.map pW).length:=this;rw[Ad]at t2;omega
 refine⟨⟨h2,hlt⟩,fun x H3 y=>?_⟩
 obtain⟨e0,b,e1,e4⟩:=y;subst e0 e1;have hk1:ks[i]?=some ks[i]:=Ae (by omega)
 have hv:kvs[i]?=some kvs[i]:=Ae hlt
 have pk:kvs[i].1=ks[i].map Sum.inl:=by
  have:(kvs.map (·.1))[i]?=(ks.map (·.map Sum.inl))[i]?:=by rw[show kvs.map (·.1)=_ from hk]
  rw[Ao,Ao,hv,hk1]at this;simpa using this
 have ed:d=pW ks[i]:=by
  have hd':(ks.map pW)[i]?=some d:=hd;rw[Ao,hk1]at hd';exact(Cw.inj hd').symm
 subst ed;have fb:Hf b=some (.tup (ks[i].map V.int)):=by rw[hb.2 i b _ e4 hv,pk,aL1]
 have hb2:H3 b=some (.tup (ks[i].map V.int)):=j2 b _ fb fun z=>z;refine⟨aD.refl _,b,_,rfl,aM.mpr ⟨fun z=>?_,hb2⟩,aE.map_ints _⟩
 rcases z with z | ⟨z,_⟩
 · rcases j3 b z with q | q
   · exact q
   · rw[fb]at q;cases q
 · cases z
theorem aLu {K:PySem.W.Frag}{H:Hp}{σ:St}{i:Nat}{v:V}{d:D}(hv:σ[i]?=some (some v))(r:Rep K (aU false H H fun _=>False) d v):DenE K H H (fun _=>False) σ ((σ.map fun _=>none).set i (some ⟨.shr,false,d⟩)) :=
 ⟨by simp,aD.refl _,fun _ h=>h.elim,fun j e h=>by
  by_cases z:i=j
  · subst z
    have lt:i<(σ.map fun _=>(none:Option Res)).length:=by rw[Ad];exact(Bl.mp hv).1
    rw[Bd lt]at h;cases h;exact⟨v,hv,r⟩
  · rw[Ay z,Ao]at h
    cases q:σ[j]?<;>rw[q]at h<;>simp at h⟩
variable {scope:Scope}{N:List Str}{k i:Nat}{tg elt:Expr}{ifs:List Expr}{t:Tg}{fb:FB}
theorem aLd {x:Str}{np:Pos}(hc:X.calm=true)(C:CompOk X scope N k [i])(hN:X.N[i]?=some x)(hv:Vis X.env.scope x)(hg:∀ fp s H,PG (cF X scope N fp s H) tg (gOf X.K t))(gl:uX k (gOf X.K t))(hb:∀ fp s H,PB (cF X scope N fp s H) ifs elt (tBm X.K XP0 fb))
 (hd1:(x==("__debug__":Str))=false:=by decide) (hd2:(x==("__classdict__":Str))=false:=by decide) (hs:∀ y,foldedSetIterable (.Name x np) X.env y=pure y:=by intro _;rfl):PE X (.ListComp elt [⟨tg,.Name x np,ifs,0⟩] scope pos) (tE X.K P (aC1 i k t fb)):=by
 refine PE.imp (aNl (aEi hc C (aMa (pO hN hv hd1 hd2)) hg gl hb hs)) ?_
 rintro σ H Q ⟨H0,B,ρ,d,h⟩
 unfold aC1 at h;show ∃ v,σ[i]?=some (some v)/\∃ a kvs,v=.ref a/\_
 cases e1:ρ[i]? with
 | none=>rw[e1]at h;exact h.elim
 | some ro =>
  cases ro with
  | none=>rw[e1]at h;exact h.elim
  | some r =>
   obtain⟨v,hv,gd⟩:=d.ent i r e1;have g1:=gd.res d.sam;obtain⟨rk,rf,rd⟩:=r;rw[e1]at h;cases rd with
   | dct ks ds =>
    dsimp only at h
    cases e3:fL t fb false (Aw k none++[some ⟨.shr,false,.dct ks ds⟩]) (ks.map pW) with
    | stk=>simp[e3]at h
    | exc x=>exact(nL e3).elim
    | ok y =>
     simp only[e3,R.ok_bind]at h;by_cases hz:D.imms ds=true/\ks.length<=sizeLine/\y.1=true
     · rw[if_pos hz]at h
       obtain⟨a',kvs,h1,h2,h3,h4⟩:=g1.dict rfl;have ll:(ks.map pW).length<=sizeLine:=by rw[Ad];exact hz.2.1
       refine⟨v,hv,a',kvs,h1,?_⟩
       have il:i<σ.length:=(Bl.mp hv).1
       have core:∀ (Hf:Hp) (o:Obj) (bs:List Addr),Hf a'=some (.frz o (.dT kvs))->(∀ b u,H b=some u->stab u=true->Hf b=some u)->KyA Hf bs kvs->∀ {Qf:Hp->Prop} acc,Hf acc=none->(∀ H2,aD Hf H2->aI X.K Hf Hf H2 (fun _=>False) (.ref acc) ⟨.tmp,true,.lst y.2⟩->Qf H2)->tG (ItK a' o kvs bs) k [i] (gOf X.K t) (tBm X.K XP0 fb) σ acc Qf Hf:=fun Hf o bs q1 qs q2 Qf acc q3 q4=>by
        have rp:Rep X.K (aU false Hf Hf fun _=>False) (.dct ks ds) v:=by
         refine⟨a',kvs,h1,.inr ⟨o,aM.mpr ⟨fun z=>?_,q1⟩⟩,h3,aE.stb (fun b u e st=>aM.mpr ⟨fun z=>?_,qs b u (aM.mp e).2 st⟩) hz.1 h4⟩
         · rcases z with z | ⟨z,_⟩
           · exact z
           · cases z
         · rcases z with z | ⟨z,_⟩
           · exact z
           · cases z
        refine zB (w:=⟨true,false,ks.map pW⟩) (aLu hv rp) (aD.refl _) (aGa q1 q2 h3) (y:=y) (by
         rw[show dP k [i] ((σ.map fun _=>none).set i (some ⟨.shr,false,.dct ks ds⟩))=Aw k none++[some ⟨.shr,false,.dct ks ds⟩] by simp[dP,il]]
         exact e3) ll q3 fun H2 s2 g2=>q4 H2 s2 ?_
        rw[hz.2.2]at g2;exact g2
       rcases h2 with h2 | ⟨o,h2⟩
       · refine .inl ⟨h2,fun o bs kb acc hacc=>?_⟩
         have nz:∀ {b:Addr} {u:HO},H b=some u->b≠a'->upd H a' (.frz o (.dT kvs)) b=some u:=fun e n=>by rw[aH n];exact e
         have kb':KyA (upd H a' (.frz o (.dT kvs))) bs kvs:=⟨kb.1,fun i b p q1 q2=>nz (kb.2 i b p q1 q2) fun z=>by have:=kb.2 i b p q1 q2;rw[z,h2]at this;cases this⟩
         refine core _ o bs aX (fun b u e st=>nz e fun z=>by rw[z,h2]at e;cases e;cases st) kb' acc hacc fun H2 s2 g2=>?_
         have ha2:H2 a'=some (.frz o (.dT kvs)):=s2 _ _ aX;have na:acc≠a':=fun z=>by rw[z,aX]at hacc;cases hacc
         refine⟨upd H2 a' (.dT kvs),.inr ⟨a',o,_,ha2,fun o' u' z=>?_,rfl⟩,?_⟩
         · rw[h2]at z;cases z
         · have sm:aD H (upd H2 a' (.dT kvs)):=fun b u e=>by
            by_cases z:b=a'
            · rw[z,h2]at e;cases e;rw[z];exact aX
            · rw[aH z];exact s2 _ _ (nz e z)
           obtain⟨q,w,z1,z2,z3,z4⟩:=g2;cases z1;obtain⟨vs,z5,z6⟩:=z4;subst z5;have hacc1:H acc=none:=by rw[aH na]at hacc;exact hacc
           refine h _ _ sm ⟨acc,_,rfl,hacc1,by rw[aH na];exact z3,vs,rfl,aMy d.sam d.bnd (fun b u q1 q2=>?_) (fun b u q1 q2=>?_) z6⟩
           · by_cases z:b=a'
             · subst z;exact⟨_,aX,rfl⟩
             · exact⟨u,nz q1 z,q2⟩
           · by_cases z:b=a'
             · subst z;have:=q2 _ aX;cases this
             · rw[aH z];exact q1
       · refine .inr ⟨o,h2,fun bs kb acc hacc=>?_⟩
         refine core _ o bs h2 (fun b u e _=>e) kb acc hacc fun H2 s2 g2=>⟨H2,.inl rfl,?_⟩
         obtain⟨q,w,z1,z2,z3,z4⟩:=g2;cases z1;obtain⟨vs,z5,z6⟩:=z4;subst z5;exact h _ _ s2 ⟨acc,_,rfl,hacc,z3,vs,rfl,aMy d.sam d.bnd (fun b u q1 q2=>⟨u,q1,q2⟩) (fun b u q1 q2=>q1) z6⟩
     · rw[if_neg hz]at h;exact h.elim
   | _=>exact h.elim
end Mir
namespace L2
open PySem PySem.Spec PyProof.Rows
section
variable {X:Cx}
theorem aGn (hc:X.calm=true):kS X (.type "set") (fun xs H Q=>∃ (a:Addr) (ns:List Int),xs=[.ref a]/\SqL X.K H a (ns.map V.int)/\ns.length<1000/\∀ l S,H l=none->Q (.ref l) (upd H l (.set S (pF ns)))):=by
 intro pins s σ H xs us Q I r h;obtain⟨a,ns,rfl,hq,few,q⟩:=h;obtain⟨u,rfl,rx⟩:=oG r;cases rx;obtain⟨its,rv,pl,_⟩:=I.list hq;have hi:=pR rv;have ln:its.toArray.size=ns.length:=by rw[Aq,←rv.length,Ad]
 refine PySem.call_set_list (ns:=ns) (I.ok.hd hc) pl.isList (by simpa using hi) (by rw[ln];unfold scanBound;omega) fun h' tk z1 z2=>?_
 rw[ln,show firstMet (fun i=>ns.getD i 0) ns.length=_ from aEv ns]at z1
 exact⟨.ref s.heap.objs.size,_,I.laid (t':=tk) (o:=.set _ (pF ns)) (fun b o e=>z2 b o (Ap e) e) (Am _) z1,rfl,q _ _ I.fresh⟩
end
end L2
namespace Mir
open PySem L2
variable {X:Cx}{P:XP}{a b c e:Expr}{es:List Expr}{f g:FE}{fs:FEs}{pos p pos2 p2:Pos}
def wN (a:FE):FE:=fun ρ=>do
 let x ← a ρ
 let ds ← asL x.d
 let ns ← cZ ds
 if ns.length<1000 then .ok (sc (.int (pF ns))) else .stk
theorem aNb (hc:X.calm=true)(hg:Gl X "len")(hm:X.mg "len" = none)(hg2:Gl X "set")(hm2:X.mg "set" = none)(ha:PE X a (tE X.K P f))(he:starEach [a] X.env=[(false,eval a X.env)]:=by rfl)
 (he2:starEach [.Call (.Name "set" p2) [a] [] pos2] X.env=[(false,eval (.Call (.Name "set" p2) [a] [] pos2) X.env)]:=by rfl):PE X (.Call (.Name "len" p) [.Call (.Name "set" p2) [a] [] pos2] [] pos) (tE X.K P (wN f)):=by
 refine PE.imp (iX aFz hg hm PySem.boot_len (nQ (pK (aGn hc) hg2 hm2 (by decide +kernel) (aA ha aO he) (he:=he)) xB he2) (he:=he2)) ?_
 intro σ H Q h
 have main:tCB (fun vs H1 Q=>∃ (a:Addr) (ns:List Int),vs=[.ref a]/\SqL X.K H1 a (ns.map V.int)/\ns.length<1000/\∀ l S,H1 l=none->∃ (a:Addr) (S':Int->Bool) (n:Nat),[V.ref l]=[.ref a]/\upd H1 l (.set S (pF ns)) a=some (.set S' n)/\n<1000/\Q (.int n) (upd H1 l (.set S (pF ns)))) (tAs X.K P [f]) σ H Q:=by
  refine sX h ?_
  intro H0 B ρ v H' r d0 d g s h;cases e:asL r.d with
  | stk=>simp[e]at h
  | exc x=>exact(eF e).elim
  | ok ds =>
   cases e2:cZ ds with
   | stk=>simp[e,e2]at h
   | exc x=>exact(fK e2).elim
   | ok ns =>
    simp only[e,e2,R.ok_bind]at h;by_cases few:ns.length<1000
    · rw[if_pos few]at h
      obtain⟨a,xs,h1,h2,h3⟩:=g.list (dE e);have hx:=aE.ints e2 h3;subst hx;refine⟨a,ns,by rw[h1],.inl h2,few,fun l S hl=>⟨l,S,pF ns,rfl,aX,Cv (aD5 ns) few,h _ _ (aD.upd_new hl) (aI.sc (show Rep _ _ (.int _) _ from rfl))⟩⟩
    · rw[if_neg few]at h;exact h.elim
 exact main
end Mir
namespace Mir
open PySem L2
variable {X:Cx}{P:XP}{a b c e:Expr}{es:List Expr}{f g:FE}{fs:FEs}{pos p:Pos}
theorem aJr:∀ c:Nat,(dU c).Nodup
 | 0=>by decide +kernel
 | _+1=>show (dU 1).Nodup by decide +kernel
theorem aEt:∀ {ns:List Str} {fs:List (Str×V)} {i:Nat} {n:Str} {v:V},fs.map (·.1)=ns->ns.Nodup->ns[i]?=some n->(fs.map (·.2))[i]?=some v->fs.lookup n=some v
 | _,[],_,_,_,_,_,_,h=>by simp at h
 | [],_ :: _,_,_,_,h,_,_,_=>by simp at h
 | m :: ns,(k,u) :: fs,0,n,v,h1,nd,h2,h3=>by
  simp only[Ai,Gf.injEq]at h1;simp only[List.getElem?_cons_zero,Ai,Cw.injEq]at h2 h3;obtain⟨rfl,h1⟩:=h1;subst h2 h3;simp[El]
 | m :: ns,(k,u) :: fs,i+1,n,v,h1,nd,h2,h3=>by
  simp only[Ai,Gf.injEq]at h1;simp only[List.getElem?_cons_succ,Ai]at h2 h3;obtain⟨rfl,h1⟩:=h1;have hn:n≠k:=fun z=>(Br.mp nd).1 (z▸Ea h2);have hb:(n==k)=false:=by simpa using hn
  rw[Bu,hb];exact aEt h1 (Br.mp nd).2 h2 h3
structure OC (K:PySem.W.Frag)(c:Nat):Prop where
 cl:Cls K (clO K c)
 na:∀ n∈dU c,kU K (clO K c) n
def jF (c i:Nat)(a:FE):FE:=fun ρ=>do
 let x ← a ρ
 match x.d with
 | .obj k ds=>if k=c then (match ds[i]? with
  | some d=>.ok ⟨.shr,x.fr||d.imm,d⟩
  | none=>.stk) else .stk
 | _=>.stk
theorem aAy {n:Str}{c i:Nat}(O:OC X.K c)(ha:PE X a (tE X.K P f))(hn:(dU c)[i]?=some n:=by rfl)(hb:attributeBase a n X.env (eval a X.env)=eval a X.env:=by rfl):PE X (.Attribute a n pos) (tE X.K P (jF c i f)):=by
 refine PE.imp (aQ6 ha hb) ?_
 intro σ H Q h;refine t1 (q:=fun x H1=>∃ a C dx fs v,x=.ref a/\H1 a=some (.ins C dx fs)/\Cls X.K C/\kU X.K C n/\fs.lookup n=some v/\Q v H1) h ?_
 intro H0 B ρ v H' r d g s h;cases k:r.d with
 | obj c' ds =>
  simp only[k]at h;by_cases hc:c'=c
  · subst hc
    rw[if_pos rfl]at h;cases e:ds[i]? with
    | none=>simp[e]at h
    | some d1 =>
     simp only[e]at h;have:=g.shr_of (by rw[k];rfl)
     rw[k]at this;obtain⟨a,dx,fs,rfl,q,nm,re⟩:=this;obtain⟨v1,e1,r1⟩:=re.get e;exact⟨a,_,dx,fs,v1,rfl,(aM.mp q).2,O.cl,O.na n (Ea hn),aEt nm (aJr _) hn e1,h v1 H' (aD.refl _) (Rep.fr d.sam r1)⟩
  · rw[if_neg hc]at h;exact h.elim
 | _=>simp[k]at h
def uJ (c:Nat)(fs:FEs):FE:=fun ρ=>do
 let rs ← evs fs ρ
 let y ← gives rs
 if y.2.length=(dU c).length then .ok ⟨.shr,y.1,.obj c y.2⟩ else .stk
def spI (K:PySem.W.Frag)(c:Nat):Sp:=fun vs H Q _=>∃ x dx us,vs=.ref x :: us/\us.length=(dU c).length/\H x=some (.ins (clO K c) dx [])/\Q .non (upd H x (.ins (clO K c) dx ((dU c).zip us)))
def aEn (Pg:Program)(w:World)(K:PySem.W.Frag)(mg:Str->Option Value)(base:Heap)(k c:Nat):Prop :=
 ∃ (f:Addr) (fd:FuncData),Mk K (clO K c) f/\FnOk Pg w K mg base (CXM Pg w) k f fd ("self" :: dU c) (spI K c)/\mG K fd ("self" :: dU c) []/\mg (aE6 c)=some (.ref (clO K c))
theorem aPs {Pg:Program}{w:World}:aB0 (CXM Pg w) X E0:=fun _ _ _ _ _ _ _ ⟨_,_,_,_,_,_,_,z⟩=>z.elim
theorem aOr {c k:Nat}{x:Str}(m:aEn X.prog X.w X.K X.mg X.base k c)(hr:Room (k+1) X.A)(hg:Gl X x)(ha:PA X (e :: es) (tAs X.K P fs))(hx:aE6 c=x:=by rfl)
 (hdb:(x==("__debug__":Str))=false:=by decide) (he:starEach (e :: es) X.env=(false,eval e X.env) :: starEach es X.env:=by rfl) (hpl:(backTo pos (starEach es X.env)).any (·.1)=false:=by rfl) :
 PE X (.Call (.Name x p) (e :: es) [] pos) (tE X.K P (uJ c fs)):=by
 obtain⟨fi,fd,M,F,b,hm⟩:=m;subst hx;refine PE.imp (aMd (E:=E0) M F hr hg hm b .nil aPs ha hdb he hpl) ?_
 intro σ H Q h;refine tA1 h ?_
 intro H0 B ρ vs H' rs d0 d gs s h;cases e:gives rs with
 | stk=>simp[e]at h
 | exc x=>exact(iO e).elim
 | ok y =>
  simp only[e,R.ok_bind]at h;have r:=gs.gives d0 e;by_cases hz:y.2.length=(dU c).length
  · rw[if_pos hz]at h
    intro x dx hx hdx ne;have hl:vs.length=(dU c).length:=by rw[←r.length];exact hz
    refine⟨x,dx,vs,by rw[De],hl,aX,rfl,?_⟩
    rw[xA]
    have s2:aD H' (upd (upd H' dx (.own x)) x (.ins (clO X.K c) dx ((dU c).zip vs))):=fun b o q=>by
     rw[aH (aZ q hx),aH (aZ q hdx)];exact q
    refine h _ _ s2 ?_
    refine⟨x,dx,_,rfl,aM.mpr ⟨fun z=>?_,aX⟩,List.map_fst_zip (by omega),?_⟩
    · rcases z with z | ⟨_,o,z,_⟩
      · obtain⟨o,q,_⟩:=d.bnd x z
        rw[hx]at q;cases q
      · have:=d.sam x o z
        rw[hx]at this;cases this
    · rw[List.map_snd_zip (by omega)]
      exact aE.same (aP (fun b o q _=>s2 b o q) fun b z=>.inl z) r
  · rw[if_neg hz]at h;exact h.elim
section
variable {Pg:Program}{w:World}{K:PySem.W.Frag}{mg:Str->Option Value}{base:Heap}
theorem aTa {qual:Str}{st:Stmt}{f:Addr}{fd:FuncData}(F:Fun K "__init__" qual st f fd)(S:FnScope ("self" :: dU 1) ("self" :: dU 1) (aN st))(O:OC K 1)
 (hb:∀ (cdv:Value) (A:Around) (outer:List PySem.Env) (s:Shared) (H:Hp) (E:XK),PSs (qS (CXM Pg w) Pg w K mg base ("self" :: dU 1) qual (aN st) f cdv A outer s H E) (eO st) (aLx (aNk K (xK 0) (xK 1) "bottom") (aLx (aNk K (xK 0) (xK 2) "heads") (aNk K (xK 0) (xK 3) "lines")))) :
 FnOk Pg w K mg base (CXM Pg w) 1 f fd ("self" :: dU 1) (spI K 1):=by
 obtain⟨oc,od,kV,doc,pm,an,cdv,ct,osl,rfl,lk,hcd⟩:=F.ex;refine aOw lk hcd S (fun vs H Q E ⟨x,dx,us,e,l,_⟩=>by rw[e];simp[l]) fun A outer s H vs Q E hr ⟨x,dx,us,e,l,hx,q⟩=>⟨_,hb cdv A outer s H E,?_⟩
 match us,l with
 | [u1,u2,u3],_ =>
  subst e
  refine⟨u1,rfl,.ref x,rfl,x,_,dx,[],rfl,hx,O.cl,O.na _ (by decide +kernel),by decide,u2,rfl,.ref x,rfl,x,_,dx,_,rfl,aX,O.cl,O.na _ (by decide +kernel),by show (1:Nat)<1000;decide,
   u3,rfl,.ref x,rfl,x,_,dx,_,rfl,aX,O.cl,O.na _ (by decide +kernel),by show (2:Nat)<1000;decide,?_⟩
  rw[xA,xA];exact q
structure ORaw (K:PySem.W.Frag)(c:Nat)(C f:Addr):Prop where
 ns:Ch K mainGlobals (aE6 c)=some (some (.ref C))
 pg:Gg K C Str.empty=true
 hd:Fy K C=true
 po:Hh K C=true
 sa:Bf K (.ref C) "__setattr__" = some (some (.builtin "object.__setattr__"))
 mkd:Ie K C=true
 ii:Bf K (.ref C) "__init__" = some (some (.ref f))
 fn:PySem.W.isFn K (.ref f)=true
 kc:Ei K (.ref C)=true
theorem ORaw.cl {c:Nat}{C f:Addr}(o:ORaw K c C f):clO K c=C:=by unfold clO;rw[o.ns]
theorem ORaw.oc {c:Nat}{C f:Addr}(o:ORaw K c C f)(na:∀ n∈dU c,Bf K (.ref C) n=some none):OC K c :=
 ⟨by rw[o.cl];exact⟨o.pg,o.hd,o.po,o.sa⟩,fun n hn=>by rw[o.cl];exact na n hn⟩
theorem ORaw.oc1 {C f:Addr}(o:ORaw K 1 C f)(h1:Bf K (.ref C) "bottom" = some none)(h2:Bf K (.ref C) "heads" = some none)(h3:Bf K (.ref C) "lines" = some none):OC K 1:=o.oc fun n hn=>by
 rcases Aj.mp hn with rfl | hn
 · exact h1
 · rcases Aj.mp hn with rfl | hn
   · exact h2
   · rw[As.mp hn];exact h3
theorem ORaw.mkr {c:Nat}{C f:Addr}{fd:FuncData}{h:Heap}(o:ORaw K c C f)(X:K.In h)(G:h.Ns mainGlobals mg)(F:FnOk Pg w K mg base (CXM Pg w) 1 f fd ("self" :: dU c) (spI K c))(b:mG K fd ("self" :: dU c) []):aEn Pg w K mg base 1 c :=
 ⟨f,fd,by rw[o.cl];exact⟨o.mkd,o.ii,o.fn,o.kc⟩,F,b,by rw[o.cl];exact Hr X G o.ns⟩
end
end Mir
namespace Mir
open PySem L2 PySem.Spec PyProof.Rows
variable {X:Cx}{P:XP}{a b c e:Expr}{es:List Expr}{f g:FE}{fs:FEs}{pos p:Pos}
def CF:Int->Int->Bool:=fun _ j=>decide (j≠0)&&decide (j.natAbs.log2<9000)
def pU:=i2E CF (fun i j=>i.fdiv j)
def aTp:Int->Int->Prop:=fun _ j=>j≠0/\j.natAbs.log2<9000
theorem aKg:OpR X (binaryOp .FloorDiv) (rI aTp fun i j=>.int (i.fdiv j)):=opI fun i j _ _ _ _ _ hc q=>floordiv_int hc.1 q (.inl (PyProof.noPylong_of_log2 hc.2))
theorem aJv (ha:PE X a (tE X.K P f))(hb:PE X b (tE X.K P g)):PE X (.BinOp a .FloorDiv b pos) (tE X.K P (pU f g)):=aCy aKg (fun i j h=>by
 unfold CF at h;simp at h;exact h) ha hb
end Mir
namespace Zp
open PySem
abbrev fE (a b c:Value):Obj:={ cls:=.type "tuple",data:=.seq #[a,b,c] }
abbrev jX (f0:Value)(f1:Bool)(TI TO:Addr):Obj:={ cls:=.type "zip",data:=.fields #[f0,.bool f1,.bool false,.ref TI,.ref TO] }
structure Pl3 (z TI TO i1 i2 i3 l1 l2 l3:Addr):Prop where
 nd:[z,TI,TO,i1,i2,i3].Nodup
 ls:∀ l∈[l1,l2,l3],l∉[z,TO,i1,i2,i3]
section
variable {prog:Program}{w:World}{A:Around}{E:Value->Shared->Prop}{s:Shared}{z TI TO i1 i2 i3 l1 l2 l3:Addr}{k:Nat}{xs ys zs:Array Value}
theorem aKl {T:Addr}{a b c x:Value}{j:Nat}{Q:Unit->Shared->Prop}(e:s.heap.get? T=some (fE a b c))
 (q:∀ h',h'.get? T=some { cls:=.type "tuple",data:=.seq ((#[a,b,c]:Array Value).setIfInBounds j x) }->Heap.SameBut T s.heap h'->Q () { s with heap:=h' }):wpAny (model prog w) A (updateSeq T fun r=>r.setIfInBounds j x) Q E s :=
 wpAny_updateSeq e rfl (q _ (by rw[Fd _ e rfl];simp[Obj.mapSeq]) (Heap.SameBut.update ..))
theorem aVs {f0:Value}{f1:Bool}{T:Addr}{Q:Unit->Shared->Prop}(e:s.heap.get? z=some (jX f0 f1 TI TO))(q:∀ h',h'.get? z=some (jX (rawInt T) false TI TO)->Heap.SameBut z s.heap h'->Q () { s with heap:=h' }):wpAny (model prog w) A (Builtin.SmallTypes.ownedTupleHandOut (.ref z) (.ref T)) Q E s:=by
 delta Builtin.SmallTypes.ownedTupleHandOut
 exact wpAny_bind (wpAny_setField_rec e (by simp) fun h1 e1 u1=>wpAny_setField_rec e1 (by simp) fun h2 e2 u2=>q h2 e2 ⟨u2.1.trans u1.1,fun b m=>(u2.2 b m).trans (u1.2 b m)⟩)
theorem aS0 {x y u a b c:Value}{Q:Fin->Shared->Prop}(D:Pl3 z TI TO i1 i2 i3 l1 l2 l3)
 (ho:s.heap.get? z=some (jX .none false TI TO)) (hI:s.heap.get? TI=some (fE (.ref i1) (.ref i2) (.ref i3))) (hO:s.heap.get? TO=some (fE a b c))
 (a1:s.heap.IsListIter i1 l1 k) (a2:s.heap.IsListIter i2 l2 k) (a3:s.heap.IsListIter i3 l3 k) (b1:s.heap.IsList l1 xs) (b2:s.heap.IsList l2 ys) (b3:s.heap.IsList l3 zs) (ex:xs[k]?=some x) (ey:ys[k]?=some y) (eu:zs[k]?=some u)
 (q:∀ h',h'.get? z=some (jX (rawInt s.heap.objs.size) false TI TO)->h'.get? TO=some (fE x y u)->h'.IsListIter i1 l1 (k+1)->h'.IsListIter i2 l2 (k+1)->h'.IsListIter i3 l3 (k+1)->h'.get? s.heap.objs.size=some (fE x y u)->h'.objs.size=s.heap.objs.size+1->Out [z,TO,i1,i2,i3] s.heap h' ->
  Q (.done (.ret (.ref s.heap.objs.size))) { s with heap:=h' }):wpAny (model prog w) A (Builtin.«zip.__next__» ⟨[.ref z],[]⟩) Q E s:=by
 obtain⟨nd,ls⟩:=D;simp only[Br,Aj,Bc,or_false,not_or,not_false_eq_true,Dh,and_true]at nd;obtain⟨⟨n1,n2,n3,n4,n5⟩,⟨n6,n7,n8,n9⟩,⟨n10,n11,n12⟩,⟨n13,n14⟩,n15⟩:=nd;have m1:=ls l1 (by simp)
 have m2:=ls l2 (by simp)
 have m3:=ls l3 (by simp)
 simp only[Aj,Bc,or_false,not_or]at m1 m2 m3;have hd:=show (jX .none false TI TO).data=.fields #[.none,.bool false,.bool false,.ref TI,.ref TO] from rfl
 repeat (first | assumption | (with_reducible refine wpAny_field ho hd rfl ?_) | (with_reducible refine wpAny_seqItems hI rfl ?_) | (with_reducible refine wpAny_setField_rec ho (by simp) fun h1 e1 u1=>?_) | ((fail_if_success with_reducible refine wpAny_bind (wpAny_bind (wpAny_onRaise ?_)));wp_step))
 refine wpAny_bind (wpAny_bind (wpAny_onRaise (wpAny_bind (wpAny_nextOf_list_item (it:=i1) (a1.extBut u1.extBut (Ne.symm n3)) (b1.extBut u1.extBut m1.1) ex fun h2 e2 u2=>wpAny_pure ?_))))
 have o2:h2.get? TO=some (fE a b c):=u2.extBut _ _ n10 (u1.extBut _ _ (Ne.symm n2) hO);repeat (first | assumption | (with_reducible refine wpAny_seqItems o2 rfl ?_) | (with_reducible refine aKl o2 fun h3 e3 u3=>?_) | ((fail_if_success with_reducible refine wpAny_bind (wpAny_bind (wpAny_onRaise ?_)));wp_step))
 have o3:h3.get? TO=some (fE x b c):=e3;refine wpAny_bind (wpAny_bind (wpAny_onRaise (wpAny_bind (wpAny_nextOf_list_item (it:=i2) (((a2.extBut u1.extBut (Ne.symm n4)).extBut u2.extBut (Ne.symm n13)).extBut u3.extBut (Ne.symm n11)) (((b2.extBut u1.extBut m2.1).extBut u2.extBut m2.2.2.1).extBut u3.extBut m2.2.1) ey fun h4 e4 u4=>wpAny_pure ?_))))
 have o4:h4.get? TO=some (fE x b c):=u4.extBut _ _ n11 o3;repeat (first | assumption | (with_reducible refine wpAny_seqItems o4 rfl ?_) | (with_reducible refine aKl o4 fun h5 e5 u5=>?_) | ((fail_if_success with_reducible refine wpAny_bind (wpAny_bind (wpAny_onRaise ?_)));wp_step))
 have o5:h5.get? TO=some (fE x y c):=e5;refine wpAny_bind (wpAny_bind (wpAny_onRaise (wpAny_bind (wpAny_nextOf_list_item (it:=i3) (((((a3.extBut u1.extBut (Ne.symm n5)).extBut u2.extBut (Ne.symm n14)).extBut u3.extBut (Ne.symm n12)).extBut u4.extBut (Ne.symm n15)).extBut u5.extBut (Ne.symm n12)) (((((b3.extBut u1.extBut m3.1).extBut u2.extBut m3.2.2.1).extBut u3.extBut m3.2.1).extBut u4.extBut m3.2.2.2.1).extBut u5.extBut m3.2.1) eu fun h6 e6 u6=>wpAny_pure ?_))))
 have o6:h6.get? TO=some (fE x y c):=u6.extBut _ _ n12 o5;have z6:h6.get? z=some (jX .ellipsis false TI TO):=u6.extBut _ _ n5 (u5.extBut _ _ n2 (u4.extBut _ _ n4 (u3.extBut _ _ n2 (u2.extBut _ _ n3 e1))));repeat (first | assumption | (with_reducible refine wpAny_seqItems o6 rfl ?_) | (with_reducible refine aKl o6 fun h7 e7 u7=>?_) | (with_reducible refine wpAny_seqItems (show h7.get? TO=some (fE x y u) from e7) rfl ?_) | (refine aVs (Ag _ (u7.extBut _ _ n2 z6)) fun h8 e8 u8=>?_) | wp_step)
 have z7:h7.objs.size=s.heap.objs.size:=u7.1.trans (u6.1.trans (u5.1.trans (u4.1.trans (u3.1.trans (u2.1.trans u1.1)))));have zl:s.heap.objs.size≠z:=Gx (Ap ho);have up:∀ c o,c≠z->h7.get? c=some o->h8.get? c=some o:=fun c o hc e=>u8.extBut _ _ hc (Ag _ e);have r1:h7.IsListIter i1 l1 (k+1):=((((e2.extBut u3.extBut (Ne.symm n10)).extBut u4.extBut n13).extBut u5.extBut (Ne.symm n10)).extBut u6.extBut n14).extBut u7.extBut (Ne.symm n10);have r2:h7.IsListIter i2 l2 (k+1):=((e4.extBut u5.extBut (Ne.symm n11)).extBut u6.extBut n15).extBut u7.extBut (Ne.symm n11)
 have r3:h7.IsListIter i3 l3 (k+1):=e6.extBut u7.extBut (Ne.symm n12);have nw:h8.get? h7.objs.size=some (fE x y u):=u8.extBut _ _ (z7▸zl) (Bb h7 rfl);rw[z7]at e8 nw
 have key:=q h8 e8 (up _ _ (Ne.symm n2) e7) (r1.at fun o e=>up _ o (Ne.symm n3) e) (r2.at fun o e=>up _ o (Ne.symm n4) e) (r3.at fun o e=>up _ o (Ne.symm n5) e) nw (u8.1.trans ((Cd ..).trans (by rw[z7]))) fun c o hc e=>by
  simp only[Aj,Bc,or_false,not_or]at hc;obtain⟨c1,c2,c3,c4,c5⟩:=hc;exact up c o c1 (u7.extBut _ _ c2 (u6.extBut _ _ c5 (u5.extBut _ _ c2 (u4.extBut _ _ c4 (u3.extBut _ _ c2 (u2.extBut _ _ c3 (u1.extBut _ _ c1 e)))))))
 show Q (.done (.ret (.ref h7.objs.size))) { s with heap:=h8 }
 rw[z7];exact key
theorem aVl {a b c:Value}{Q:Fin->Shared->Prop}(hh:A.handled=none)(D:Pl3 z TI TO i1 i2 i3 l1 l2 l3)
 (ho:s.heap.get? z=some (jX .none false TI TO)) (hI:s.heap.get? TI=some (fE (.ref i1) (.ref i2) (.ref i3))) (hO:s.heap.get? TO=some (fE a b c))
 (a1:s.heap.IsListIter i1 l1 k) (a2:s.heap.IsListIter i2 l2 k) (a3:s.heap.IsListIter i3 l3 k) (b1:s.heap.IsList l1 xs) (b2:s.heap.IsList l2 ys) (b3:s.heap.IsList l3 zs) (no:xs.size<=k\/ys.size<=k\/zs.size<=k)
 (q:∀ h' e o,h'.get? e=some o->o.cls=.type "StopIteration"->Out [z,TO,i1,i2,i3] s.heap h'->E (.ref e) { s with heap:=h' }):wpAny (model prog w) A (Builtin.«zip.__next__» ⟨[.ref z],[]⟩) Q E s:=by
 obtain⟨nd,ls⟩:=D;simp only[Br,Aj,Bc,or_false,not_or,not_false_eq_true,Dh,and_true]at nd;obtain⟨⟨n1,n2,n3,n4,n5⟩,⟨n6,n7,n8,n9⟩,⟨n10,n11,n12⟩,⟨n13,n14⟩,n15⟩:=nd;have m1:=ls l1 (by simp)
 have m2:=ls l2 (by simp)
 have m3:=ls l3 (by simp)
 simp only[Aj,Bc,or_false,not_or]at m1 m2 m3;have hd:=show (jX .none false TI TO).data=.fields #[.none,.bool false,.bool false,.ref TI,.ref TO] from rfl
 have last:∀ (h h':Heap) (e:Addr) (o:Obj),Out [z,TO,i1,i2,i3] s.heap h->h.get? z=some (jX .ellipsis false TI TO)->h.get? e=some o->o.cls=.type "StopIteration"->Heap.SameBut z h h'->E (.ref e) { s with heap:=h' }:=fun h h' e o w1 w2 w3 w4 w5 =>
  q h' e o (w5.extBut _ _ (fun z'=>by rw[z',w2]at w3;cases w3;simp at w4) w3) w4 (w1.then (Out.of w5.extBut (by simp)))
 repeat (first | assumption | (with_reducible refine wpAny_field ho hd rfl ?_) | (with_reducible refine wpAny_seqItems hI rfl ?_) | (with_reducible refine wpAny_setField_rec ho (by simp) fun h1 e1 u1=>?_) | ((fail_if_success with_reducible refine wpAny_bind (wpAny_bind (wpAny_onRaise ?_)));wp_step))
 have w1:Out [z,TO,i1,i2,i3] s.heap h1:=Out.of u1.extBut (by simp)
 by_cases hx:k<xs.size
 · refine wpAny_bind (wpAny_bind (wpAny_onRaise (wpAny_bind (wpAny_nextOf_list_item (it:=i1) (a1.extBut u1.extBut (Ne.symm n3)) (b1.extBut u1.extBut m1.1) (Array.getElem?_eq_getElem hx) fun h2 e2 u2=>wpAny_pure ?_))))
   have o2:h2.get? TO=some (fE a b c):=u2.extBut _ _ n10 (u1.extBut _ _ (Ne.symm n2) hO);repeat (first | assumption | (with_reducible refine wpAny_seqItems o2 rfl ?_) | (with_reducible refine aKl o2 fun h3 e3 u3=>?_) | ((fail_if_success with_reducible refine wpAny_bind (wpAny_bind (wpAny_onRaise ?_)));wp_step))
   have w3:Out [z,TO,i1,i2,i3] s.heap h3:=(w1.then (Out.of u2.extBut (by simp))).then (Out.of u3.extBut (by simp))
   have y3:h3.get? z=some (jX .ellipsis false TI TO):=u3.extBut _ _ n2 (u2.extBut _ _ n3 e1);by_cases hy:k<ys.size
   · refine wpAny_bind (wpAny_bind (wpAny_onRaise (wpAny_bind (wpAny_nextOf_list_item (it:=i2) (((a2.extBut u1.extBut (Ne.symm n4)).extBut u2.extBut (Ne.symm n13)).extBut u3.extBut (Ne.symm n11)) (((b2.extBut u1.extBut m2.1).extBut u2.extBut m2.2.2.1).extBut u3.extBut m2.2.1) (Array.getElem?_eq_getElem hy) fun h4 e4 u4=>wpAny_pure ?_))))
     have o4:h4.get? TO=some (fE xs[k] b c):=u4.extBut _ _ n11 e3;repeat (first | assumption | (with_reducible refine wpAny_seqItems o4 rfl ?_) | (with_reducible refine aKl o4 fun h5 e5 u5=>?_) | ((fail_if_success with_reducible refine wpAny_bind (wpAny_bind (wpAny_onRaise ?_)));wp_step))
     have w5:Out [z,TO,i1,i2,i3] s.heap h5:=(w3.then (Out.of u4.extBut (by simp))).then (Out.of u5.extBut (by simp))
     have y5:h5.get? z=some (jX .ellipsis false TI TO):=u5.extBut _ _ n2 (u4.extBut _ _ n4 y3);have eu:zs[k]?=none:=Array.getElem?_eq_none (by omega)
     refine wpAny_bind (wpAny_bind (wpAny_onRaise (wpAny_bind (wpAny_nextOf_list_end (it:=i3) hh (((((a3.extBut u1.extBut (Ne.symm n5)).extBut u2.extBut (Ne.symm n14)).extBut u3.extBut (Ne.symm n12)).extBut u4.extBut (Ne.symm n15)).extBut u5.extBut (Ne.symm n12)) (((((b3.extBut u1.extBut m3.1).extBut u2.extBut m3.2.2.1).extBut u3.extBut m3.2.1).extBut u4.extBut m3.2.2.2.1).extBut u5.extBut m3.2.1) eu fun h6 e u6 p=>?_))))
     obtain⟨o,p1,p2⟩:=p;have y6:h6.get? z=some (jX .ellipsis false TI TO):=u6 _ _ n5 y5;exact wpAny_setField_rec y6 (by simp) fun h7 _ u7=>last h6 h7 e o (w5.then (Out.of u6 (by simp))) y6 p1 p2 u7
   · have ey:ys[k]?=none:=Array.getElem?_eq_none (Nat.not_lt.mp hy)
     refine wpAny_bind (wpAny_bind (wpAny_onRaise (wpAny_bind (wpAny_nextOf_list_end (it:=i2) hh (((a2.extBut u1.extBut (Ne.symm n4)).extBut u2.extBut (Ne.symm n13)).extBut u3.extBut (Ne.symm n11)) (((b2.extBut u1.extBut m2.1).extBut u2.extBut m2.2.2.1).extBut u3.extBut m2.2.1) ey fun h4 e u4 p=>?_))))
     obtain⟨o,p1,p2⟩:=p;have y4:h4.get? z=some (jX .ellipsis false TI TO):=u4 _ _ n4 y3;exact wpAny_setField_rec y4 (by simp) fun h7 _ u7=>last h4 h7 e o (w3.then (Out.of u4 (by simp))) y4 p1 p2 u7
 · have ex:xs[k]?=none:=Array.getElem?_eq_none (Nat.not_lt.mp hx)
   refine wpAny_bind (wpAny_bind (wpAny_onRaise (wpAny_bind (wpAny_nextOf_list_end (it:=i1) hh (a1.extBut u1.extBut (Ne.symm n3)) (b1.extBut u1.extBut m1.1) ex fun h2 e u2 p=>?_))))
   obtain⟨o,p1,p2⟩:=p;have y2:h2.get? z=some (jX .ellipsis false TI TO):=u2 _ _ n3 e1;exact wpAny_setField_rec y2 (by simp) fun h7 _ u7=>last h2 h7 e o (w1.then (Out.of u2 (by simp))) y2 p1 p2 u7
end
end Zp
namespace Zp
open PySem
abbrev itO (l:Addr):Obj:={ cls:=.type "list_iterator",data:=.fields #[.ref l,.int 0 0] }
theorem zt3 (a b c:Value):checkTypeCall "zip" ⟨[a,b,c],[]⟩=pure ():=by kernel_rfl
theorem zn3 (a b c:Value):checkBuiltinCall "zip.__new__" ⟨[.type "zip",a,b,c],[]⟩=pure ():=by kernel_rfl
theorem zi4 (o a b c:Value):argsOk "object.__init__" ⟨[o,a,b,c],[]⟩:=by
 unfold argsOk;rw[signature?_of (id:="object.__init__") (n:="__tini__".toList) (o:="tcejbo".toList) (by kernel_rfl) PySem.F.owner_object];kernel_rfl
def kH (h:Heap)(l1 l2 l3:Addr):Heap:=((h.push (itO l1)).push (itO l2)).push (itO l3)
def tups (h:Heap)(l1 l2 l3:Addr):Heap:=((kH h l1 l2 l3).push (fE (.ref h.objs.size) (.ref (h.push (itO l1)).objs.size) (.ref ((h.push (itO l1)).push (itO l2)).objs.size))).push (fE .none .none .none)
theorem aLb (l1 l2 l3:Addr)(xs ys zs:Array Value):Meets (Builtin.«zip.__new__» ⟨[.type "zip",.ref l1,.ref l2,.ref l3],[]⟩) (fun _ R s=>s.heap.IsList l1 xs/\s.heap.IsList l2 ys/\s.heap.IsList l3 zs /\
 R (.ok (.ret (.ref (tups s.heap l1 l2 l3).objs.size))) { s with heap:=(tups s.heap l1 l2 l3).push (jX .none false (kH s.heap l1 l2 l3).objs.size ((kH s.heap l1 l2 l3).push (fE (.ref s.heap.objs.size) (.ref (s.heap.push (itO l1)).objs.size) (.ref ((s.heap.push (itO l1)).push (itO l2)).objs.size))).objs.size) }) :=
 .of_wp fun prog w A R s h=>by
  obtain⟨hp,gs,dr,tk,sys⟩:=s;obtain⟨y1,y2,y3,h⟩:=h;have sub:=sub_zip;have p1:Heap.IsList (Shared.heap ⟨hp,gs,dr,tk,sys⟩) l1 xs:=y1;have p2:Heap.IsList (Shared.heap ⟨hp.push (itO l1),gs,dr,tk,sys⟩) l2 ys:=y2.push _;have p3:Heap.IsList (Shared.heap ⟨(hp.push (itO l1)).push (itO l2),gs,dr,tk,sys⟩) l3 zs:=(y3.push _).push _;wp_walk using wpAny_pyIter_list p1,wpAny_pyIter_list p2,wpAny_pyIter_list p3
  exact⟨_,rfl,h⟩
section
variable {prog:Program}{w:World}{A:Around}{E:Value->Shared->Prop}{s:Shared}
theorem aSw {l1 l2 l3:Addr}{xs ys zs:Array Value}{Q:Value->Shared->Prop}(y1:s.heap.IsList l1 xs)(y2:s.heap.IsList l2 ys)(y3:s.heap.IsList l3 zs)
 (q:∀ (h':Heap) (n:Nat),n=s.heap.objs.size->h'.get? (n+5)=some (jX .none false (n+3) (n+4))->h'.get? (n+3)=some (fE (.ref n) (.ref (n+1)) (.ref (n+2)))->h'.get? (n+4)=some (fE .none .none .none) ->
  h'.IsListIter n l1 0->h'.IsListIter (n+1) l2 0->h'.IsListIter (n+2) l3 0->(∀ c o,s.heap.get? c=some o->h'.get? c=some o)->Q (.ref (n+5)) { s with heap:=h' }) :
 wpAny (model prog w) A (call (.type "zip") [.ref l1,.ref l2,.ref l3]) Q E s:=by
 refine callType_new PySem.F.called_zip (by decide) (zt3 _ _ _) (zn3 _ _ _) (fun o=>zi4 o _ _ _) PySem.F.entry_zip_new (aLb l1 l2 l3 xs ys zs) ⟨y1,y2,y3,?_⟩
 generalize hn:s.heap.objs.size=n
 have s1:(s.heap.push (itO l1)).objs.size=n+1:=by rw[Cd,hn]
 have s2:((s.heap.push (itO l1)).push (itO l2)).objs.size=n+2:=by rw[Cd,s1]
 have s3:(kH s.heap l1 l2 l3).objs.size=n+3:=by unfold kH;rw[Cd,s2]
 have s4:∀ o,((kH s.heap l1 l2 l3).push o).objs.size=n+4:=fun o=>by rw[Cd,s3]
 have s5:(tups s.heap l1 l2 l3).objs.size=n+5:=by unfold tups;rw[Cd,s4]
 have up:∀ c o,(kH s.heap l1 l2 l3).get? c=some o->∀ o',((tups s.heap l1 l2 l3).push o').get? c=some o:=fun c o e o'=>Ag _ (Ag _ (Ag _ e));have g0:(kH s.heap l1 l2 l3).get? n=some (itO l1):=Ag _ (Ag _ (hn▸Bb s.heap rfl));have g1:(kH s.heap l1 l2 l3).get? (n+1)=some (itO l2):=Ag _ (s1▸Bb (s.heap.push (itO l1)) rfl);have g2:(kH s.heap l1 l2 l3).get? (n+2)=some (itO l3):=s2▸Bb ((s.heap.push (itO l1)).push (itO l2)) rfl
 have g3:∀ o',((tups s.heap l1 l2 l3).push o').get? (n+3)=some (fE (.ref n) (.ref (n+1)) (.ref (n+2))):=fun o'=>by
  have:=Ag o' (Ag (fE .none .none .none) (Bb (kH s.heap l1 l2 l3) (o:=fE (.ref s.heap.objs.size) (.ref (s.heap.push (itO l1)).objs.size) (.ref ((s.heap.push (itO l1)).push (itO l2)).objs.size)) rfl))
  rw[s3,hn,s1,s2]at this;unfold tups;rw[hn,s1,s2];exact this
 have g4:∀ o',((tups s.heap l1 l2 l3).push o').get? (n+4)=some (fE .none .none .none):=fun o'=>Ag o' (s4 _▸Bb ((kH s.heap l1 l2 l3).push _) rfl);have g5:∀ a b,((tups s.heap l1 l2 l3).push (jX .none false a b)).get? (n+5)=some (jX .none false a b):=fun a b=>s5▸Bb (tups s.heap l1 l2 l3) rfl;rw[s5,s3,s4];refine⟨⟨_,g5 _ _,rfl⟩,q _ n hn.symm (g5 _ _) (g3 _) (g4 _) ⟨_,up _ _ g0 _,rfl,rfl⟩ ⟨_,up _ _ g1 _,rfl,rfl⟩ ⟨_,up _ _ g2 _,rfl,rfl⟩ fun c o e=>up _ _ (Ag _ (Ag _ (Ag _ e))) _⟩
end
end Zp
namespace L2
open PySem PySem.Spec PyProof.Rows Zp
def It3 (K:PySem.W.Frag)(a b c:Addr):It :=
  ⟨fun i H=>∃ xs ys zs x y u,SqL K H a xs/\SqL K H b ys/\SqL K H c zs/\xs[i]?=some x/\ys[i]?=some y/\zs[i]?=some u,
   fun i H v H'=>∃ t x y u,v=.ref t/\H t=none/\H'=upd H t (.tup [x,y,u])/\(∀ xs,SqL K H a xs->xs[i]?=some x)/\(∀ ys,SqL K H b ys->ys[i]?=some y)/\∀ zs,SqL K H c zs->zs[i]?=some u,
   fun i H=>∃ xs ys zs,SqL K H a xs/\SqL K H b ys/\SqL K H c zs/\(xs.length<=i\/ys.length<=i\/zs.length<=i)⟩
structure ZT (z TI TO i1 i2 i3 a b c:Addr)(i:Nat)(h:Heap):Prop where
 z0:h.get? z=some (jX .none false TI TO)
 it:h.get? TI=some (fE (.ref i1) (.ref i2) (.ref i3))
 ow:∃ u v w,h.get? TO=some (fE u v w)
 k1:h.IsListIter i1 a i
 k2:h.IsListIter i2 b i
 k3:h.IsListIter i3 c i
theorem ZT.all {z TI TO i1 i2 i3 a b c:Addr}{i:Nat}{h:Heap}(t:ZT z TI TO i1 i2 i3 a b c i h):∀ d∈[z,TI,TO,i1,i2,i3],∃ o,h.get? d=some o/\∀ v,o.data≠.cell v:=fun d hd=>by
 obtain⟨z0,it,⟨u,v,w,ow⟩,⟨o1,e1,_,d1⟩,⟨o2,e2,_,d2⟩,⟨o3,e3,_,d3⟩⟩:=t;simp only[Aj,Bc,or_false]at hd;rcases hd with rfl | rfl | rfl | rfl | rfl | rfl
 · exact⟨_,z0,fun v z=>nomatch z⟩
 · exact⟨_,it,fun v z=>nomatch z⟩
 · exact⟨_,ow,fun v z=>nomatch z⟩
 · exact⟨o1,e1,fun v z=>by rw[d1]at z;cases z⟩
 · exact⟨o2,e2,fun v z=>by rw[d2]at z;cases z⟩
 · exact⟨o3,e3,fun v z=>by rw[d3]at z;cases z⟩
theorem aUc {P:Program}{w:World}{K:PySem.W.Frag}{es:List Expr}{k:Nat}{pos:Pos}{z TI TO i1 i2 i3 a b c:Addr}(D:Pl3 z TI TO i1 i2 i3 a b c) :
 Turn P w K (.Tuple es k pos) (It3 K a b c) [z,TI,TO,i1,i2,i3] z (ZT z TI TO i1 i2 i3 a b c) where
 mem:=by simp
 obj:=fun i h st d hd=>st.all d hd
 keep:=fun i h h' st kp=>by
  obtain⟨z0,it,⟨u,v,w,ow⟩,k1,k2,k3⟩:=st;exact⟨kp _ (by simp) _ z0,kp _ (by simp) _ it,⟨u,v,w,kp _ (by simp) _ ow⟩,k1.at fun o e=>kp _ (by simp) o e,k2.at fun o e=>kp _ (by simp) o e,k3.at fun o e=>kp _ (by simp) o e⟩
 item:=by
  intro X hP hw hK hc i pins s σ H E I hf st hg;subst hP hw hK;obtain⟨xs,ys,zs,x,y,t,ha,hb,hd,hx,hy,ht⟩:=hg;obtain⟨us,ru,pu,_⟩:=I.list ha;obtain⟨vs,rv,pv,_⟩:=I.list hb;obtain⟨ws,rw',pw,_⟩:=I.list hd;obtain⟨u,eu,rxu⟩:=ru.get hx;obtain⟨v,ev,ryv⟩:=rv.get hy;obtain⟨w0,ew,rtw⟩:=rw'.get ht;have al:=st.all;obtain⟨z0,it,⟨u0,v0,x0,ow⟩,k1,k2,k3⟩:=st;refine nxt z0 rfl (aS0 D z0 it ow k1 k2 k3 pu.isList pv.isList pw.isList (x:=u) (y:=v) (u:=w0) (by simpa using eu) (by simpa using ev) (by simpa using ew) fun h' b1 b2 b3 b4 b5 b6 b7 b8=>⟨_,rfl,_,rfl,?_⟩)
  refine wpAny_letOwnedTupleGo_zip b1 fun hp2 c1 cs=>?_
  have nz:s.heap.objs.size≠z:=Gx (Ap z0);have nd:=D.nd;simp only[Br,Aj,Bc,or_false,not_or,not_false_eq_true,Dh,and_true]at nd;obtain⟨⟨n1,n2,n3,n4,n5⟩,⟨n6,n7,n8,n9⟩,_⟩:=nd
  have kp:∀ d o,d∉[z,TI,TO,i1,i2,i3]->s.heap.get? d=some o->hp2.get? d=some o:=fun d o hd' e=>by
   simp only[Aj,Bc,or_false,not_or]at hd';exact cs.extBut d o hd'.1 (b8 d o (by simp[hd'.1,hd'.2.2]) e)
  have st':ZT z TI TO i1 i2 i3 a b c (i+1) hp2:=⟨c1,cs.extBut _ _ (Ne.symm n1) (b8 _ _ (by simp[Ne.symm n1,n6,n7,n8,n9]) it),⟨_,_,_,cs.extBut _ _ (Ne.symm n2) b2⟩,b3.extBut cs.extBut (Ne.symm n3),b4.extBut cs.extBut (Ne.symm n4),b5.extBut cs.extBut (Ne.symm n5)⟩
  have pr:hp2.get? s.heap.objs.size=some (fE u v w0):=cs.extBut _ _ nz b6;have fr:H s.heap.objs.size=none:=I.fresh
  refine⟨.ref s.heap.objs.size,upd H s.heap.objs.size (.tup [x,y,t]),I.turnedNew (t':=s.toks) kp hf (fun d hd'=>let ⟨o,e,_⟩:=st'.all d hd';⟨o,e⟩) (Am _) ⟨by show 3<=sizeLine;decide,[u,v,w0],.cons rxu (.cons ryv (.cons rtw .nil)),⟨_,pr,rfl,_,rfl⟩⟩,rfl,
   ⟨_,x,y,t,rfl,fr,rfl,fun l hq=>by rw[I.list_inj hq ha];exact hx,fun l hq=>by rw[I.list_inj hq hb];exact hy,fun l hq=>by rw[I.list_inj hq hd];exact ht⟩,st',fun d hd'=>?_⟩
  obtain⟨o,e,_⟩:=al d hd';rw[aH (Bq (Ap e))];exact(hf d hd').1
 done:=by
  intro X hP hw hK hc i pins s σ H E I hf st hg;subst hP hw hK;obtain⟨xs,ys,zs,ha,hb,hd,hend⟩:=hg;obtain⟨us,ru,pu,_⟩:=I.list ha;obtain⟨vs,rv,pv,_⟩:=I.list hb;obtain⟨ws,rw',pw,_⟩:=I.list hd;have lu:=ru.length;have lv:=rv.length;have lw:=rw'.length;obtain⟨z0,it,⟨u0,v0,x0,ow⟩,k1,k2,k3⟩:=st;refine nxt z0 rfl (aVl (I.ok.hd hc) D z0 it ow k1 k2 k3 pu.isList pv.isList pw.isList (by rw[Aq,Aq,Aq];omega) fun h' e o e1 e2 kp=>⟨e,o,rfl,e1,e2,rfl,I.turnedL (t':=s.toks) (fun d u hd' q=>kp d u (fun m=>hd' ?_) q) hf⟩)
  simp only[Aj,Bc,or_false]at m ⊢;rcases m with m | m | m | m | m<;>simp[m]
 self:=fun _ _ _ _ _ st h=>wpAny_pyIter_zip st.z0 h
def aSp (K:PySem.W.Frag)(ta:TA):TI:=fun σ H R=>ta σ H fun vs H1=>∃ a b c,vs=[.ref a,.ref b,.ref c]/\(∃ xs,SqL K H1 a xs)/\(∃ ys,SqL K H1 b ys)/\(∃ zs,SqL K H1 c zs)/\R (It3 K a b c) H1
theorem aNp {X:Cx}{es:List Expr}{k:Nat}{tp:Pos}{a b c:Expr}{t:TA}{p pos:Pos}(hc:X.calm=true)(hg:Gl X "zip")(hm:X.mg "zip" = none)(ha:PA X [a,b,c] t)
 (h1:starEach [a,b,c] X.env=(false,eval a X.env) :: starEach [b,c] X.env:=by rfl) (h2:(backTo pos (starEach [b,c] X.env)).any (·.1)=false:=by rfl) :
 PI X (.Tuple es k tp) (.Call (.Name "zip" p) [a,b,c] [] pos) (aSp X.K t):=by
 intro pins s σ H R I h;refine Call_ (kK I hg hm boot_zip (Cz (thn (ha pos pins s σ H _ I h) fun us s1 ⟨vs,H1,I1,r1,x,y,u,e,⟨xs,hx⟩,⟨ys,hy⟩,⟨zs,hz⟩,q⟩=>?_) h1 h2))
 subst e;cases r1 with
 | cons rx r2=>cases r2 with
  | cons ry r3=>cases r3 with
   | cons rz r4 =>
    cases r4;cases rx;cases ry;cases rz;obtain⟨us',ru,pu,_⟩:=I1.list hx;obtain⟨vs',rv,pv,_⟩:=I1.list hy;obtain⟨ws',rw',pw,_⟩:=I1.list hz;have lt:∀ {l:Addr} {v:Array Value},s1.heap.IsList l v->l<s1.heap.objs.size:=fun il=>by obtain⟨_,e,_⟩:=il;exact Ap e
    have a1:=lt pu.isList;have a2:=lt pv.isList;have a3:=lt pw.isList;refine aSw pu.isList pv.isList pw.isList fun h1 n hn z0 it ow k1 k2 k3 kp=>wpAny_pyIter_zip z0 ?_
    have big:∀ d∈[n+5,n+3,n+4,n,n+1,n+2],s1.heap.objs.size<=d:=fun d hd=>by
     simp only[Aj,Bc,or_false]at hd;rw[←hn];rcases hd with rfl | rfl | rfl | rfl | rfl | rfl<;>first | exact Am _ | exact Ci _ _
    have pl:Pl3 (n+5) (n+3) (n+4) n (n+1) (n+2) x y u:=by
     refine⟨by simp,fun l hl=>?_⟩
     simp only[Aj,Bc,or_false,not_or]at hl ⊢;have:l<n:=by rw[hn];rcases hl with rfl | rfl | rfl<;>assumption
     exact⟨Bq (An this (Ci _ _)),Bq (An this (Ci _ _)),Bq this,Bq (An this (Ci _ _)),Bq (An this (Ci _ _))⟩
    exact⟨_,[n+5,n+3,n+4,n,n+1,n+2],_,_,H1,rfl,I1.kept (t':=s1.toks) kp,aUc pl,⟨z0,it,⟨_,_,_,ow⟩,k1,k2,k3⟩,fun d hd=>I1.fpOk (big d hd) (I1.hok.fresh (big d hd)),q⟩
end L2
namespace Mir
open PySem L2
variable {X:Cx}{P:XP}{a b c:Expr}{f g h:FE}{pos p:Pos}
def zp3:List D->List D->List D->List D
 | x :: xs,y :: ys,z :: zs=>.tup [x,y,z] :: zp3 xs ys zs
 | _,_,_=>[]
theorem aIg:∀ (xs ys zs:List D) (i:Nat),(∀ d,(zp3 xs ys zs)[i]?=some d->∃ x y z,xs[i]?=some x/\ys[i]?=some y/\zs[i]?=some z/\d=.tup [x,y,z])/\((zp3 xs ys zs).length<=i->xs.length<=i\/ys.length<=i\/zs.length<=i)
 | [],ys,zs,i=>⟨fun d e=>by simp[zp3]at e,fun _=>.inl (Cc _)⟩
 | _ :: _,[],zs,i=>⟨fun d e=>by simp[zp3]at e,fun _=>.inr (.inl (Cc _))⟩
 | _ :: _,_ :: _,[],i=>⟨fun d e=>by simp[zp3]at e,fun _=>.inr (.inr (Cc _))⟩
 | x :: xs,y :: ys,z :: zs,0=>⟨fun d e=>⟨x,y,z,rfl,rfl,rfl,by simpa[zp3] using e.symm⟩,fun l=>by simp[zp3]at l⟩
 | x :: xs,y :: ys,z :: zs,i+1=>by
  obtain⟨h1,h2⟩:=aIg xs ys zs i;refine⟨fun d e=>?_,fun l=>?_⟩
  · obtain⟨u,v,w,q⟩:=h1 d (by simpa[zp3] using e)
    exact⟨u,v,w,by simpa using q⟩
  · have:=h2 (by simpa[zp3] using l)
    simpa using this
def vL (a b c:FE):FI:=fun ρ=>do
 let rs ← evs [a,b,c] ρ
 match rs with
 | [x,y,z]=>do
  let xs ← asL x.d
  let ys ← asL y.d
  let zs ← asL z.d
  .ok ⟨(x.k != .own&&y.k != .own)&&z.k != .own,(x.fr&&y.fr)&&z.fr,zp3 xs ys zs⟩
 | _=>.stk
theorem aS3 {K:PySem.W.Frag}{H0 H':Hp}{B:Addr->Prop}{a b c:Addr}{xs ys zs:List V}{ds es us:List D}{st f1 f2 f3:Bool}(hs:st=true->¬ B a/\¬ B b/\¬ B c)(ra:Rd H' a (.lst xs))(rb:Rd H' b (.lst ys))(rc:Rd H' c (.lst zs))
 (pa:aE K (aU f1 H0 H' B) ds xs) (pb:aE K (aU f2 H0 H' B) es ys) (pc:aE K (aU f3 H0 H' B) us zs):uF K H0 H' B (It3 K a b c) ⟨st,(f1&&f2)&&f3,zp3 ds es us⟩:=by
 refine⟨fun d=>d=a\/d=b\/d=c,fun h d z=>z.elim (fun e=>e▸(hs h).1) fun z=>z.elim (fun e=>e▸(hs h).2.1) fun e=>e▸(hs h).2.2,fun H2 B2 j1 j2 j3 j4 j5 i=>?_⟩
 have q1:SqL K H2 a xs:=.inl (jN ra fun o=>j1 a o (.inl rfl));have q2:SqL K H2 b ys:=.inl (jN rb fun o=>j1 b o (.inr (.inl rfl)));have q3:SqL K H2 c zs:=.inl (jN rc fun o=>j1 c o (.inr (.inr rfl)));have l1:=pa.length;have l2:=pb.length;have l3:=pc.length;obtain⟨z1,z2⟩:=aIg ds es us i;refine⟨fun hi=>⟨xs,ys,zs,q1,q2,q3,by have:=z2 hi;omega⟩,fun d hd=>?_⟩
 obtain⟨d1,d2,d3,e1,e2,e3,rfl⟩:=z1 d hd;obtain⟨v1,hv1,r1⟩:=pa.get e1;obtain⟨v2,hv2,r2⟩:=pb.get e2;obtain⟨v3,hv3,r3⟩:=pc.get e3;refine⟨⟨xs,ys,zs,v1,v2,v3,q1,q2,q3,hv1,hv2,hv3⟩,fun x H3 y=>?_⟩
 obtain⟨t,x1,x2,x3,w1,w2,w3,y1,y2,y3⟩:=y;have k1:=y1 xs q1;have k2:=y2 ys q2;have k3:=y3 zs q3;rw[hv1]at k1;cases k1;rw[hv2]at k2;cases k2;rw[hv3]at k3;cases k3;subst w1;subst w3;have m:∀ fr,aD (aU fr H0 H' B) (aU fr H0 (upd H2 t (.tup [v1,v2,v3])) B2):=fun fr=>aP (fun b o q n=>aD.upd_new w2 b o (j2 b o q n)) j3
 have one:∀ {f f':Bool} {d:D} {v:V},(f'=true->f=true)->Rep K (aU f H0 H' B) d v->Rep K (aU f' H0 (upd H2 t (.tup [v1,v2,v3])) B2) d v:=fun {f f' d v} ff r=>by
  have r':=Rep.same (m f) r;cases f with
  | true =>
   cases f' with
   | true=>exact r'
   | false=>exact Rep.same (fun b o q=>let ⟨n,q⟩:=aM.mp q;aM.mpr ⟨fun z=>n (z.imp id fun⟨h,_⟩=>nomatch h),q⟩) r'
  | false =>
   cases f' with
   | true=>exact absurd (ff rfl) (by decide)
   | false=>exact r'
 refine⟨aD.upd_new w2,t,[v1,v2,v3],rfl,aM.mpr ⟨fun z=>?_,aX⟩,v1,[v2,v3],rfl,one (fun z=>?_) r1,v2,[v3],rfl,one (fun z=>?_) r2,v3,[],rfl,one (fun z=>?_) r3,rfl⟩
 · rcases z with z | ⟨_,o,z,_⟩
   · obtain⟨o,q⟩:=j4 t z;rw[w2]at q;cases q
   · rw[j5 _ _ z]at w2;cases w2
 all_goals (simp only[Df]at z;first | exact z.1.1 | exact z.1.2 | exact z.2)
theorem aN8 {ts:List Expr}{k:Nat}{tp:Pos}(hc:X.calm=true)(hg:Gl X "zip")(hm:X.mg "zip" = none)(ha:PE X a (tE X.K P f))(hb:PE X b (tE X.K P g))(hd:PE X c (tE X.K P h))(h1:starEach [a,b,c] X.env=(false,eval a X.env) :: starEach [b,c] X.env:=by rfl)(h2:starEach [b,c] X.env=(false,eval b X.env) :: starEach [c] X.env:=by rfl)(h3:starEach [c] X.env=(false,eval c X.env) :: starEach [] X.env:=by rfl)(h4:(backTo pos (starEach [b,c] X.env)).any (·.1)=false:=by rfl) :
 PI X (.Tuple ts k tp) (.Call (.Name "zip" p) [a,b,c] [] pos) (tI X.K P (vL f g h)):=by
 refine PI.imp (aNp hc hg hm (aA ha (aA hb (aA hd aO h3) h2) h1) h1 h4) ?_
 intro σ H Rq q
 refine aNd (k:=fun rs=>match rs with
  | [x,y,z]=>(asL x.d >>= fun xs=>asL y.d >>= fun ys=>asL z.d >>= fun zs=>.ok ⟨(x.k != .own&&y.k != .own)&&z.k != .own,(x.fr&&y.fr)&&z.fr,zp3 xs ys zs⟩)
  | _=>.stk) q ?_
 intro H0 B ρ vs H' rs d0 d gs s q;match vs,rs,gs with
 | [],rs,gs=>have e:rs=[]:=gs;subst e;exact q.elim
 | [v],_,⟨r,rr,e1,g1,g2⟩=>subst e1;rw[show rr=[] from g2]at q;exact q.elim
 | [v,w],_,⟨r,rr,e1,g1,r2,rr2,e2,g2,g3⟩=>subst e1;subst e2;rw[show rr2=[] from g3]at q;exact q.elim
 | _ :: _ :: _ :: _ :: _,_,⟨r,rr,e1,g1,r2,rr2,e2,g2,r3,rr3,e3,g3,r4,rr4,e4,_⟩=>subst e1;subst e2;subst e3;subst e4;exact q.elim
 | [v,w,u],_,⟨r,rr,e1,g1,r2,rr2,e2,g2,r3,rr3,e3,g3,g4⟩ =>
  subst e1;subst e2;subst e3;rw[show rr3=[] from g4]at q
  cases a1:asL r.d with
  | stk=>simp[a1]at q
  | exc x=>exact(eF a1).elim
  | ok xs=>cases a2:asL r2.d with
   | stk=>simp[a1,a2]at q
   | exc x=>exact(eF a2).elim
   | ok ys=>cases a3:asL r3.d with
    | stk=>simp[a1,a2,a3]at q
    | exc x=>exact(eF a3).elim
    | ok zs =>
     simp only[a1,a2,a3,R.ok_bind]at q;obtain⟨p1,x1,y1,z1,w1⟩:=g1.list (dE a1);obtain⟨p2,x2,y2,z2,w2⟩:=g2.list (dE a2);obtain⟨p3,x3,y3,z3,w3⟩:=g3.list (dE a3);refine⟨p1,p2,p3,by rw[y1,y2,y3],⟨x1,.inl z1⟩,⟨x2,.inl z2⟩,⟨x3,.inl z3⟩,q _ H' (aD.refl _) (aS3 (fun hk=>?_) z1 z2 z3 w1 w2 w3)⟩
     simp only[Df]at hk;exact⟨g1.notB d0 (dE a1) y1 hk.1.1,g2.notB d0 (dE a2) y2 hk.1.2,g3.notB d0 (dE a3) y3 hk.2⟩
end Mir
namespace Mir
open PySem L2
variable {X:Cx}{P:XP}{a b:Expr}{f g:FE}{pos:Pos}
def CN:Int->Int->Bool:=fun _ j=>decide (j≠0)
abbrev sJ (a b:FE):FE:=i2E CN (fun i j=>i.fmod j) a b
theorem aRn (ha:PE X a (tE X.K P f))(hb:PE X b (tE X.K P g)):PE X (.BinOp a .Mod b pos) (tE X.K P (sJ f g)):=aCy aM1 (fun i j h=>by
 unfold CN at h;simpa using h) ha hb
def aB4 (i j:Nat)(f g:FE):FS:=fun ρ=>(evs [f,g] ρ).at ρ fun rs=>match rs with
 | [x,y]=>(asI x.d).at ρ fun u=>(asI y.d).at ρ fun v=>.nx ((ρ.set i (some (sc (.int u)))).set j (some (sc (.int v))))
 | _=>.stk
theorem aSv {i j:Nat}{x y:Str}{px py pt:Pos}{kt k2 pt2}(hc:X.calm=true)(hN:X.N.Nodup)(hi:X.N[i]?=some x)(hj:X.N[j]?=some y)(hij:i≠j)(hx:X.env.scope.names.lookup x=some .local)(hy:X.env.scope.names.lookup y=some .local)(ha:PE X a (tE X.K P f))(hb:PE X b (tE X.K P g))
 (hw:swappedStores [.Tuple [.Name x px,.Name y py] kt pt] (.Tuple [a,b] k2 pt2) X.env=pure (some [x,y])) (h1:starEach [a,b] X.env=(false,eval a X.env) :: starEach [b] X.env:=by rfl) (h2:starEach [b] X.env=(false,eval b X.env) :: starEach [] X.env:=by rfl)
 (hs:swapsWithSole [.Tuple [.Name x px,.Name y py] kt pt] (.Tuple [a,b] k2 pt2) pos.line X.env=pure false:=by rfl) :
 PS X (.Assign [.Tuple [.Name x px,.Name y py] kt pt] (.Tuple [a,b] k2 pt2) pos) (tS X.K P (aB4 i j f g)):=by
 refine PS.imp (aPn hc hN hi hj hij hx hy (aA ha (aA hb aO h2) h1) hw hs) ?_
 rintro D σ H ⟨H0,T,ρ,d,h⟩
 refine⟨H0,_,ρ,d.e,?_⟩
 unfold aB4 at h;cases e:evs [f,g] ρ with
 | stk=>simp only[e,R.at]at h;exact h.elim
 | exc z=>simp only[e,R.at]at h;exact h σ H d Ext.refl
 | ok rs =>
  simp only[e,R.at]at h;intro vs H1 s1 gs;match rs,h with
  | [r1,r2],h =>
   cases a1:asI r1.d with
   | stk=>simp only[a1]at h;exact h.elim
   | exc z=>exact(cM a1).elim
   | ok u =>
    cases a2:asI r2.d with
    | stk=>simp only[a1,a2]at h;exact h.elim
    | exc z=>exact(cM a2).elim
    | ok v =>
     simp only[a1,a2]at h
     obtain⟨w1,w2,rfl⟩:∃ w1 w2,vs=[w1,w2]:=by
      have:=gs.len
      match vs,this with
      | [w1,w2],_=>exact⟨w1,w2,rfl⟩
     obtain⟨p1,pr,q1,g1,p2,pr2,q2,g2,_⟩:=gs;cases q1;cases q2;obtain rfl:=g1.int (dI a1);obtain rfl:=g2.int (dI a2);have d1:=(d.mono s1).set_shr (i:=i) (v:=.int u) (fr:=true) (dd:=.int u) rfl;have d2:=d1.1.set_shr (i:=j) (v:=.int v) (fr:=true) (dd:=.int v) rfl;exact⟨_,_,rfl,h _ H1 d2.1 ⟨fun b o q _=>s1 b o q,fun b z=>.inl (d1.2 b (d2.2 b z))⟩⟩
end Mir
namespace Mir
open PySem L2
variable {X:Cx}{pins:List (Addr×Obj)}{σ:St}{H H':Hp}{s s':Shared}
def aRr (K:PySem.W.Frag)(C:Addr)(bmB:List Value)(newId:String)(fI:Addr):Bool :=
 match K.lookup C with
 | some ⟨.type "type",_,.cls c,sl⟩=>match c.mro,sl.toList with
  | .ref D :: tl,[_,_,_,_,some (.builtin i),_] =>
   D==C&&(i==newId&&(!c.hasDel&&(PySem.W.tailIn K bmB tl&&(PySem.W.nsOkIn K c.ns&&Ch K c.ns "__init__" == some (some (.ref fI))))))
  | _,_=>false
 | _=>false
end Mir
namespace Mir
open PySem L2
variable {X:Cx}{pins:List (Addr×Obj)}{σ:St}{H H':Hp}{s s':Shared}{ea C:Addr}{P:XP}
def drp (H:Hp)(a:Addr):Hp:=fun b=>if b=a then none else H b
theorem aDe {a b:Addr}(h:b≠a):drp H a b=H b:=if_neg h
theorem aG0 {a:Addr}:drp H a a=none:=if_pos rfl
theorem Inv.drop {φ:Heap->Prop}(I:Inv X pins σ H s)(he:H ea=some (.ext φ)):Inv X pins σ (drp H ea) s:=by
 have ne:∀ b u,H b=some u->(∀ ψ,u≠.ext ψ)->drp H ea b=some u:=fun b u q n=>by
  rw[aDe (fun z=>by rw[z,he]at q;cases q;exact n _ rfl)];exact q
 have non:∀ b,H b=none->drp H ea b=none:=fun b q=>by
  by_cases z:b=ea
  · rw[z];exact aG0
  · rw[aDe z];exact q
 have bs:=I.base;refine⟨I.ok,I.os,I.bare,⟨bs.keep,bs.slot,fun b o e n hb=>non _ (bs.free b o e n hb),bs.there,fun b xs e=>ne _ _ (bs.tups b xs e) (fun _ z=>nomatch z),fun b o u e=>ne _ _ (bs.frzs b o u e) (fun _ z=>nomatch z),fun b ps e=>?_⟩,I.loc,I.cell,non _ I.free,fun x c e=>non _ (I.freeC x c e),fun p hp=>?_,fun b u e=>?_,I.len⟩
 · obtain⟨more,q⟩:=bs.tbls b ps e
   exact⟨more,ne _ _ q (fun _ z=>nomatch z)⟩
 · obtain⟨q1,q2,q3⟩:=I.pin p hp
   exact⟨q1,non _ q2,q3⟩
 · by_cases z:b=ea
   · rw[z,aG0]at e;cases e
   · rw[aDe z]at e
     exact(I.hok b u e).stay (fun _ _ _ q=>q) (fun c q=>ne _ _ q (fun _ z=>nomatch z)) fun c xs q=>ne _ _ q (fun _ z=>nomatch z)
end Mir
namespace Mir
open PySem L2
section
variable {Pg:Program}{w:World}{K:PySem.W.Frag}{mg:Str->Option Value}{base:Heap}{T:Addr}
structure PRaw (K:PySem.W.Frag)(T C f:Addr)(od:Option Addr)(cd:ClassData)(sl:Array (Option Value)):Prop where
 ns:Ch K mainGlobals "BadRows" = some (some (.ref C))
 lk:K.lookup C=some ⟨.type "type",od,.cls cd,sl⟩
 mro:cd.mro=.ref C :: aP1 T
 hd:cd.hasDict=true
 sa:Bf K (.ref C) "__setattr__" = some (some (.builtin "object.__setattr__"))
 no:Bf K (.ref C) "place" = some none
 ii:Bf K (.ref C) "__init__" = some (some (.ref f))
 own:aRr K C bmV "ValueError.__new__" f=true
variable {C f:Addr}{od:Option Addr}{cd:ClassData}{sl:Array (Option Value)}
theorem PRaw.cl (r:PRaw K T C f od cd sl):clK K .BadRows=C:=by
 unfold clK;rw[show (XC.BadRows).nm = "BadRows" from rfl,r.ns]
end
variable {X:Cx}{P:XP}{e:Expr}{f:FE}{pos np cpos:Pos}{T:Addr}
end Mir
namespace Mir
open PySem L2
abbrev li (xs:List Int):List D:=xs.map .int
abbrev lil (t:List (List Int)):List D:=t.map fun xs=>.lst (li xs)
theorem aB {s t:FS}{ρ ρ1:Mir.Env}(h:s ρ=.nx ρ1):aJ s t ρ=t ρ1:=by simp only[aJ,h]
theorem mY {s t:FS}{ρ:Mir.Env}{r:Res}(h:s ρ=.rt r):aJ s t ρ=.rt r:=by simp only[aJ,h]
theorem gU {it:FI}{tg:Tg}{b:FS}{ρ:Mir.Env}{fr:Bool}{ds:List D}(h:it ρ=.ok ⟨true,fr,ds⟩):dR it tg b ρ=fG tg b fr ds ρ:=by simp only[dR,h,R.at,if_true]
theorem cO {np n:Nat}{s:FS}{ds:List D}{r:Res}(hl:ds.length=np)(h:s (stE n ds)=.rt r):cJ np n s ds=.ok ⟨r.k,r.fr||r.d.imm,r.d⟩:=by simp only[cJ,hl,if_true,h]
theorem aCk {np n:Nat}{s:FS}{ds:List D}{ρ:Mir.Env}(hl:ds.length=np)(h:s (stE n ds)=.nx ρ):cJ np n s ds=.ok (sc .non):=by simp only[cJ,hl,if_true,h]
theorem aC5 {f:FE}{ρ:Mir.Env}{k:Kd}{fr:Bool}{d:D}(h:f ρ=.ok ⟨k,fr,d⟩):bI f ρ=.rt ⟨if k=.shr then .shr else .tmp,fr,d⟩:=by simp only[bI,h,R.at]
theorem xF {f:FE}{ρ:Mir.Env}{r:Res}(h:f ρ=.ok r):kC f ρ=.nx ρ:=by simp only[kC,h,R.at]
theorem cV {f:FE}{ρ:Mir.Env}{i:Nat}{fr:Bool}{d:D}(h:f ρ=.ok ⟨.tmp,fr,d⟩):aF i f ρ=.nx (ρ.set i (some ⟨.own,fr,d⟩)):=by simp only[aF,h,R.at,Res.keep]
theorem set_shr {f:FE}{ρ:Mir.Env}{i:Nat}{fr:Bool}{d:D}(h:f ρ=.ok ⟨.shr,fr,d⟩):aF i f ρ=.nx (ρ.set i (some ⟨.shr,fr,d⟩)):=by simp only[aF,h,R.at,Res.keep]
theorem fF {t:FT}{A B:FS}{ρ:Mir.Env}{b:Bool}(h:t ρ=.ok b):ifS t A B ρ=if b then A ρ else B ρ:=by simp only[ifS,h,R.at]
theorem aHk {f:FE}{A B:FS}{ρ:Mir.Env}{b:Bool}{k:Kd}{fr:Bool}(h:f ρ=.ok ⟨k,fr,.bl b⟩):ifS (bT f) A B ρ=if b then A ρ else B ρ:=by
 simp only[ifS,bT,h,R.ok_bind,asB,R.at]
theorem eJ {f:FE}{ρ:Mir.Env}{b:Bool}{k:Kd}{fr:Bool}(h:f ρ=.ok ⟨k,fr,.bl b⟩):bT f ρ=.ok b:=by simp only[bT,h,R.ok_bind,asB]
theorem aDg {t:FT}{ρ:Mir.Env}{b:Bool}(h:t ρ=.ok b):aCn t ρ=.ok (!b):=by simp only[aCn,h,R.ok_bind]
theorem aP8 {t u:FT}{ρ:Mir.Env}{b:Bool}{r:R Bool}(h:t ρ=.ok b)(h2:b=false->u ρ=r):orT t u ρ=if b then .ok true else r:=by
 cases b with
 | true=>simp only[orT,h,R.ok_bind,if_true]
 | false=>simp only[orT,h,R.ok_bind,h2 rfl,Cf,if_false]
theorem aLw {f g:FE}{ρ:Mir.Env}{b:Bool}{k:Kd}{fr:Bool}{r:R Res}(h:f ρ=.ok ⟨k,fr,.bl b⟩)(h2:b=true->g ρ=r):aC6 f g ρ=if b then r else .ok (sc (.bl false)):=by
 cases b with
 | true=>simp only[aC6,h,R.ok_bind,asB,h2 rfl,if_true]
 | false=>simp only[aC6,h,R.ok_bind,asB,Cf,if_false]
theorem xH {φ:Φ}{fs:FEs}{ρ:Mir.Env}{rs:List Res}{k:Kd}{d:D}(h:evs fs ρ=.ok rs)(hφ:φ (rs.map (·.d))=.ok ⟨k,true,d⟩):aL φ fs ρ=.ok ⟨if k=.shr then .shr else .tmp,true,d⟩:=by
 simp only[aL,h,R.ok_bind,hφ,if_true]
theorem eG {φ:Φ}{fs:FEs}{ρ:Mir.Env}{rs:List Res}{d:D}(h:evs fs ρ=.ok rs)(hφ:φ (rs.map (·.d))=.ok ⟨.shr,true,d⟩):aL φ fs ρ=.ok ⟨.shr,true,d⟩:=(xH h hφ).trans rfl
theorem iP {φ:Φ}{fs:FEs}{ρ:Mir.Env}{rs:List Res}{d:D}(h:evs fs ρ=.ok rs)(hφ:φ (rs.map (·.d))=.ok ⟨.tmp,true,d⟩):aL φ fs ρ=.ok ⟨.tmp,true,d⟩:=(xH h hφ).trans rfl
theorem rC {f:FE}{ρ:Mir.Env}{fr:Bool}{d:D}(h:f ρ=.ok ⟨.tmp,fr,d⟩):bI f ρ=.rt ⟨.tmp,fr,d⟩:=(aC5 h).trans rfl
theorem wV {f:FE}{ρ:Mir.Env}{fr:Bool}{d:D}(h:f ρ=.ok ⟨.own,fr,d⟩):bI f ρ=.rt ⟨.tmp,fr,d⟩:=(aC5 h).trans rfl
theorem fS {f:FE}{ρ:Mir.Env}{fr:Bool}{d:D}(h:f ρ=.ok ⟨.shr,fr,d⟩):bI f ρ=.rt ⟨.shr,fr,d⟩:=(aC5 h).trans rfl
theorem aG {f:FE}{fs:FEs}{ρ:Mir.Env}{r:Res}{rs:List Res}(h:f ρ=.ok r)(h2:evs fs ρ=.ok rs):evs (f :: fs) ρ=.ok (r :: rs):=by simp only[evs,h,h2,R.ok_bind]
theorem bO {ρ:Mir.Env}:evs [] ρ=.ok []:=rfl
theorem aAr {α:Type}{tg:Tg}{b:FB}{fr:Bool}{ρ:Mir.Env}{inj out:α->D}:∀ (xs:List α),(∀ x∈xs,∃ ρ1 k,tg.bind fr (inj x) ρ=.ok ρ1/\b ρ1=.ok (some ⟨k,true,out x⟩)/\k≠.own)->fL tg b fr ρ (xs.map inj)=.ok (true,xs.map out)
 | [],_=>rfl
 | x :: r,h=>by
  obtain⟨ρ1,k,h1,h2,h3⟩:=h x Ab;have ih:=aAr r fun y hy=>h y (Ac _ hy);simp only[Ai,fL,h1,R.ok_bind,h2,Res.give,if_neg h3,ih];rfl
theorem fP {α:Type}{it:FI}{tg:Tg}{b:FB}{fr st:Bool}{ρ:Mir.Env}{k:Nat}{fs:List Nat}{inj out:α->D}{xs:List α}(hi:it ρ=.ok ⟨st,fr,xs.map inj⟩)
 (h:∀ x∈xs,∃ ρ1 k',tg.bind fr (inj x) (dP k fs ρ)=.ok ρ1/\b ρ1=.ok (some ⟨k',true,out x⟩)/\k'≠.own) (hz:xs.length<=sizeLine):aW it k fs tg b ρ=.ok ⟨.tmp,true,.lst (xs.map out)⟩:=by
 have:=aAr xs h
 simp only[aW,hi,R.ok_bind,this,Ad,if_pos hz]
theorem iM {f:FE}{ρ:Mir.Env}{r:Res}(h:f ρ=.ok r):bE f ρ=.ok (some r):=by simp only[bE,h,R.ok_bind]
theorem aBp {α β:Type}{tg:Tg}{b:FS}{fr:Bool}{inj:α->D}{step:β->α->β}{Q:β->Mir.Env->Prop}:∀ (xs:List α) (s:β) (ρ:Mir.Env),Q s ρ ->
 (∀ x∈xs,∀ s ρ,Q s ρ->∃ ρ1 ρ2,tg.bind fr (inj x) ρ=.ok ρ1/\b ρ1=.nx ρ2/\Q (step s x) ρ2)->∃ ρ',fG tg b fr (xs.map inj) ρ=.nx ρ'/\Q (xs.foldl step s) ρ'
 | [],s,ρ,h,_=>⟨ρ,rfl,h⟩
 | x :: r,s,ρ,h,hs=>by
  obtain⟨ρ1,ρ2,h1,h2,h3⟩:=hs x Ab s ρ h;obtain⟨ρ',h4,h5⟩:=aBp r (step s x) ρ2 h3 fun y hy=>hs y (Ac _ hy);refine⟨ρ',?_,h5⟩
  simp only[Ai,fG,h1,R.at,h2];exact h4
theorem aBv (lo:Int)(n:Nat):rS lo n=(Af n).map fun (i:Nat)=>.int (lo+(i:Int)):=rfl
theorem aUx (n:Nat):rS 0 n=(Af n).map fun (i:Nat)=>.int (i:Int):=by
 rw[aBv];simp
theorem rT {α β:Type}(f:α->D)(g:β->D)(xs:List α)(ys:List β):xD (xs.map f) (ys.map g)=(xs.zip ys).map fun p=>.tup [f p.1,g p.2]:=by
 unfold xD;rw[List.zipWith_map,←List.map_uncurry_zip_eq_zipWith];rfl
theorem aP3 {n:Nat}(h:n<2^250):n<2^1000:=An h (Cn (by decide) (by decide))
theorem qN {i j:Int}(h1:i.natAbs<2^1000)(h2:j.natAbs<2^1000):CM i j=true:=by
 have lg:∀ n:Nat,n<2^1000->n.log2<1000000:=fun n h=>by
  by_cases z:n=0
  · subst z;decide
  · exact Nat.lt_trans ((Nat.log2_lt z).mpr h) (by decide)
 unfold CM;rw[decide_eq_true (lg _ h1),decide_eq_true (lg _ h2)];rfl
theorem aDo (a b:Int):lB (.int a) (.int b)=.ok (decide (a=b)):=by
 by_cases h:a=b
 · subst h;simp[lB,gB,SeqAt.shaped,PyData.canLay0,PyData.depth,PyData.eqv]
 · simp[lB,gB,SeqAt.shaped,PyData.canLay0,PyData.depth,PyData.eqv,h]
theorem jG:∀ zs:List Int,cZ (li zs)=.ok zs
 | []=>rfl
 | z :: r=>by
  have:=jG r
  simp only[li,Ai,cZ]at this ⊢;simp[this,asI]
theorem yZ {xs:List D}{k:Nat}{d:D}(h:xs[k]?=some d):atI xs (k:Int)=some d:=by
 have hk:=(Bl.mp h).1;have hn:¬ (k:Int)<0:=by omega
 unfold atI ixN;rw[if_pos (by omega),if_pos (by omega)]
 simpa using h
theorem gO {f:FE}{ρ:Mir.Env}{k:Kd}{fr:Bool}{ds:List D}(h:f ρ=.ok ⟨k,fr,.lst ds⟩):cB f ρ=.ok (sc (.int ds.length)):=by simp only[cB,h,R.ok_bind,asS]
theorem lJ {f:FE}{ρ:Mir.Env}{k:Kd}{fr:Bool}{ds:List D}(h:f ρ=.ok ⟨k,fr,.lst ds⟩):cN f ρ=.ok ⟨k != .own,fr,ds⟩:=by simp only[cN,h,R.ok_bind,asL]
theorem kT {f g:FE}{ρ:Mir.Env}{k k':Kd}{fr fr':Bool}{i j:Int}(h1:f ρ=.ok ⟨k,fr,.int i⟩)(h2:g ρ=.ok ⟨k',fr',.int j⟩):neE f g ρ=.ok (sc (.bl (!decide (i=j)))):=by simp only[neE,h1,h2,R.ok_bind,aDo]
theorem uE {f g:FE}{ρ:Mir.Env}{k k':Kd}{fr fr':Bool}{i j:Int}(h1:f ρ=.ok ⟨k,fr,.int i⟩)(h2:g ρ=.ok ⟨k',fr',.int j⟩):eqE f g ρ=.ok (sc (.bl (decide (i=j)))):=by simp only[eqE,h1,h2,R.ok_bind,aDo]
theorem aIp {f g:FE}{ρ:Mir.Env}{r r':Res}{b:Bool}(h1:f ρ=.ok r)(h2:g ρ=.ok r')(h:lB r.d r'.d=.ok b):eqE f g ρ=.ok (sc (.bl b)):=by simp only[eqE,h1,h2,R.ok_bind,h]
theorem aOt {f g:FE}{ρ:Mir.Env}{r r':Res}{b:Bool}(h1:f ρ=.ok r)(h2:g ρ=.ok r')(h:lB r.d r'.d=.ok b):neE f g ρ=.ok (sc (.bl (!b))):=by simp only[neE,h1,h2,R.ok_bind,h]
theorem jL {G:Int->Int->Bool}{f g:FE}{ρ:Mir.Env}{k k':Kd}{fr fr':Bool}{i j:Int}(h1:f ρ=.ok ⟨k,fr,.int i⟩)(h2:g ρ=.ok ⟨k',fr',.int j⟩):aIs G f g ρ=.ok (sc (.bl (G i j))):=by simp only[aIs,h1,h2,R.ok_bind,asI]
theorem bM {C:Int->Int->Bool}{G:Int->Int->Int}{f g:FE}{ρ:Mir.Env}{k k':Kd}{fr fr':Bool}{i j:Int}(h1:f ρ=.ok ⟨k,fr,.int i⟩)(h2:g ρ=.ok ⟨k',fr',.int j⟩)(hc:C i j=true):i2E C G f g ρ=.ok (sc (.int (G i j))):=by
 simp only[i2E,h1,h2,R.ok_bind,asI,hc,if_true]
theorem aHt {f:FE}{ρ:Mir.Env}{x:Res}{j:Int}(h:f ρ=.ok x)(hx:x.d=.int j)(c:-(2^62)<=j/\j<2^62):dX f ρ=.ok ⟨true,true,rS 0 j.toNat⟩:=by
 simp only[dX,h,hx,asI,R.ok_bind];rw[if_pos c]
theorem jW {f:FE}{ρ:Mir.Env}{k:Kd}{fr:Bool}{n:Nat}(h:f ρ=.ok ⟨k,fr,.int n⟩)(hn:(n:Int)<2^62):dX f ρ=.ok ⟨true,true,(Af n).map fun (i:Nat)=>.int (i:Int)⟩ :=
 (aHt h rfl ⟨by omega,hn⟩).trans (by rw[Ec,aUx])
theorem iA {f g:FE}{ρ:Mir.Env}{k k':Kd}{fr fr':Bool}{ds:List D}{i:Nat}{d:D}(h1:f ρ=.ok ⟨k,fr,.lst ds⟩)(h2:g ρ=.ok ⟨k',fr',.int i⟩)(h:ds[i]?=some d):bG f g ρ=.ok ⟨.shr,fr||d.imm,d⟩:=by
 simp only[bG,h1,h2,R.ok_bind,asS,asI,yZ h]
theorem gK {f g:FE}{ρ:Mir.Env}{k k':Kd}{fr fr':Bool}{ds:List D}{i:Nat}{z:Int}(h1:f ρ=.ok ⟨k,fr,.lst ds⟩)(h2:g ρ=.ok ⟨k',fr',.int i⟩)(h:ds[i]?=some (.int z)):bG f g ρ=.ok ⟨.shr,true,.int z⟩ :=
 (iA h1 h2 h).trans (by simp[D.imm])
end Mir
namespace Mir
open PySem L2
theorem aA7 {φ:Φ}{fs:FEs}{ρ:Mir.Env}{rs:List Res}{k:Kd}{d:D}{y:Bool×List D}(h:evs fs ρ=.ok rs)(hφ:φ (rs.map (·.d))=.ok ⟨k,false,d⟩)(hg:gives rs=.ok y):aL φ fs ρ=.ok ⟨if k=.shr then .shr else .tmp,y.1,d⟩:=by
 simp only[aL,h,R.ok_bind,hφ,Cf,if_false,hg]
theorem aDp {a b:FE}{ρ:Mir.Env}{x y:Res}{lo:Int}{m:Nat}(ha:a ρ=.ok x)(hx:x.d=.int lo)(hb:b ρ=.ok y)(hy:y.d=.int (lo+m))(h1:0<=lo)(h2:lo+m<2^62):nJ a b ρ=.ok ⟨true,true,rS lo m⟩:=by
 have r1:-(2^62)<=lo/\lo<2^62/\-(2^62)<=lo+(m:Int)/\lo+(m:Int)<2^62:=by omega
 have r2:(lo+(m:Int)-lo).toNat=m:=by omega
 simp only[nJ,ha,hb,hx,hy,asI,R.ok_bind];rw[if_pos r1,r2]
theorem rK {i:Nat}{f:FE}{ρ:Mir.Env}{fr fr':Bool}{ds:List D}{k:Kd}{d:D}(ho:ρ[i]?=some (some ⟨.own,fr,.lst ds⟩))(h:f ρ=.ok ⟨k,fr',d⟩)(hk:k≠.own)(hz:ds.length<sizeLine):kJ i f ρ=.nx (ρ.set i (some ⟨.own,fr&&fr',.lst (ds++[d])⟩)):=by
 simp only[kJ,uL,ho,R.at,h,Res.give,if_neg hk,if_pos hz]
end Mir
namespace Mir
open PySem L2
mutual
def D.pl:D->Nat->Bool
 | .non,_=>true
 | .bl _,_=>true
 | .int _,_=>true
 | .lst ds,n=>decide (0<n)&&D.pls ds (n-1)
 | .tup ds,n=>decide (0<n)&&D.pls ds (n-1)
 | _,_=>false
def D.pls:List D->Nat->Bool
 | [],_=>true
 | d :: r,n=>D.pl d n&&D.pls r n
end
mutual
theorem aIj:∀ (d:D) (n:Nat),d.pl n=true->∃ p,gB d=some p/\p.depth<=n/\p.canLay0=true/\PyData.eqv p p=true
 | .non,n,_=>⟨.none,rfl,by simp[PyData.depth],by simp[PyData.canLay0],by simp[PyData.eqv]⟩
 | .bl b,n,_=>⟨.bool b,rfl,by simp[PyData.depth],by simp[PyData.canLay0],by simp[PyData.eqv]⟩
 | .int i,n,_=>⟨.int i,rfl,by simp[PyData.depth],by simp[PyData.canLay0],by simp[PyData.eqv]⟩
 | .str _,_,h=>by simp[D.pl]at h
 | .obj _ _,_,h=>by simp[D.pl]at h
 | .dct _ _,_,h=>by simp[D.pl]at h
 | .any,_,h=>by simp[D.pl]at h
 | .exc _ _,_,h=>by simp[D.pl]at h
 | .lst ds,n,h=>by
  simp only[D.pl,Df,decide_eq_true_eq]at h;obtain⟨ps,h1,h2,h3,h4⟩:=aCv ds (n-1) h.2;refine⟨.list ps,by simp only[gB,h1,Fq],?_,by simpa only[PyData.canLay0] using h3,by simpa only[PyData.eqv] using h4⟩
  simp only[PyData.depth];omega
 | .tup ds,n,h=>by
  simp only[D.pl,Df,decide_eq_true_eq]at h;obtain⟨ps,h1,h2,h3,h4⟩:=aCv ds (n-1) h.2;refine⟨.tuple ps,by simp only[gB,h1,Fq],?_,by simpa only[PyData.canLay0] using h3,by simpa only[PyData.eqv] using h4⟩
  simp only[PyData.depth];omega
theorem aCv:∀ (ds:List D) (n:Nat),D.pls ds n=true->∃ ps,mC ds=some ps/\PyData.depthAll ps<=n/\PyData.canLayAll0 ps=true/\PyData.eqvAll ps ps=true
 | [],n,_=>⟨[],rfl,by simp[PyData.depthAll],by simp[PyData.canLayAll0],by simp[PyData.eqvAll]⟩
 | d :: r,n,h=>by
  simp only[D.pls,Df]at h;obtain⟨p,a1,a2,a3,a4⟩:=aIj d n h.1;obtain⟨ps,h1,h2,h3,h4⟩:=aCv r n h.2;refine⟨p :: ps,by simp only[mC,a1,h1,Hu,Fq],?_,by simp only[PyData.canLayAll0,a3,h3,Ht],by simp only[PyData.eqvAll,a4,h4,Ht]⟩
  simp only[PyData.depthAll];omega
end
theorem oW {d:D}(n:Nat)(h:d.pl n=true)(hn:n<=64):lB d d=.ok true:=by
 obtain⟨p,h1,h2,h3,h4⟩:=aIj d n h
 have s:SeqAt.shaped p=true:=by
  unfold SeqAt.shaped;rw[h3,decide_eq_true (Bj h2 hn)];rfl
 unfold lB;rw[h1];simp only[s,Ht,if_true,h4]
theorem yI {n:Nat}:∀ {ds:List D},(∀ d∈ds,d.pl n=true)->D.pls ds n=true
 | [],_=>rfl
 | d :: r,h=>by
  simp only[D.pls,h d Ab,yI fun x hx=>h x (Ac _ hx),Ht]
theorem aHw (xs:List Int)(n:Nat):D.pls (li xs) n=true:=yI fun d hd=>by
 obtain⟨i,_,rfl⟩:=Ah.mp hd;rfl
theorem aQ2 (xs:List Int)(n:Nat)(h:0<n):(D.lst (li xs)).pl n=true:=by
 simp only[D.pl,aHw,Bool.and_true,decide_eq_true_eq];exact h
theorem aBo {α:Type}{tg:Tg}{b:FS}{fr:Bool}{inj out:α->D}{E:List D->Mir.Env->Prop}:∀ (xs:List α) (acc:List D) (ρ:Mir.Env),(∀ x∈xs,∀ acc ρ,acc.length<sizeLine->E acc ρ->∃ ρ1 ρ2,tg.bind fr (inj x) ρ=.ok ρ1/\b ρ1=.nx ρ2/\E (acc++[out x]) ρ2) ->
 acc.length+xs.length<=sizeLine->E acc ρ->∃ ρ',fG tg b fr (xs.map inj) ρ=.nx ρ'/\E (acc++xs.map out) ρ'
 | [],acc,ρ,_,_,h=>⟨ρ,rfl,by simpa using h⟩
 | x :: r,acc,ρ,hs,hz,h=>by
  rw[Al]at hz;obtain⟨ρ1,ρ2,h1,h2,h3⟩:=hs x Ab acc ρ (by omega) h
  obtain⟨ρ',h4,h5⟩:=aBo r (acc++[out x]) ρ2 (fun y hy=>hs y (Ac _ hy)) (by rw[Ak,Ar];omega) h3
  refine⟨ρ',?_,by simpa using h5⟩
  simp only[Ai,fG,h1,R.at,h2];exact h4
theorem xI {α:Type}(f:α->D)(xs:List α):qQ (xs.map f)=xs.zipIdx.map fun p=>.tup [.int p.2,f p.1]:=by
 unfold qQ;rw[List.zipIdx_map,Bt];rfl
theorem mH {f:FE}{ρ:Mir.Env}{k:Kd}{fr:Bool}{i:Int}(h:f ρ=.ok ⟨k,fr,.int i⟩):soO f ρ=.ok (some i):=by simp only[soO,h,R.ok_bind,asI]
theorem jU {f:FE}{lo hi:FO}{ρ:Mir.Env}{k:Kd}{fr:Bool}{ds:List D}{a b:Option Int}(h:f ρ=.ok ⟨k,fr,.lst ds⟩)(hl:lo ρ=.ok a)(hh:hi ρ=.ok b):eI f lo hi ρ=.ok ⟨.tmp,fr,.lst (mQ ds a b)⟩:=by
 simp only[eI,h,hl,hh,R.ok_bind,asL]
theorem aPh {i:Nat}{j f:FE}{ρ:Mir.Env}{fr fr':Bool}{ds:List D}{k k':Kd}{f':Bool}{d:D}{z:Int}{n:Nat}(hf:f ρ=.ok ⟨k,fr',d⟩)(hk:k≠.own)(ho:ρ[i]?=some (some ⟨.own,fr,.lst ds⟩))(hj:j ρ=.ok ⟨k',f',.int z⟩)(hx:L2.ixN ds.length z=some n) :
 xZ i j f ρ=.nx (ρ.set i (some ⟨.own,fr&&fr',.lst (ds.set n d)⟩)):=by
 simp only[xZ,hf,R.at,Res.give,if_neg hk,uL,ho,hj,asI,hx]
end Mir
namespace N82
open PySem L2 Mir
def top (i:Nat):Stmt:=PySem.Challenge.pw_flatmeet_k82_equations_by_boxes.main.body.getD i (.Pass ⟨0,0,0,0⟩)
structure Blt (mg:Str->Option Value):Prop where
 len_:mg "len" = none
 enumerate_:mg "enumerate" = none
 range_:mg "range" = none
 abs_:mg "abs" = none
 zip_:mg "zip" = none
 list_:mg "list" = none
 set_:mg "set" = none
 sorted_:mg "sorted" = none
 tuple_:mg "tuple" = none
 isinstance_:mg "isinstance" = none
 g_MOST_WAYS:∃ t,mg "MOST_WAYS" = some (.int 5 t)
section
variable {Pg:Program}{w:World}{K:PySem.W.Frag}{mg:Str->Option Value}{base:Heap}{k:Nat}{T:Addr}
abbrev gN:Stmt:=aKs (top 14) 0
theorem aCu:FnScope ("self" :: dU 1) ("self" :: dU 1) (aN gN):=⟨rfl,rfl,rfl,by decide +kernel,rfl,by decide +kernel,by decide +kernel⟩
theorem aF4 (O:OC K 1){f:Addr}{fd:FuncData}(F:Fun K "__init__" "Cleared.__init__" gN f fd):FnOk Pg w K mg base (CXM Pg w) 1 f fd ("self" :: dU 1) (spI K 1):=aTa F aCu O fun cdv A outer s H E=>sC (aCm (pv 0) (pv 1) rfl) (sC (aCm (pv 0) (pv 2) rfl) (aDk (aCm (pv 0) (pv 3) rfl)))
abbrev fT:Stmt:=top 7
theorem lG:FnScope ["one","other"] ["one","other"] (aN fT):=⟨rfl,rfl,rfl,by decide +kernel,rfl,by decide +kernel,by decide +kernel⟩
def uN:FS :=
 (ifS (bT (neE (cB (vE 0)) (cB (vE 1))))
  (zW)
  cI)
def dO:Φ:=cJ 2 2 uN
theorem iJ (B:Blt mg)  (F:bU K mg "check_alike" fT ["one","other"]):aK Pg w K mg base (CXM Pg w) (k+1) "check_alike" ["one","other"] (spM K (clK K) dO):=by
 have nd:=lG.nd;refine dQ F lG fun f cdv A outer s H E hr=>?_
 have hu:=hr.units
 exact(aR (fX (pA hu (kB rfl B.len_ (m_v 0)) (kB rfl B.len_ (m_v 1)))
  (aR aGz)
  eK))
abbrev fQ:Stmt:=top 8
theorem lF:FnScope ["many"] ["many"] (aN fQ):=⟨rfl,rfl,rfl,by decide +kernel,rfl,by decide +kernel,by decide +kernel⟩
def uR:FS :=
 (ifS (orT (bT (ltE (vE 0) (cE (.int 1)))) (bT (gtE (vE 0) (cE (.int 5)))))
  (zW)
  cI)
def dN:Φ:=cJ 1 1 uR
theorem iI (B:Blt mg)  (F:bU K mg "check_count" fQ ["many"]):aK Pg w K mg base (CXM Pg w) (k+1) "check_count" ["many"] (spM K (clK K) dN):=by
 have nd:=lF.nd;refine dQ F lF fun f cdv A outer s H E hr=>?_
 have hu:=hr.units
 exact(aR (fX (PW.pt (aS2 (aBl (m_v 0) bB) (aR5 (aOs (m_v 0) (aR8 rfl B.g_MOST_WAYS)))))
  (aR aGz)
  eK))
abbrev gI:Stmt:=top 9
theorem mI:FnScope ["many","rows","place","row"] ["many","rows"] (aN gI):=⟨rfl,rfl,rfl,by decide +kernel,rfl,by decide +kernel,by decide +kernel⟩
def yJ:FS :=
 (aJ (kC (aL dN [vE 0]))
 (dR (pH (vE 1)) (.tp [.nm 2,.nm 3])
  (ifS (bT (neE (cB (vE 3)) (vE 0)))
   (zW)
   cI)))
def eX:Φ:=cJ 2 4 yJ
theorem jP (B:Blt mg)(iI:aK Pg w K mg base (CXM Pg w) k "check_count" ["many"] (spM K (clK K) dN))(F:bU K mg "check_rows" gI ["many","rows"]):aK Pg w K mg base (CXM Pg w) (k+1) "check_rows" ["many","rows"] (spM K (clK K) eX):=by
 have nd:=mI.nd;refine dQ F mI fun f cdv A outer s H E hr=>?_
 have hu:=hr.units
 exact(aC (aCe (cL iI hr rfl gX (aA (m_v 0) aO)))
  (aR (lL iY rfl (xN rfl B.enumerate_ (m_v 1)) (oM rfl (bR (bQ nd rfl (Or.inl rfl)) (bR (bQ nd rfl (Or.inl rfl)) gH)))
   (aR (fX (pA hu (kB rfl B.len_ (m_v 3)) (m_v 0))
    (aR aGz)
    eK)))))
abbrev qZ:Stmt:=top 10
theorem aA1:FnScope ["many"] ["many"] (aN qZ):=⟨rfl,rfl,rfl,by decide +kernel,rfl,by decide +kernel,by decide +kernel⟩
def aNm:FS :=
 (bI (aW (dX (vE 0)) 1 [0] (.nm 0) (bE (aW (dX (vE 1)) 1 [0] (.nm 0) (bE (ifE (bT (eqE (vE 0) (vE 1))) (cE (.int 1)) (cE (.int 0))))))))
def nO:Φ:=cJ 1 1 aNm
theorem xM (B:Blt mg)  (F:bU K mg "units" qZ ["many"]):aK Pg w K mg base (CXM Pg w) (k+1) "units" ["many"] (spM K (clK K) nO):=by
 have nd:=aA1.nd;refine dQ F aA1 fun f cdv A outer s H E hr=>?_
 have hu:=hr.units;exact(aR (dW (fO rfl (bD (XN:=["many"]) (N:=["place","many"]) (k:=1) (fs:=[0]) rfl rfl rfl (by decide +kernel)) (jY rfl B.range_ (m_v 0)) (fun _ _ _=>(bQ (show (["place","many"]:List Str).Nodup by decide +kernel) rfl (Or.inr rfl))) (jT rfl) (fun _ _ _=>fM (fO rfl (wI (N:=["way","place"]) (k:=1) (fs:=[0]) (bD (XN:=["many"]) (N:=["place","many"]) (k:=1) (fs:=[0]) rfl rfl rfl (by decide +kernel)) (by decide +kernel)) (jY rfl B.range_ (m_v 1)) (fun _ _ _=>(bQ (show (["way","place"]:List Str).Nodup by decide +kernel) rfl (Or.inl rfl))) (jT rfl) (fun _ _ _=>fM (aWf (wP hu (m_v 0) (m_v 1)) bB bB)))))))
abbrev eE:Stmt:=top 11
theorem hZ:FnScope ["numbers","common","number","rest","before"] ["numbers"] (aN eE):=⟨rfl,rfl,rfl,by decide +kernel,rfl,by decide +kernel,by decide +kernel⟩
def pM:FS :=
 (aJ (aF 1 (cE (.int 0)))
 (aJ (dR (cN (vE 0)) (.nm 2)
  (aJ (aF 3 (sU (vE 2)))
  (aB1 (bT (neE (vE 3) (cE (.int 0))))
   (aJ (aF 4 (vE 1))
   (aJ (aF 1 (vE 3))
   (aF 3 (gZ (vE 4) (vE 3))))))))
 (bI (vE 1))))
def bC:Φ:=cJ 1 5 pM
theorem dD (B:Blt mg)  (F:bU K mg "common_divisor" eE ["numbers"]):aK Pg w K mg base (CXM Pg w) (k+1) "common_divisor" ["numbers"] (spM K (clK K) bC):=by
 have nd:=hZ.nd;refine dQ F hZ fun f cdv A outer s H E hr=>?_
 have hu:=hr.units
 exact(aC (bK (i:=1) nd rfl (Or.inl rfl) bB)
  (aC (lL iY rfl (gA (m_v 0)) (bQ nd rfl (Or.inl rfl))
   (aC (bK (i:=3) nd rfl (Or.inl rfl) (aO9 rfl B.abs_ (m_v 2)))
   (aR (aO1 iY (pA hu (m_v 3) bB)
    (aC (bK (i:=4) nd rfl (Or.inl rfl) (m_v 1))
    (aC (bK (i:=1) nd rfl (Or.inl rfl) (m_v 3))
    (aR (bK (i:=3) nd rfl (Or.inl rfl) (rY (m_v 4) (m_v 3))))))))))
  (aR (dW (m_v 1)))))
abbrev oC:Stmt:=top 12
theorem vC:FnScope ["bottom","tops","common"] ["bottom","tops"] (aN oC):=⟨rfl,rfl,rfl,by decide +kernel,rfl,by decide +kernel,by decide +kernel⟩
def aKn:FS :=
 (aJ (aF 2 (aL bC [eN (dF [vE 0]) (vE 1)]))
 (bI (eW [kI (vE 0) (vE 2),aW (cN (vE 1)) 1 [2] (.nm 0) (bE (kI (vE 0) (vE 1)))])))
def iT:Φ:=cJ 2 3 aKn
theorem tV (B:Blt mg)(dD:aK Pg w K mg base (CXM Pg w) k "common_divisor" ["numbers"] (spM K (clK K) bC))(F:bU K mg "lowest" oC ["bottom","tops"]):aK Pg w K mg base (CXM Pg w) (k+1) "lowest" ["bottom","tops"] (spM K (clK K) iT):=by
 have nd:=vC.nd;refine dQ F vC fun f cdv A outer s H E hr=>?_
 have hu:=hr.units
 exact(aC (bK (i:=2) nd rfl (Or.inr rfl) (cL dD hr rfl gX (aA (nH (kW (aA (m_v 0) aO)) (m_v 1)) aO)))
  (aR (dW (tK (aA (aDw (m_v 0) (m_v 2)) (aA (fO rfl (bD (XN:=["bottom","tops","common"]) (N:=["top","common"]) (k:=1) (fs:=[2]) rfl rfl rfl (by decide +kernel)) (gA (m_v 1)) (fun _ _ _=>(bQ (show (["top","common"]:List Str).Nodup by decide +kernel) rfl (Or.inl rfl))) (jT rfl) (fun _ _ _=>fM (aDw (m_v 0) (m_v 1)))) aO))))))
abbrev rB:Stmt:=top 13
theorem aAx:FnScope ["rows","top","way","bottom","chosen","head","told","place","row"] ["rows","top","way","bottom"] (aN rB):=⟨rfl,rfl,rfl,by decide +kernel,rfl,by decide +kernel,by decide +kernel⟩
def aLa:FS :=
 (aJ (aF 4 (bG (vE 0) (vE 1)))
 (aJ (aF 5 (bG (vE 4) (vE 2)))
 (aJ (aF 6 (dF []))
 (aJ (gJ 0 (dR (pH (vE 0)) (.tp [.nm 7,.nm 8])
  (ifS (bT (eqE (vE 7) (vE 1)))
   (gJ 4 (kJ 6 (vE 4)))
   (kJ 6 (aW (nN (vE 8) (vE 4)) 2 [3,5,8,2] (.tp [.nm 0,.nm 1]) (bE (pU (mK (cX (vE 3) (vE 0)) (cX (bG (vE 4) (vE 5)) (vE 1))) (vE 2))))))))
 (bI (vE 6))))))
def nV:Φ:=cJ 4 9 aLa
theorem yV (B:Blt mg)  (F:bU K mg "swept" rB ["rows","top","way","bottom"]):aK Pg w K mg base (CXM Pg w) (k+1) "swept" ["rows","top","way","bottom"] (spM K (clK K) nV):=by
 have nd:=aAx.nd;refine dQ F aAx fun f cdv A outer s H E hr=>?_
 have hu:=hr.units
 exact(aC (bK (i:=4) nd rfl (Or.inl rfl) (eU (m_v 0) (m_v 1)))
  (aC (bK (i:=5) nd rfl (Or.inr rfl) (eU (m_v 4) (m_v 2)))
  (aC (bK (i:=6) nd rfl (Or.inl rfl) (kW aO))
  (aC (tP (i:=0) (lL iY rfl (xN rfl B.enumerate_ (m_v 0)) (oM rfl (bR (bQ nd rfl (Or.inl rfl)) (bR (bQ nd rfl (Or.inr rfl)) gH)))
   (aR (fX (wP hu (m_v 7) (m_v 1))
    (aR (tP (i:=4) (zU (i:=6) rfl (Or.inl rfl) (m_v 4))))
    (aR (zU (i:=6) rfl (Or.inl rfl) (fO rfl (bD (XN:=["rows","top","way","bottom","chosen","head","told","place","row"]) (N:=["left","right","bottom","head","row","way"]) (k:=2) (fs:=[3,5,8,2]) rfl rfl rfl (by decide +kernel)) (aCt rfl rfl B.zip_ (m_v 8) (m_v 4)) (fun _ _ _=>(oM rfl (bR (bQ (show (["left","right","bottom","head","row","way"]:List Str).Nodup by decide +kernel) rfl (Or.inl rfl)) (bR (bQ (show (["left","right","bottom","head","row","way"]:List Str).Nodup by decide +kernel) rfl (Or.inl rfl)) gH)))) (jT rfl) (fun _ _ _=>fM (aJv (zT (kF (m_v 3) (m_v 0)) (kF (eU (m_v 4) (m_v 5)) (m_v 1))) (m_v 2))))))))))
  (aR (dW (m_v 6)))))))
abbrev lM:Stmt:=top 15
theorem sL:FnScope ["many","rows","lines","heads","bottom","way","top","found"] ["many","rows"] (aN lM):=⟨rfl,rfl,rfl,by decide +kernel,rfl,by decide +kernel,by decide +kernel⟩
def aF7:FS :=
 (aJ (aF 2 (aW (cN (vE 1)) 1 [] (.nm 0) (bE (mT (vE 0)))))
 (aJ (aF 3 (dF []))
 (aJ (aF 4 (cE (.int 1)))
 (aJ (dR (dX (vE 0)) (.nm 5)
  (aJ (aF 6 (cB (vE 3)))
  (aJ (aF 7 (aW (nJ (vE 6) (cB (vE 2))) 1 [5,2] (.nm 0) (Mir.bIf (bT (neE (bG (bG (vE 2) (vE 0)) (vE 1)) (cE (.int 0)))) (vE 0))))
  (ifS (nG (vE 7))
   (aJ (aF 2 (eN (eN (eN (eI (vE 2) (noO) (soO (vE 6))) (dF [bG (vE 2) (bG (vE 7) (cE (.int 0)))])) (eI (vE 2) (soO (vE 6)) (soO (bG (vE 7) (cE (.int 0)))))) (eI (vE 2) (soO (cR (bG (vE 7) (cE (.int 0))) (cE (.int 1)))) (noO))))
   (aJ (gJ 2 (aF 2 (aL nV [vE 2,vE 6,vE 5,vE 4])))
   (aJ (aF 4 (bG (bG (vE 2) (vE 6)) (vE 5)))
   (kJ 3 (vE 5)))))
   cI))))
 (aJ (ifS (bT (ltE (vE 4) (cE (.int 0))))
  (gJ 3 (bI (uJ 1 [nA (vE 4),vE 3,aW (cN (vE 2)) 1 [] (.nm 0) (bE (aW (cN (vE 0)) 1 [] (.nm 0) (bE (nA (vE 0)))))])))
  cI)
 (gJ 2 (gJ 3 (bI (uJ 1 [vE 4,vE 3,vE 2])))))))))
def gM:Φ:=cJ 2 8 aF7
theorem pZ (B:Blt mg)(O1:OC K 1)(U1:aEn Pg w K mg base 1 1)(hk:2<=k)(yV:aK Pg w K mg base (CXM Pg w) k "swept" ["rows","top","way","bottom"] (spM K (clK K) nV))(F:bU K mg "cleared" lM ["many","rows"]):aK Pg w K mg base (CXM Pg w) (k+1) "cleared" ["many","rows"] (spM K (clK K) gM):=by
 have nd:=sL.nd;refine dQ F sL fun f cdv A outer s H E hr=>?_
 have hu:=hr.units
 exact(aC (bK (i:=2) nd rfl (Or.inr rfl) (fO rfl (bD (XN:=["many","rows","lines","heads","bottom","way","top","found"]) (N:=["row"]) (k:=1) (fs:=[]) rfl rfl rfl (by decide +kernel)) (gA (m_v 1)) (fun _ _ _=>(bQ (show (["row"]:List Str).Nodup by decide +kernel) rfl (Or.inl rfl))) (jT rfl) (fun _ _ _=>fM (aIl rfl B.list_ (m_v 0)))))
  (aC (bK (i:=3) nd rfl (Or.inl rfl) (kW aO))
  (aC (bK (i:=4) nd rfl (Or.inl rfl) bB)
  (aC (lL iY rfl (jY rfl B.range_ (m_v 0)) (bQ nd rfl (Or.inr rfl))
   (aC (bK (i:=6) nd rfl (Or.inl rfl) (kB rfl B.len_ (m_v 3)))
   (aC (yN (i:=7) rfl nd rfl rfl (bD (XN:=["many","rows","lines","heads","bottom","way","top","found"]) (N:=["place","way","lines"]) (k:=1) (fs:=[5,2]) rfl rfl rfl (by decide +kernel)) (aDj rfl B.range_ (m_v 6) (kB rfl B.len_ (m_v 2))) (fun _ _ _=>(bQ (show (["place","way","lines"]:List Str).Nodup by decide +kernel) rfl (Or.inl rfl))) (jT rfl) (fun _ _ _=>aAz (pA hu (eU (eU (m_v 2) (m_v 0)) (m_v 1)) bB) (m_v 0)))
   (aR (fX (aDd (m_v 7))
    (aC (bK (i:=2) nd rfl (Or.inr rfl) (nH (nH (nH (nS (m_v 2) tY (lE (m_v 6))) (kW (aA (eU (m_v 2) (eU (m_v 7) bB)) aO))) (nS (m_v 2) (lE (m_v 6)) (lE (eU (m_v 7) bB)))) (nS (m_v 2) (lE (kA (eU (m_v 7) bB) bB)) tY)))
    (aC (tP (i:=2) (bK (i:=2) nd rfl (Or.inr rfl) (cL yV hr rfl gX (aA (m_v 2) (aA (m_v 6) (aA (m_v 5) (aA (m_v 4) aO)))))))
    (aC (bK (i:=4) nd rfl (Or.inl rfl) (eU (eU (m_v 2) (m_v 6)) (m_v 5)))
    (aR (zU (i:=3) rfl (Or.inl rfl) (m_v 5))))))
    eK)))))
  (aC (fX (aBl (m_v 4) bB)
   (aR (tP (i:=3) (dW (aOr (c:=1) U1 (hr.mono hk) rfl (aA (aKi (m_v 4)) (aA (m_v 3) (aA (fO rfl (bD (XN:=["many","rows","lines","heads","bottom","way","top","found"]) (N:=["line"]) (k:=1) (fs:=[]) rfl rfl rfl (by decide +kernel)) (gA (m_v 2)) (fun _ _ _=>(bQ (show (["line"]:List Str).Nodup by decide +kernel) rfl (Or.inl rfl))) (jT rfl) (fun _ _ _=>fM (fO rfl (wI (N:=["number"]) (k:=1) (fs:=[]) (bD (XN:=["many","rows","lines","heads","bottom","way","top","found"]) (N:=["line"]) (k:=1) (fs:=[]) rfl rfl rfl (by decide +kernel)) (by decide +kernel)) (gA (m_v 0)) (fun _ _ _=>(bQ (show (["number"]:List Str).Nodup by decide +kernel) rfl (Or.inl rfl))) (jT rfl) (fun _ _ _=>fM (aKi (m_v 0)))))) aO)))))))
   eK)
  (aR (tP (i:=2) (tP (i:=3) (dW (aOr (c:=1) U1 (hr.mono hk) rfl (aA (m_v 4) (aA (m_v 3) (aA (m_v 2) aO)))))))))))))
abbrev cW:Stmt:=top 17
theorem fW:FnScope ["many","rows","ends"] ["many","rows","ends"] (aN cW):=⟨rfl,rfl,rfl,by decide +kernel,rfl,by decide +kernel,by decide +kernel⟩
def mB:FS :=
 (aJ (kC (aL eX [vE 0,vE 1]))
 (aJ (kC (aL dO [vE 1,vE 2]))
 (bI (aL gM [vE 0,aW (vL (vE 1) (vE 2) (aL nO [cB (vE 1)])) 3 [] (.tp [.nm 0,.nm 1,.nm 2]) (bE (eN (eN (vE 0) (dF [vE 1])) (vE 2)))]))))
def aS:Φ:=cJ 3 3 mB
theorem cC (B:Blt mg)(jP:aK Pg w K mg base (CXM Pg w) k "check_rows" ["many","rows"] (spM K (clK K) eX))(iJ:aK Pg w K mg base (CXM Pg w) k "check_alike" ["one","other"] (spM K (clK K) dO))(pZ:aK Pg w K mg base (CXM Pg w) k "cleared" ["many","rows"] (spM K (clK K) gM))(xM:aK Pg w K mg base (CXM Pg w) k "units" ["many"] (spM K (clK K) nO))(F:bU K mg "cleared_equations" cW ["many","rows","ends"]):aK Pg w K mg base (CXM Pg w) (k+1) "cleared_equations" ["many","rows","ends"] (spM K (clK K) aS):=by
 have nd:=fW.nd;refine dQ F fW fun f cdv A outer s H E hr=>?_
 have hu:=hr.units
 exact(aC (aCe (cL jP hr rfl gX (aA (m_v 0) (aA (m_v 1) aO))))
  (aC (aCe (cL iJ hr rfl gX (aA (m_v 1) (aA (m_v 2) aO))))
  (aR (dW (cL pZ hr rfl gX (aA (m_v 0) (aA (fO rfl (bD (XN:=["many","rows","ends"]) (N:=["row","end","mark"]) (k:=3) (fs:=[]) rfl rfl rfl (by decide +kernel)) (aN8 rfl rfl B.zip_ (m_v 1) (m_v 2) (cL xM hr rfl gX (aA (kB rfl B.len_ (m_v 1)) aO))) (fun _ _ _=>(oM rfl (bR (bQ (show (["row","end","mark"]:List Str).Nodup by decide +kernel) rfl (Or.inl rfl)) (bR (bQ (show (["row","end","mark"]:List Str).Nodup by decide +kernel) rfl (Or.inl rfl)) (bR (bQ (show (["row","end","mark"]:List Str).Nodup by decide +kernel) rfl (Or.inl rfl)) gH))))) (jT rfl) (fun _ _ _=>fM (nH (nH (m_v 0) (kW (aA (m_v 1) aO))) (m_v 2)))) aO)))))))
abbrev fB:Stmt:=top 18
theorem kD:FnScope ["many","found"] ["many","found"] (aN fB):=⟨rfl,rfl,rfl,by decide +kernel,rfl,by decide +kernel,by decide +kernel⟩
def sW:FS :=
 (bI (aW (cN (eI (jF 1 2 (vE 1)) (soO (cB (jF 1 1 (vE 1)))) (noO))) 1 [0] (.nm 0) (Mir.bIf (bT (neE (bG (vE 0) (vE 1)) (cE (.int 0)))) (vE 0))))
def bH:Φ:=cJ 2 2 sW
theorem eD (B:Blt mg)(O1:OC K 1)   (F:bU K mg "barred_lines" fB ["many","found"]):aK Pg w K mg base (CXM Pg w) (k+1) "barred_lines" ["many","found"] (spM K (clK K) bH):=by
 have nd:=kD.nd;refine dQ F kD fun f cdv A outer s H E hr=>?_
 have hu:=hr.units;exact(aR (dW (fO rfl (bD (XN:=["many","found"]) (N:=["line","many"]) (k:=1) (fs:=[0]) rfl rfl rfl (by decide +kernel)) (gA (nS (aAy (c:=1) (i:=2) O1 (m_v 1)) (lE (kB rfl B.len_ (aAy (c:=1) (i:=1) O1 (m_v 1)))) tY)) (fun _ _ _=>(bQ (show (["line","many"]:List Str).Nodup by decide +kernel) rfl (Or.inl rfl))) (jT rfl) (fun _ _ _=>aAz (pA hu (eU (m_v 0) (m_v 1)) bB) (m_v 0)))))
abbrev oK:Stmt:=top 19
theorem wK:FnScope ["many","rows","ends","found","tops","head","line"] ["many","rows","ends"] (aN oK):=⟨rfl,rfl,rfl,by decide +kernel,rfl,by decide +kernel,by decide +kernel⟩
def aHj:FS :=
 (aJ (aF 3 (aL aS [vE 0,vE 1,vE 2]))
 (aJ (ifS (nG (aL bH [vE 0,vE 3]))
  (bI (cE .non))
  cI)
 (aJ (aF 4 (aFl (dF [cE (.int 0)]) (vE 0)))
 (aJ (dR (nN (jF 1 1 (vE 3)) (jF 1 2 (vE 3))) (.tp [.nm 5,.nm 6])
  (xZ 4 (vE 5) (bG (vE 6) (vE 0))))
 (bI (aL iT [jF 1 0 (vE 3),vE 4]))))))
def iQ:Φ:=cJ 3 7 aHj
theorem sB (B:Blt mg)(O1:OC K 1)  (cC:aK Pg w K mg base (CXM Pg w) k "cleared_equations" ["many","rows","ends"] (spM K (clK K) aS))(eD:aK Pg w K mg base (CXM Pg w) k "barred_lines" ["many","found"] (spM K (clK K) bH))(tV:aK Pg w K mg base (CXM Pg w) k "lowest" ["bottom","tops"] (spM K (clK K) iT))(F:bU K mg "answer" oK ["many","rows","ends"]):aK Pg w K mg base (CXM Pg w) (k+1) "answer" ["many","rows","ends"] (spM K (clK K) iQ):=by
 have nd:=wK.nd;refine dQ F wK fun f cdv A outer s H E hr=>?_
 have hu:=hr.units
 exact(aC (bK (i:=3) nd rfl (Or.inl rfl) (cL cC hr rfl gX (aA (m_v 0) (aA (m_v 1) (aA (m_v 2) aO)))))
  (aC (fX (aDd (cL eD hr rfl gX (aA (m_v 0) (aA (m_v 3) aO))))
   (aR (dW aPa))
   eK)
  (aC (bK (i:=4) nd rfl (Or.inl rfl) (aS4 (kW (aA bB aO)) (m_v 0)))
  (aC (lL iY rfl (aCt rfl rfl B.zip_ (aAy (c:=1) (i:=1) O1 (m_v 3)) (aAy (c:=1) (i:=2) O1 (m_v 3))) (oM rfl (bR (bQ nd rfl (Or.inl rfl)) (bR (bQ nd rfl (Or.inl rfl)) gH)))
   (aR (aSr (i:=4) rfl (Or.inl rfl) (m_v 5) (eU (m_v 6) (m_v 0)))))
  (aR (dW (cL tV hr rfl gX (aA (aAy (c:=1) (i:=0) O1 (m_v 3)) (aA (m_v 4) aO)))))))))
abbrev aD9:Stmt:=top 20
theorem aH1:FnScope ["many","rows","ends","found","barred","often","common"] ["many","rows","ends"] (aN aD9):=⟨rfl,rfl,rfl,by decide +kernel,rfl,by decide +kernel,by decide +kernel⟩
def aU0:FS :=
 (aJ (aF 3 (aL aS [vE 0,vE 1,vE 2]))
 (aJ (aF 4 (aL bH [vE 0,vE 3]))
 (aJ (ifS (aCn (nG (vE 4)))
  (bI (cE .non))
  cI)
 (aJ (aF 5 (eI (bG (vE 4) (cE (.int 0))) (soO (cR (vE 0) (cE (.int 1)))) (noO)))
 (aJ (aF 6 (aL bC [vE 5]))
 (bI (aW (cN (vE 5)) 1 [6] (.nm 0) (bE (kI (vE 0) (vE 1))))))))))
def vW:Φ:=cJ 3 7 aU0
theorem aG9 (B:Blt mg)(cC:aK Pg w K mg base (CXM Pg w) k "cleared_equations" ["many","rows","ends"] (spM K (clK K) aS))(eD:aK Pg w K mg base (CXM Pg w) k "barred_lines" ["many","found"] (spM K (clK K) bH))(dD:aK Pg w K mg base (CXM Pg w) k "common_divisor" ["numbers"] (spM K (clK K) bC))(F:bU K mg "bar" aD9 ["many","rows","ends"]):aK Pg w K mg base (CXM Pg w) (k+1) "bar" ["many","rows","ends"] (spM K (clK K) vW):=by
 have nd:=aH1.nd;refine dQ F aH1 fun f cdv A outer s H E hr=>?_
 have hu:=hr.units
 exact(aC (bK (i:=3) nd rfl (Or.inl rfl) (cL cC hr rfl gX (aA (m_v 0) (aA (m_v 1) (aA (m_v 2) aO)))))
  (aC (bK (i:=4) nd rfl (Or.inl rfl) (cL eD hr rfl gX (aA (m_v 0) (aA (m_v 3) aO))))
  (aC (fX (aQk (aDd (m_v 4)))
   (aR (dW aPa))
   eK)
  (aC (bK (i:=5) nd rfl (Or.inl rfl) (nS (eU (m_v 4) bB) (lE (kA (m_v 0) bB)) tY))
  (aC (bK (i:=6) nd rfl (Or.inr rfl) (cL dD hr rfl gX (aA (m_v 5) aO)))
  (aR (dW (fO rfl (bD (XN:=["many","rows","ends","found","barred","often","common"]) (N:=["number","common"]) (k:=1) (fs:=[6]) rfl rfl rfl (by decide +kernel)) (gA (m_v 5)) (fun _ _ _=>(bQ (show (["number","common"]:List Str).Nodup by decide +kernel) rfl (Or.inl rfl))) (jT rfl) (fun _ _ _=>fM (aDw (m_v 0) (m_v 1)))))))))))
abbrev hJ:Stmt:=top 22
theorem nX:FnScope ["_law_script","_law_k"] ["_law_script","_law_k"] (aN hJ):=⟨rfl,rfl,rfl,by decide +kernel,rfl,by decide +kernel,by decide +kernel⟩
def aAe:FS :=
 (aJ (ifS (bT (ltE (vE 1) (cB (vE 0))))
  (bI (gZ (bG (vE 0) (vE 1)) (cE (.int 2147483647))))
  cI)
 (bI (cE (.int 0))))
def dH:Φ:=cJ 2 2 aAe
theorem hG (B:Blt mg)  (F:bU K mg "_law_cell" hJ ["_law_script","_law_k"]):aK Pg w K mg base (CXM Pg w) (k+1) "_law_cell" ["_law_script","_law_k"] (spM K (clK K) dH):=by
 have nd:=nX.nd;refine dQ F nX fun f cdv A outer s H E hr=>?_
 have hu:=hr.units
 exact(aC (fX (aBl (m_v 1) (kB rfl B.len_ (m_v 0)))
  (aR (dW (rY (eU (m_v 0) (m_v 1)) bB)))
  eK)
  (aR (dW bB)))
abbrev eY:Stmt:=top 23
theorem jZ:FnScope ["_law_script","_law_start","_law_many","_law_size","_law_found","_law_k","_law_raw","_law_number"] ["_law_script","_law_start","_law_many","_law_size"] (aN eY):=⟨rfl,rfl,rfl,by decide +kernel,rfl,by decide +kernel,by decide +kernel⟩
def sV:FS :=
 (aJ (aF 4 (dF []))
 (aJ (dR (nJ (vE 1) (cR (vE 1) (vE 2))) (.nm 5)
  (aJ (aF 6 (cR (cX (vE 5) (vE 5)) (cX (cE (.int 3)) (vE 5))))
  (aJ (ifS (bT (ltE (vE 5) (cB (vE 0))))
   (aF 6 (bG (vE 0) (vE 5)))
   cI)
  (aJ (aF 7 (mK (gZ (vE 6) (cR (cX (cE (.int 2)) (vE 3)) (cE (.int 1)))) (vE 3)))
  (aJ (ifS (bT (eqE (gZ (kI (vE 6) (cR (cX (cE (.int 2)) (vE 3)) (cE (.int 1)))) (cE (.int 3))) (cE (.int 0))))
   (aF 7 (cE (.int 0)))
   cI)
  (kJ 4 (vE 7)))))))
 (bI (vE 4))))
def dB:Φ:=cJ 4 8 sV
theorem gT (B:Blt mg)  (F:bU K mg "_law_numbers" eY ["_law_script","_law_start","_law_many","_law_size"]):aK Pg w K mg base (CXM Pg w) (k+1) "_law_numbers" ["_law_script","_law_start","_law_many","_law_size"] (spM K (clK K) dB):=by
 have nd:=jZ.nd;refine dQ F jZ fun f cdv A outer s H E hr=>?_
 have hu:=hr.units
 exact(aC (bK (i:=4) nd rfl (Or.inl rfl) (kW aO))
  (aC (lL iY rfl (aDj rfl B.range_ (m_v 1) (kA (m_v 1) (m_v 2))) (bQ nd rfl (Or.inl rfl))
   (aC (bK (i:=6) nd rfl (Or.inl rfl) (kA (kF (m_v 5) (m_v 5)) (kF bB (m_v 5))))
   (aC (fX (aBl (m_v 5) (kB rfl B.len_ (m_v 0)))
    (aR (bK (i:=6) nd rfl (Or.inl rfl) (eU (m_v 0) (m_v 5))))
    eK)
   (aC (bK (i:=7) nd rfl (Or.inl rfl) (zT (rY (m_v 6) (kA (kF bB (m_v 3)) bB)) (m_v 3)))
   (aC (fX (wP hu (rY (aDw (m_v 6) (kA (kF bB (m_v 3)) bB)) bB) bB)
    (aR (bK (i:=7) nd rfl (Or.inl rfl) bB))
    eK)
   (aR (zU (i:=4) rfl (Or.inl rfl) (m_v 7))))))))
  (aR (dW (m_v 4)))))
abbrev fA:Stmt:=top 25
theorem kG:FnScope ["_law_one","_law_other","_law_total","_law_left","_law_number","_law_right","_law_count","_law_places","_law_turns","_law_k","_law_rising"] ["_law_one","_law_other"] (aN fA):=⟨rfl,rfl,rfl,by decide +kernel,rfl,by decide +kernel,by decide +kernel⟩
def uD:FS :=
 (aJ (aF 2 (aEk))
 (aJ (dR (cN (vE 0)) (.tp [.nm 3,.nm 4])
  (dR (cN (vE 1)) (.tp [.nm 5,.nm 6])
   (aJ (aF 7 (eN (mT (vE 3)) (mT (vE 5))))
   (ifS (bT (eqE (wN (vE 7)) (cB (vE 7))))
    (aJ (aF 8 (cE (.int 0)))
    (aJ (dR (dX (cB (vE 7))) (.nm 9)
     (aF 8 (cR (vE 8) (cB (aW (cN (eI (vE 7) (noO) (soO (vE 9)))) 1 [7,9] (.nm 0) (Mir.bIf (bT (gtE (vE 0) (bG (vE 1) (vE 2)))) (vE 0)))))))
    (aJ (aF 10 (aGl (vI (vE 7))))
    (wS 2 (vE 10) (cR (aCo (vE 2) (vE 10) (cE (.int 0))) (cX (cX (vE 4) (vE 6)) (mK (cE (.int 1)) (cX (cE (.int 2)) (gZ (vE 8) (cE (.int 2)))))))))))
    cI))))
 (gJ 7 (bI (wT (aC1 2 1 (.nm 0) (Mir.bIf (bT (neE (mE (vE 1) (vE 0)) (cE (.int 0)))) (eW [vE 0,mE (vE 1) (vE 0)]))))))))
def dC:Φ:=cJ 2 11 uD
theorem gS (B:Blt mg)  (F:bU K mg "_law_product" fA ["_law_one","_law_other"]):aK Pg w K mg base (CXM Pg w) (k+1) "_law_product" ["_law_one","_law_other"] (spM K (clK K) dC):=by
 have nd:=kG.nd;refine dQ F kG fun f cdv A outer s H E hr=>?_
 have hu:=hr.units
 exact(aC (bK (i:=2) nd rfl (Or.inr rfl) aQf)
  (aC (lL iY rfl (gA (m_v 0)) (oM rfl (bR (bQ nd rfl (Or.inl rfl)) (bR (bQ nd rfl (Or.inl rfl)) gH)))
   (aR (lL iY rfl (gA (m_v 1)) (oM rfl (bR (bQ nd rfl (Or.inl rfl)) (bR (bQ nd rfl (Or.inl rfl)) gH)))
    (aC (bK (i:=7) nd rfl (Or.inr rfl) (nH (aIl rfl B.list_ (m_v 3)) (aIl rfl B.list_ (m_v 5))))
    (aR (fX (wP hu (aNb rfl rfl B.len_ rfl B.set_ (m_v 7)) (kB rfl B.len_ (m_v 7)))
     (aC (bK (i:=8) nd rfl (Or.inl rfl) bB)
     (aC (lL iY rfl (jY rfl B.range_ (kB rfl B.len_ (m_v 7))) (bQ nd rfl (Or.inr rfl))
      (aR (bK (i:=8) nd rfl (Or.inl rfl) (kA (m_v 8) (kB rfl B.len_ (fO rfl (bD (XN:=["_law_one","_law_other","_law_total","_law_left","_law_number","_law_right","_law_count","_law_places","_law_turns","_law_k","_law_rising"]) (N:=["_law_place","_law_places","_law_k"]) (k:=1) (fs:=[7,9]) rfl rfl rfl (by decide +kernel)) (gA (nS (m_v 7) tY (lE (m_v 9)))) (fun _ _ _=>(bQ (show (["_law_place","_law_places","_law_k"]:List Str).Nodup by decide +kernel) rfl (Or.inl rfl))) (jT rfl) (fun _ _ _=>aAz (aOs (m_v 0) (eU (m_v 1) (m_v 2))) (m_v 0))))))))
     (aC (bK (i:=10) nd rfl (Or.inl rfl) (aT8 rfl B.tuple_ (aQu rfl B.sorted_ (m_v 7))))
     (aR (aQe (i:=2) hu rfl (Or.inr (Or.inl rfl)) (m_v 10) (kA (aT3 hu (m_v 2) (m_v 10) bB) (kF (kF (m_v 4) (m_v 6)) (zT bB (kF bB (rY (m_v 8) bB))))))))))
     eK))))))
  (aR (tP (i:=7) (dW (aPw hu rfl B.sorted_ (aLd rfl (bD (XN:=["_law_one","_law_other","_law_total","_law_left","_law_number","_law_right","_law_count","_law_places","_law_turns","_law_k","_law_rising"]) (N:=["_law_places","_law_total"]) (k:=1) (fs:=[2]) rfl rfl rfl (by decide +kernel)) rfl (by first | exact Or.inl rfl | exact Or.inr (Or.inl rfl) | exact Or.inr (Or.inr rfl)) (fun _ _ _=>(bQ (show (["_law_places","_law_total"]:List Str).Nodup by decide +kernel) rfl (Or.inl rfl))) (jT rfl) (fun _ _ _=>aAz (pA hu (aJh hu (m_v 1) (m_v 0)) bB) (tK (aA (m_v 0) (aA (aJh hu (m_v 1) (m_v 0)) aO)))))))))))
abbrev jQ:Stmt:=top 26
theorem qD:FnScope ["_law_rows","_law_found","_law_row"] ["_law_rows"] (aN jQ):=⟨rfl,rfl,rfl,by decide +kernel,rfl,by decide +kernel,by decide +kernel⟩
def aB7:FS :=
 (aJ (aF 1 (dF [eW [eW [],cE (.int 1)]]))
 (aJ (dR (cN (vE 0)) (.nm 2)
  (aF 1 (aL dC [vE 1,aW (pH (vE 2)) 2 [] (.tp [.nm 0,.nm 1]) (Mir.bIf (bT (neE (vE 1) (cE (.int 0)))) (eW [eW [vE 0],vE 1]))])))
 (bI (vE 1))))
def gR:Φ:=cJ 1 3 aB7
theorem mJ (B:Blt mg)(gS:aK Pg w K mg base (CXM Pg w) k "_law_product" ["_law_one","_law_other"] (spM K (clK K) dC))(F:bU K mg "_law_box" jQ ["_law_rows"]):aK Pg w K mg base (CXM Pg w) (k+1) "_law_box" ["_law_rows"] (spM K (clK K) gR):=by
 have nd:=qD.nd;refine dQ F qD fun f cdv A outer s H E hr=>?_
 have hu:=hr.units
 exact(aC (bK (i:=1) nd rfl (Or.inl rfl) (kW (aA (tK (aA (tK aO) (aA bB aO))) aO)))
  (aC (lL iY rfl (gA (m_v 0)) (bQ nd rfl (Or.inl rfl))
   (aR (bK (i:=1) nd rfl (Or.inl rfl) (cL gS hr rfl gX (aA (m_v 1) (aA (fO rfl (bD (XN:=["_law_rows","_law_found","_law_row"]) (N:=["_law_k","_law_number"]) (k:=2) (fs:=[]) rfl rfl rfl (by decide +kernel)) (xN rfl B.enumerate_ (m_v 2)) (fun _ _ _=>(oM rfl (bR (bQ (show (["_law_k","_law_number"]:List Str).Nodup by decide +kernel) rfl (Or.inl rfl)) (bR (bQ (show (["_law_k","_law_number"]:List Str).Nodup by decide +kernel) rfl (Or.inl rfl)) gH)))) (jT rfl) (fun _ _ _=>aAz (pA hu (m_v 1) bB) (tK (aA (tK (aA (m_v 0) aO)) (aA (m_v 1) aO))))) aO))))))
  (aR (dW (m_v 1)))))
abbrev fU:Stmt:=top 28
theorem kZ:FnScope ["_law_one","_law_other"] ["_law_one","_law_other"] (aN fU):=⟨rfl,rfl,rfl,by decide +kernel,rfl,by decide +kernel,by decide +kernel⟩
def uU:FS :=
 (aJ (aB1 (bT (neE (vE 1) (cE (.int 0))))
  (aB4 0 1 (vE 1) (sJ (vE 0) (vE 1))))
 (bI (sU (vE 0))))
def cU:Φ:=cJ 2 2 uU
theorem iE (B:Blt mg)  (F:bU K mg "_law_shared" fU ["_law_one","_law_other"]):aK Pg w K mg base (CXM Pg w) (k+1) "_law_shared" ["_law_one","_law_other"] (spM K (clK K) cU):=by
 have nd:=kZ.nd;refine dQ F kZ fun f cdv A outer s H E hr=>?_
 have hu:=hr.units
 exact(aC (aO1 iY (pA hu (m_v 1) bB)
  (aR (aSv (i:=0) (j:=1) rfl nd rfl rfl (by decide) rfl rfl (m_v 1) (aRn (m_v 0) (m_v 1)) (by rfl))))
  (aR (dW (aO9 rfl B.abs_ (m_v 0)))))
abbrev dJ:Stmt:=top 31
theorem gF:FnScope ["_law_rows","_law_found"] ["_law_rows"] (aN dJ):=⟨rfl,rfl,rfl,by decide +kernel,rfl,by decide +kernel,by decide +kernel⟩
def mS:FS :=
 (aJ (aF 1 (aL gR [vE 0]))
 (aJ (ifS (bT (eqE (vE 1) (dF [])))
  (bI (cE (.int 0)))
  cI)
 (bI (bG (bG (vE 1) (cE (.int 0))) (cE (.int 1))))))
def aV:Φ:=cJ 1 2 mS
theorem dL (B:Blt mg)(mJ:aK Pg w K mg base (CXM Pg w) k "_law_box" ["_law_rows"] (spM K (clK K) gR))(F:bU K mg "_law_determinant" dJ ["_law_rows"]):aK Pg w K mg base (CXM Pg w) (k+1) "_law_determinant" ["_law_rows"] (spM K (clK K) aV):=by
 have nd:=gF.nd;refine dQ F gF fun f cdv A outer s H E hr=>?_
 have hu:=hr.units
 exact(aC (bK (i:=1) nd rfl (Or.inl rfl) (cL mJ hr rfl gX (aA (m_v 0) aO)))
  (aC (fX (wP hu (m_v 1) (kW aO))
   (aR (dW bB))
   eK)
  (aR (dW (eU (eU (m_v 1) bB) bB)))))
abbrev sQ:Stmt:=top 32
theorem aHv:FnScope ["_law_script","_law_ways","_law_numbers_here","_law_rows","_law_ends","_law_found","_law_barred","_law_whole","_law_by","_law_tops","_law_way","_law_turned"] ["_law_script"] (aN sQ):=⟨rfl,rfl,rfl,by decide +kernel,rfl,by decide +kernel,by decide +kernel⟩
def aEc:FS :=
 (aJ (aF 1 (cR (cE (.int 1)) (gZ (aL dH [vE 0,cE (.int 0)]) (cE (.int 5)))))
 (aJ (aF 2 (aL dB [vE 0,cE (.int 1),cX (vE 1) (vE 1),cE (.int 5)]))
 (aJ (aF 3 (aW (dX (vE 1)) 1 [2,1] (.nm 0) (bE (eI (vE 1) (soO (cX (vE 0) (vE 2))) (soO (cR (cX (vE 0) (vE 2)) (vE 2)))))))
 (aJ (aF 4 (aW (dX (vE 1)) 1 [0] (.nm 0) (bE (mK (gZ (aL dH [vE 1,cR (cE (.int 30)) (vE 0)]) (cE (.int 19))) (cE (.int 9))))))
 (aJ (aF 5 (aL iQ [vE 1,vE 3,vE 4]))
 (aJ (aF 6 (aL vW [vE 1,vE 3,vE 4]))
 (aJ (ifS (bT (neE (aBx (vE 5)) (aBr (vE 6))))
  (bI (cE (.bl false)))
  cI)
 (aJ (aF 7 (aL aV [vE 3]))
 (aJ (ifS (bT (eqE (vE 7) (cE (.int 0))))
  (bI (cE (.bl true)))
  cI)
 (aJ (ifS (bT (aBx (vE 5)))
  (bI (cE (.bl false)))
  cI)
 (aJ (aF 8 (vE 7))
 (aJ (aF 9 (dF []))
 (aJ (dR (dX (vE 1)) (.nm 10)
  (aJ (aF 11 (aW (nN (vE 3) (vE 4)) 2 [10] (.tp [.nm 0,.nm 1]) (bE (eN (eN (eI (vE 0) (noO) (soO (vE 2))) (dF [vE 1])) (eI (vE 0) (soO (cR (vE 2) (cE (.int 1)))) (noO))))))
  (aJ (kJ 9 (aL aV [vE 11]))
  (aF 8 (aL cU [vE 8,bG (vE 9) (nA (cE (.int 1)))])))))
 (aJ (ifS (bT (ltE (vE 7) (cE (.int 0))))
  (aF 8 (mK (cE (.int 0)) (vE 8)))
  cI)
 (bI (aC6 (aNy .tuple (vE 5)) (eqE (vE 5) (eW [pU (vE 7) (vE 8),aW (cN (vE 9)) 1 [8] (.nm 0) (bE (pU (vE 0) (vE 1)))]))))))))))))))))))
def vN:Φ:=cJ 1 12 aEc
theorem aU6 (B:Blt mg)(hG:aK Pg w K mg base (CXM Pg w) k "_law_cell" ["_law_script","_law_k"] (spM K (clK K) dH))(gT:aK Pg w K mg base (CXM Pg w) k "_law_numbers" ["_law_script","_law_start","_law_many","_law_size"] (spM K (clK K) dB))(sB:aK Pg w K mg base (CXM Pg w) k "answer" ["many","rows","ends"] (spM K (clK K) iQ))(aG9:aK Pg w K mg base (CXM Pg w) k "bar" ["many","rows","ends"] (spM K (clK K) vW))(dL:aK Pg w K mg base (CXM Pg w) k "_law_determinant" ["_law_rows"] (spM K (clK K) aV))(iE:aK Pg w K mg base (CXM Pg w) k "_law_shared" ["_law_one","_law_other"] (spM K (clK K) cU)){fa:Addr}{fd:FuncData}(F:Fun K "law" "law" sQ fa fd):FnOk Pg w K mg base (CXM Pg w) (k+1) fa fd ["_law_script"] (spM K (clK K) vN):=by
 have nd:=aHv.nd;refine aO6 F aHv fun f cdv A outer s H E hr=>?_
 have hu:=hr.units
 exact(aC (bK (i:=1) nd rfl (Or.inr rfl) (kA bB (rY (cL hG hr rfl gX (aA (m_v 0) (aA bB aO))) bB)))
  (aC (bK (i:=2) nd rfl (Or.inr rfl) (cL gT hr rfl gX (aA (m_v 0) (aA bB (aA (kF (m_v 1) (m_v 1)) (aA bB aO))))))
  (aC (yN (i:=3) rfl nd rfl rfl (bD (XN:=["_law_script","_law_ways","_law_numbers_here","_law_rows","_law_ends","_law_found","_law_barred","_law_whole","_law_by","_law_tops","_law_way","_law_turned"]) (N:=["_law_k","_law_numbers_here","_law_ways"]) (k:=1) (fs:=[2,1]) rfl rfl rfl (by decide +kernel)) (jY rfl B.range_ (m_v 1)) (fun _ _ _=>(bQ (show (["_law_k","_law_numbers_here","_law_ways"]:List Str).Nodup by decide +kernel) rfl (Or.inl rfl))) (jT rfl) (fun _ _ _=>fM (nS (m_v 1) (lE (kF (m_v 0) (m_v 2))) (lE (kA (kF (m_v 0) (m_v 2)) (m_v 2))))))
  (aC (yN (i:=4) rfl nd rfl rfl (bD (XN:=["_law_script","_law_ways","_law_numbers_here","_law_rows","_law_ends","_law_found","_law_barred","_law_whole","_law_by","_law_tops","_law_way","_law_turned"]) (N:=["_law_k","_law_script"]) (k:=1) (fs:=[0]) rfl rfl rfl (by decide +kernel)) (jY rfl B.range_ (m_v 1)) (fun _ _ _=>(bQ (show (["_law_k","_law_script"]:List Str).Nodup by decide +kernel) rfl (Or.inl rfl))) (jT rfl) (fun _ _ _=>fM (zT (rY (cL hG hr rfl aV2 (aA (m_v 1) (aA (kA bB (m_v 0)) aO))) bB) bB)))
  (aC (bK (i:=5) nd rfl (Or.inl rfl) (cL sB hr rfl gX (aA (m_v 1) (aA (m_v 3) (aA (m_v 4) aO)))))
  (aC (bK (i:=6) nd rfl (Or.inl rfl) (cL aG9 hr rfl gX (aA (m_v 1) (aA (m_v 3) (aA (m_v 4) aO)))))
  (aC (fX (pA hu (aUl (m_v 5)) (aQ3 (m_v 6)))
   (aR (dW aQi))
   eK)
  (aC (bK (i:=7) nd rfl (Or.inl rfl) (cL dL hr rfl gX (aA (m_v 3) aO)))
  (aC (fX (wP hu (m_v 7) bB)
   (aR (dW aQi))
   eK)
  (aC (fX (aQ4 (m_v 5))
   (aR (dW aQi))
   eK)
  (aC (bK (i:=8) nd rfl (Or.inr rfl) (m_v 7))
  (aC (bK (i:=9) nd rfl (Or.inl rfl) (kW aO))
  (aC (lL iY rfl (jY rfl B.range_ (m_v 1)) (bQ nd rfl (Or.inr rfl))
   (aC (yN (i:=11) rfl nd rfl rfl (bD (XN:=["_law_script","_law_ways","_law_numbers_here","_law_rows","_law_ends","_law_found","_law_barred","_law_whole","_law_by","_law_tops","_law_way","_law_turned"]) (N:=["_law_row","_law_end","_law_way"]) (k:=2) (fs:=[10]) rfl rfl rfl (by decide +kernel)) (aCt rfl rfl B.zip_ (m_v 3) (m_v 4)) (fun _ _ _=>(oM rfl (bR (bQ (show (["_law_row","_law_end","_law_way"]:List Str).Nodup by decide +kernel) rfl (Or.inl rfl)) (bR (bQ (show (["_law_row","_law_end","_law_way"]:List Str).Nodup by decide +kernel) rfl (Or.inl rfl)) gH)))) (jT rfl) (fun _ _ _=>fM (nH (nH (nS (m_v 0) tY (lE (m_v 2))) (kW (aA (m_v 1) aO))) (nS (m_v 0) (lE (kA (m_v 2) bB)) tY))))
   (aC (zU (i:=9) rfl (Or.inl rfl) (cL dL hr rfl gX (aA (m_v 11) aO)))
   (aR (bK (i:=8) nd rfl (Or.inr rfl) (cL iE hr rfl gX (aA (m_v 8) (aA (eU (m_v 9) (aKi bB)) aO))))))))
  (aC (fX (aBl (m_v 7) bB)
   (aR (bK (i:=8) nd rfl (Or.inr rfl) (zT bB (m_v 8))))
   eK)
  (aR (dW (aSl (aS6 (t:=.tuple) rfl B.isinstance_ (m_v 5) (aM8 (v:=.ty "tuple") rfl B.tuple_ (by decide +kernel) rfl)) (aTd (aWe hu (m_v 5) (tK (aA (aJv (m_v 7) (m_v 8)) (aA (fO rfl (bD (XN:=["_law_script","_law_ways","_law_numbers_here","_law_rows","_law_ends","_law_found","_law_barred","_law_whole","_law_by","_law_tops","_law_way","_law_turned"]) (N:=["_law_top","_law_by"]) (k:=1) (fs:=[8]) rfl rfl rfl (by decide +kernel)) (gA (m_v 9)) (fun _ _ _=>(bQ (show (["_law_top","_law_by"]:List Str).Nodup by decide +kernel) rfl (Or.inl rfl))) (jT rfl) (fun _ _ _=>fM (aJv (m_v 0) (m_v 1)))) aO))))))))))))))))))))))
end
theorem all_mk {l:PySem.W.OpenLaw}{w:World}{K:PySem.W.Frag}{h:Heap}{mg:Str->Option Value}{fa:Addr}(X:K.In h)(G:h.Ns mainGlobals mg)(hfa:mg "law" = some (.ref fa))
 {f0:Addr} {oc0 kV0 dc0 pm0 cd0 ct0:Value} {od0 an0:Option Addr} {sl0:Array (Option Value)} (a0:At K "check_alike" fT f0 oc0 kV0 dc0 pm0 cd0 ct0 od0 an0 sl0)
 {f1:Addr} {oc1 kV1 dc1 pm1 cd1 ct1:Value} {od1 an1:Option Addr} {sl1:Array (Option Value)} (a1:At K "check_count" fQ f1 oc1 kV1 dc1 pm1 cd1 ct1 od1 an1 sl1)
 {f2:Addr} {oc2 kV2 dc2 pm2 cd2 ct2:Value} {od2 an2:Option Addr} {sl2:Array (Option Value)} (a2:At K "check_rows" gI f2 oc2 kV2 dc2 pm2 cd2 ct2 od2 an2 sl2)
 {f3:Addr} {oc3 kV3 dc3 pm3 cd3 ct3:Value} {od3 an3:Option Addr} {sl3:Array (Option Value)} (a3:At K "units" qZ f3 oc3 kV3 dc3 pm3 cd3 ct3 od3 an3 sl3)
 {f4:Addr} {oc4 kV4 dc4 pm4 cd4 ct4:Value} {od4 an4:Option Addr} {sl4:Array (Option Value)} (a4:At K "common_divisor" eE f4 oc4 kV4 dc4 pm4 cd4 ct4 od4 an4 sl4)
 {f5:Addr} {oc5 kV5 dc5 pm5 cd5 ct5:Value} {od5 an5:Option Addr} {sl5:Array (Option Value)} (a5:At K "lowest" oC f5 oc5 kV5 dc5 pm5 cd5 ct5 od5 an5 sl5)
 {f6:Addr} {oc6 kV6 dc6 pm6 cd6 ct6:Value} {od6 an6:Option Addr} {sl6:Array (Option Value)} (a6:At K "swept" rB f6 oc6 kV6 dc6 pm6 cd6 ct6 od6 an6 sl6)
 {f7:Addr} {oc7 kV7 dc7 pm7 cd7 ct7:Value} {od7 an7:Option Addr} {sl7:Array (Option Value)} (a7:At K "cleared" lM f7 oc7 kV7 dc7 pm7 cd7 ct7 od7 an7 sl7)
 {f8:Addr} {oc8 kV8 dc8 pm8 cd8 ct8:Value} {od8 an8:Option Addr} {sl8:Array (Option Value)} (a8:At K "cleared_equations" cW f8 oc8 kV8 dc8 pm8 cd8 ct8 od8 an8 sl8)
 {f9:Addr} {oc9 kV9 dc9 pm9 cd9 ct9:Value} {od9 an9:Option Addr} {sl9:Array (Option Value)} (a9:At K "barred_lines" fB f9 oc9 kV9 dc9 pm9 cd9 ct9 od9 an9 sl9)
 {f10:Addr} {oc10 kV10 dc10 pm10 cd10 ct10:Value} {od10 an10:Option Addr} {sl10:Array (Option Value)} (a10:At K "answer" oK f10 oc10 kV10 dc10 pm10 cd10 ct10 od10 an10 sl10)
 {f11:Addr} {oc11 kV11 dc11 pm11 cd11 ct11:Value} {od11 an11:Option Addr} {sl11:Array (Option Value)} (a11:At K "bar" aD9 f11 oc11 kV11 dc11 pm11 cd11 ct11 od11 an11 sl11)
 {f12:Addr} {oc12 kV12 dc12 pm12 cd12 ct12:Value} {od12 an12:Option Addr} {sl12:Array (Option Value)} (a12:At K "_law_cell" hJ f12 oc12 kV12 dc12 pm12 cd12 ct12 od12 an12 sl12)
 {f13:Addr} {oc13 kV13 dc13 pm13 cd13 ct13:Value} {od13 an13:Option Addr} {sl13:Array (Option Value)} (a13:At K "_law_numbers" eY f13 oc13 kV13 dc13 pm13 cd13 ct13 od13 an13 sl13)
 {f14:Addr} {oc14 kV14 dc14 pm14 cd14 ct14:Value} {od14 an14:Option Addr} {sl14:Array (Option Value)} (a14:At K "_law_product" fA f14 oc14 kV14 dc14 pm14 cd14 ct14 od14 an14 sl14)
 {f15:Addr} {oc15 kV15 dc15 pm15 cd15 ct15:Value} {od15 an15:Option Addr} {sl15:Array (Option Value)} (a15:At K "_law_box" jQ f15 oc15 kV15 dc15 pm15 cd15 ct15 od15 an15 sl15)
 {f16:Addr} {oc16 kV16 dc16 pm16 cd16 ct16:Value} {od16 an16:Option Addr} {sl16:Array (Option Value)} (a16:At K "_law_shared" fU f16 oc16 kV16 dc16 pm16 cd16 ct16 od16 an16 sl16)
 {f17:Addr} {oc17 kV17 dc17 pm17 cd17 ct17:Value} {od17 an17:Option Addr} {sl17:Array (Option Value)} (a17:At K "_law_determinant" dJ f17 oc17 kV17 dc17 pm17 cd17 ct17 od17 an17 sl17)
 {f18:Addr} {oc18 kV18 dc18 pm18 cd18 ct18:Value} {od18 an18:Option Addr} {sl18:Array (Option Value)} (a18:At K "law" sQ f18 oc18 kV18 dc18 pm18 cd18 ct18 od18 an18 sl18)
 {C1 i1:Addr} {ocX1 kVX1 dcX1 pmX1 cdX1 ctX1:Value} {odX1 anX1:Option Addr} {slX1:Array (Option Value)} (r1:ORaw K 1 C1 i1) (na10:Bf K (.ref C1) "bottom" = some none) (na11:Bf K (.ref C1) "heads" = some none) (na12:Bf K (.ref C1) "lines" = some none)
 (lX1:K.lookup i1=some ⟨ocX1,odX1,.func (Dv "__init__" "Cleared.__init__" (gL gN) (eO gN) (aN gN) .none kVX1 dcX1 pmX1 anX1 cdX1 ctX1),slX1⟩) (cX1:Fh K cdX1 "Cleared.__init__" = true) (kX1:Ei K (.ref i1)=true)
 (z_len:Ch K mainGlobals "len" = some none)
 (z_enumerate:Ch K mainGlobals "enumerate" = some none)
 (z_range:Ch K mainGlobals "range" = some none)
 (z_abs:Ch K mainGlobals "abs" = some none)
 (z_zip:Ch K mainGlobals "zip" = some none)
 (z_list:Ch K mainGlobals "list" = some none)
 (z_set:Ch K mainGlobals "set" = some none)
 (z_sorted:Ch K mainGlobals "sorted" = some none)
 (z_tuple:Ch K mainGlobals "tuple" = some none)
 (z_isinstance:Ch K mainGlobals "isinstance" = some none)
 {t_MOST_WAYS:Tok} (g_MOST_WAYS:Ch K mainGlobals "MOST_WAYS" = some (some (.int 5 t_MOST_WAYS)))
:∃ fd:FuncData,(∀ (s:Shared) (v:Value),BindsTo s fd ⟨[v],[]⟩ [("_law_script",v)])/\∀ base:Heap,K.In base->base.Ns mainGlobals mg->FnOk l.prog w K mg base (CXM l.prog w) 6 fa fd ["_law_script"] (spM K (clK K) vN):=by
 have B:Blt mg:=⟨Cu X G z_len,Cu X G z_enumerate,Cu X G z_range,Cu X G z_abs,Cu X G z_zip,Cu X G z_list,Cu X G z_set,Cu X G z_sorted,Cu X G z_tuple,Cu X G z_isinstance,⟨_,Hr X G g_MOST_WAYS⟩⟩;have uG:bU K mg "check_alike" fT ["one","other"]:=bW X G a0.ns a0.lk a0.cd a0.kp fun _ _ _ _ _ _ us hl=>match us,hl with | [_,_],_=>rfl
 have uT:bU K mg "check_count" fQ ["many"]:=bW X G a1.ns a1.lk a1.cd a1.kp fun _ _ _ _ _ _ us hl=>match us,hl with | [_],_=>rfl
 have xL:bU K mg "check_rows" gI ["many","rows"]:=bW X G a2.ns a2.lk a2.cd a2.kp fun _ _ _ _ _ _ us hl=>match us,hl with | [_,_],_=>rfl
 have oZ:bU K mg "units" qZ ["many"]:=bW X G a3.ns a3.lk a3.cd a3.kp fun _ _ _ _ _ _ us hl=>match us,hl with | [_],_=>rfl
 have pD:bU K mg "common_divisor" eE ["numbers"]:=bW X G a4.ns a4.lk a4.cd a4.kp fun _ _ _ _ _ _ us hl=>match us,hl with | [_],_=>rfl
 have aKa:bU K mg "lowest" oC ["bottom","tops"]:=bW X G a5.ns a5.lk a5.cd a5.kp fun _ _ _ _ _ _ us hl=>match us,hl with | [_,_],_=>rfl
 have qT:bU K mg "swept" rB ["rows","top","way","bottom"]:=bW X G a6.ns a6.lk a6.cd a6.kp fun _ _ _ _ _ _ us hl=>match us,hl with | [_,_,_,_],_=>rfl
 have jA:bU K mg "cleared" lM ["many","rows"]:=bW X G a7.ns a7.lk a7.cd a7.kp fun _ _ _ _ _ _ us hl=>match us,hl with | [_,_],_=>rfl
 have lZ:bU K mg "cleared_equations" cW ["many","rows","ends"]:=bW X G a8.ns a8.lk a8.cd a8.kp fun _ _ _ _ _ _ us hl=>match us,hl with | [_,_,_],_=>rfl
 have tJ:bU K mg "barred_lines" fB ["many","found"]:=bW X G a9.ns a9.lk a9.cd a9.kp fun _ _ _ _ _ _ us hl=>match us,hl with | [_,_],_=>rfl
 have aH0:bU K mg "answer" oK ["many","rows","ends"]:=bW X G a10.ns a10.lk a10.cd a10.kp fun _ _ _ _ _ _ us hl=>match us,hl with | [_,_,_],_=>rfl
 have vV:bU K mg "bar" aD9 ["many","rows","ends"]:=bW X G a11.ns a11.lk a11.cd a11.kp fun _ _ _ _ _ _ us hl=>match us,hl with | [_,_,_],_=>rfl
 have aBd:bU K mg "_law_cell" hJ ["_law_script","_law_k"]:=bW X G a12.ns a12.lk a12.cd a12.kp fun _ _ _ _ _ _ us hl=>match us,hl with | [_,_],_=>rfl
 have rM:bU K mg "_law_numbers" eY ["_law_script","_law_start","_law_many","_law_size"]:=bW X G a13.ns a13.lk a13.cd a13.kp fun _ _ _ _ _ _ us hl=>match us,hl with | [_,_,_,_],_=>rfl
 have rN:bU K mg "_law_product" fA ["_law_one","_law_other"]:=bW X G a14.ns a14.lk a14.cd a14.kp fun _ _ _ _ _ _ us hl=>match us,hl with | [_,_],_=>rfl
 have aCd:bU K mg "_law_box" jQ ["_law_rows"]:=bW X G a15.ns a15.lk a15.cd a15.kp fun _ _ _ _ _ _ us hl=>match us,hl with | [_],_=>rfl
 have uQ:bU K mg "_law_shared" fU ["_law_one","_law_other"]:=bW X G a16.ns a16.lk a16.cd a16.kp fun _ _ _ _ _ _ us hl=>match us,hl with | [_,_],_=>rfl
 have mW:bU K mg "_law_determinant" dJ ["_law_rows"]:=bW X G a17.ns a17.lk a17.cd a17.kp fun _ _ _ _ _ _ us hl=>match us,hl with | [_],_=>rfl
 have e:=hfa.symm.trans (Hr X G a18.ns);cases e;refine⟨Dv "law" "law" (gL sQ) (eO sQ) (aN sQ) .none kV18 dc18 pm18 an18 cd18 ct18,fun s v=>.of_eq rfl,fun base _ _=>?_⟩
 have O1:OC K 1:=r1.oc1 na10 na11 na12;have FX1:=aC4 (st:=gN) lX1 cX1 kX1;have U1:aEn l.prog w K mg base 1 1:=r1.mkr X G (aF4 O1 FX1) (FX1.binds (ps:="self" :: dU 1) fun _ _ _ _ _ _ us hl=>match us,hl with | [_,_,_,_],_=>rfl)
 have uM:L2.aK l.prog w K mg base (CXM l.prog w) 1 "check_alike" ["one","other"] (spM K (clK K) dO):=iJ (k:=0) B  uG;have uP:L2.aK l.prog w K mg base (CXM l.prog w) 1 "check_count" ["many"] (spM K (clK K) dN):=iI (k:=0) B  uT;have xG:L2.aK l.prog w K mg base (CXM l.prog w) 2 "check_rows" ["many","rows"] (spM K (clK K) eX):=jP (k:=1) B (uP.mono (by decide)) xL
 have aLh:L2.aK l.prog w K mg base (CXM l.prog w) 1 "units" ["many"] (spM K (clK K) nO):=xM (k:=0) B  oZ;have jB:L2.aK l.prog w K mg base (CXM l.prog w) 1 "common_divisor" ["numbers"] (spM K (clK K) bC):=dD (k:=0) B  pD;have aJ0:L2.aK l.prog w K mg base (CXM l.prog w) 2 "lowest" ["bottom","tops"] (spM K (clK K) iT):=tV (k:=1) B (jB.mono (by decide)) aKa
 have aKx:L2.aK l.prog w K mg base (CXM l.prog w) 1 "swept" ["rows","top","way","bottom"] (spM K (clK K) nV):=yV (k:=0) B  qT;have aFu:L2.aK l.prog w K mg base (CXM l.prog w) 3 "cleared" ["many","rows"] (spM K (clK K) gM):=pZ (k:=2) B O1 U1 (by decide) (aKx.mono (by decide)) jA
 have gD:L2.aK l.prog w K mg base (CXM l.prog w) 4 "cleared_equations" ["many","rows","ends"] (spM K (clK K) aS):=cC (k:=3) B (xG.mono (by decide)) (uM.mono (by decide)) (aFu.mono (by decide)) (aLh.mono (by decide)) lZ
 have kM:L2.aK l.prog w K mg base (CXM l.prog w) 1 "barred_lines" ["many","found"] (spM K (clK K) bH):=eD (k:=0) B O1   tJ;have aJj:L2.aK l.prog w K mg base (CXM l.prog w) 5 "answer" ["many","rows","ends"] (spM K (clK K) iQ):=sB (k:=4) B O1  (gD.mono (by decide)) (kM.mono (by decide)) (aJ0.mono (by decide)) aH0
 have aVg:L2.aK l.prog w K mg base (CXM l.prog w) 5 "bar" ["many","rows","ends"] (spM K (clK K) vW):=aG9 (k:=4) B (gD.mono (by decide)) (kM.mono (by decide)) (jB.mono (by decide)) vV
 have aAi:L2.aK l.prog w K mg base (CXM l.prog w) 1 "_law_cell" ["_law_script","_law_k"] (spM K (clK K) dH):=hG (k:=0) B  aBd;have uB:L2.aK l.prog w K mg base (CXM l.prog w) 1 "_law_numbers" ["_law_script","_law_start","_law_many","_law_size"] (spM K (clK K) dB):=gT (k:=0) B  rM;have tH:L2.aK l.prog w K mg base (CXM l.prog w) 1 "_law_product" ["_law_one","_law_other"] (spM K (clK K) dC):=gS (k:=0) B  rN;have aC0:L2.aK l.prog w K mg base (CXM l.prog w) 2 "_law_box" ["_law_rows"] (spM K (clK K) gR):=mJ (k:=1) B (tH.mono (by decide)) aCd
 have uH:L2.aK l.prog w K mg base (CXM l.prog w) 1 "_law_shared" ["_law_one","_law_other"] (spM K (clK K) cU):=iE (k:=0) B  uQ;have mR:L2.aK l.prog w K mg base (CXM l.prog w) 3 "_law_determinant" ["_law_rows"] (spM K (clK K) aV):=dL (k:=2) B (aC0.mono (by decide)) mW
 exact aU6 (k:=5) B (aAi.mono (by decide)) (uB.mono (by decide)) (aJj.mono (by decide)) (aVg.mono (by decide)) (mR.mono (by decide)) (uH.mono (by decide)) (aC4 (st:=sQ) a18.lk a18.cd a18.kp)
theorem walk {l:PySem.W.OpenLaw}{q:Program}{loose:List Str}{XP:(Str->Option Value)->Heap->Prop}{YP:World->Heap->Prop}{d:DefRec}{K:Params->PySem.W.Frag}(hn:l.most=some 63)(hdf:d.params.defaults=[])(hw:∀ ns:List Int,ns.length<=63->vN [.lst (ns.map .int)]=.ok (sc (.bl true)))
 (hY:∀ (w:World) (h:Heap),YP w h->(K w.params).In h) (hL:∀ P:Params,noL (K P)=true)
 (F:∀ (w:World) (mg:Str->Option Value) (fa:Addr) (h:Heap),(K w.params).In h->h.Ns mainGlobals mg->mg d.name=some (.ref fa) ->
  ∃ fd:FuncData,(∀ (s:Shared) (u:Value),BindsTo s fd ⟨[u],[]⟩ [("_law_script",u)])/\∀ base:Heap,(K w.params).In base->base.Ns mainGlobals mg->FnOk l.prog w (K w.params) mg base (CXM l.prog w) 6 fa fd ["_law_script"] (spM (K w.params) (clK (K w.params)) vN)) :
 PySem.W.WalkO q loose XP YP l.row.toRowW d [] (fun f vs=>PySem.call f vs) :=
 L2.aNv (n:=63) (k:=6) (x:="_law_script") (CX:=fun w=>CXM l.prog w) (sp:=fun w=>spM (K w.params) (clK (K w.params)) vN) hn (by decide) hdf ⟨rfl,by decide,by decide⟩ hY F (fun w _ _ ns hl _ hS=>aRz (hL w.params) (hw ns hl) hS) fun _ _ _ _ _ ⟨_,_,_,_,_,_,_,z⟩=>z
end N82
namespace Mir
open PySem L2
theorem aVf {M:Nat}(hM:M<2^1000){x:Int}(h:x.natAbs<=M):x.natAbs<2^1000:=Cv h hM
theorem bJ {α:Type}{xs:List α}{k:Nat}{d:α}(h:k<xs.length):xs.getD k d∈xs:=by
 rw[Aa,Ae h];exact Eg h
theorem jS {r:List Int}{w:Nat}(h:w<r.length):(li r)[w]?=some (.int (r.getD w 0)):=by
 simp[li,h,Aa]
theorem aSg {xs ys:List Int}{f g:FE}{ρ:Mir.Env}{k k':Kd}{fr fr':Bool}(h1:f ρ=.ok ⟨k,fr,.lst (li xs)⟩)(h2:g ρ=.ok ⟨k',fr',.lst (li ys)⟩):nN f g ρ=.ok ⟨k != .own&&k' != .own,fr&&fr',(xs.zip ys).map fun p=>.tup [.int p.1,.int p.2]⟩:=by
 simp only[nN,h1,h2,R.ok_bind,asL,rT]
abbrev aMe (s:FS):FS:=ifS (bT (neE (cB (vE 0)) (cB (vE 1)))) s cI
theorem aNc {s:FS}{xs ys:List D}(h:xs.length=ys.length):cJ 2 2 (aMe s) [.lst xs,.lst ys]=.ok (sc .non):=by
 refine aCk (ρ:=[some ⟨.shr,false,.lst xs⟩,some ⟨.shr,false,.lst ys⟩]) rfl ?_
 refine(aHk (kT (gO (ds:=xs) rfl) (gO (ds:=ys) rfl))).trans ?_
 simp only[h,decide_true,Bool.not_true,Cf,if_false];rfl
theorem wL {i j:Int}(h:0<j):CP i j=true:=decide_eq_true h
theorem aUe {i j:Int}(h:0<j)(h2:j.natAbs<2^250):CD i j=true:=by
 have:j.natAbs.log2<9000:=by
  by_cases z:j.natAbs=0
  · rw[z];decide
  · exact Nat.lt_trans ((Nat.log2_lt z).mpr h2) (by decide)
 unfold CD;rw[decide_eq_true h,decide_eq_true this];rfl
theorem aMw {f g:FE}{ρ:Mir.Env}{kd kd':Kd}{fr fr':Bool}{ds:List D}{k:Int}(h1:f ρ=.ok ⟨kd,fr,.lst ds⟩)(h2:g ρ=.ok ⟨kd',fr',.int k⟩)(c:kd≠.shr/\-(2^63)<=k/\k<2^63/\ds.length*k.toNat<=sizeLine):aFl f g ρ=.ok ⟨.tmp,fr,.lst (Aw k.toNat ds).flatten⟩:=by
 simp only[aFl,h1,h2,R.ok_bind,asL,asI];rw[if_pos c]
theorem sS {i:Nat}{s:FS}{ρ:Mir.Env}{e:Res}(h:ρ[i]?=some (some e)):gJ i s ρ=s (ρ.set i (some ⟨.shr,e.fr,e.d⟩)):=by simp only[gJ,frz,h]
end Mir
namespace Hm
open PySem L2 Mir
def BR (N:Nat)(r:List Int):Prop:=∀ x∈r,x.natAbs<2^N
def BN (N:Nat)(t:List (List Int)):Prop:=∀ r∈t,BR N r
theorem zH {a b:Nat}(h:a<=b):2^a<=2^b:=Cn (by decide) h
theorem log2_lt {n N:Nat}(hN:0<N)(h:n<2^N):n.log2<N:=by
 by_cases z:n=0
 · subst z;simpa using hN
 · exact(Nat.log2_lt z).mpr h
theorem aU7 {i j:Int}{N:Nat}(h1:i.natAbs<2^N)(h2:j.natAbs<2^N)(h0:0<N)(hN:N<=1000000):CM i j=true:=by
 unfold CM;rw[Ct,decide_eq_true_iff,decide_eq_true_iff];exact⟨An (log2_lt h0 h1) hN,An (log2_lt h0 h2) hN⟩
theorem aPg {i j:Int}{N:Nat}(h:j≠0)(h2:j.natAbs<2^N)(h0:0<N)(hN:N<=9000):CF i j=true:=by
 unfold CF;rw[Ct,decide_eq_true_iff,decide_eq_true_iff];exact⟨h,An (log2_lt h0 h2) hN⟩
theorem aQo {i j:Int}{N:Nat}(h:0<j)(h2:j.natAbs<2^N)(h0:0<N)(hN:N<=9000):CD i j=true:=by
 unfold CD;rw[Ct,decide_eq_true_iff,decide_eq_true_iff];exact⟨h,An (log2_lt h0 h2) hN⟩
theorem aOn {a b:Int}{N M:Nat}(h1:a.natAbs<2^N)(h2:b.natAbs<2^M):(a*b).natAbs<2^(N+M):=by
 rw[Fj,Hc];exact Nat.mul_lt_mul'' h1 h2
theorem aTl {a b:Int}{N:Nat}(h1:a.natAbs<2^N)(h2:b.natAbs<2^N):(a-b).natAbs<2^(N+1):=by
 rw[Nat.pow_succ];omega
theorem aEq (a b:Int)(h:0<b):(a/b).natAbs<=a.natAbs:=by
 have e:=Int.mul_ediv_add_emod a b;have h1:=Fw a h;have h2:=Ih a (show b≠0 by omega)
 generalize a/b=q at *
 generalize a%b=r at *
 rcases Hq q 0 with z | z | z
 · have e2:0<=(b-1)*(-(q+1)):=Int.mul_nonneg (by omega) (by omega)
   have e3:(b-1)*(-(q+1))=- (b*q)-b+q+1:=by rw[Int.mul_neg,Fg,Ik,Gm,Gk];omega
   omega
 · omega
 · have:1*q<=b*q:=Int.mul_le_mul_of_nonneg_right (by omega) (by omega)
   omega
theorem aNx (a b:Int)(h:b≠0):(a.fdiv b).natAbs<=a.natAbs:=by
 rcases Int.lt_or_gt_of_ne h with hb | hb
 · have:=aEq (-a) (-b) (by omega)
   rw[←Fm (-a) (show 0≤-b by omega),Int.neg_fdiv_neg]at this
   omega
 · rw[Fm a (show 0<=b by omega)]
   exact aEq a b hb
end Hm
namespace Hm
open PySem L2 Mir
abbrev aO7:FE:=aW (nN (vE 8) (vE 4)) 2 [3,5,8,2] (.tp [.nm 0,.nm 1]) (bE (pU (mK (cX (vE 3) (vE 0)) (cX (bG (vE 4) (vE 5)) (vE 1))) (vE 2)))
abbrev aJb:FS:=ifS (bT (eqE (vE 7) (vE 1))) (gJ 4 (kJ 6 (vE 4))) (kJ 6 aO7)
abbrev qT:FS:=aJ (aF 4 (bG (vE 0) (vE 1))) (aJ (aF 5 (bG (vE 4) (vE 2))) (aJ (aF 6 (dF [])) (aJ (gJ 0 (dR (pH (vE 0)) (.tp [.nm 7,.nm 8]) aJb)) (bI (vE 6)))))
def swr (c r:List Int)(w:Nat)(b:Int):List Int:=(r.zip c).map fun q=>(c.getD w 0*q.1-r.getD w 0*q.2).fdiv b
def swp (t:List (List Int))(i w:Nat)(b:Int):List (List Int):=t.zipIdx.map fun p=>if p.2=i then t.getD i [] else swr (t.getD i []) p.1 w b
abbrev sE (t:List (List Int))(i w:Nat)(b:Int)(x4 x5 x6 x7 x8:Option Res):Mir.Env:=[some ⟨.shr,false,.lst (lil t)⟩,some ⟨.shr,false,.int i⟩,some ⟨.shr,false,.int w⟩,some ⟨.shr,false,.int b⟩,x4,x5,x6,x7,x8]
abbrev rR (r:List Int):Option Res:=some ⟨.shr,false,.lst (li r)⟩
abbrev nR (z:Int):Option Res:=some ⟨.shr,true,.int z⟩
theorem pQ {t:List (List Int)}{i:Nat}(h:i<t.length):(lil t)[i]?=some (.lst (li (t.getD i []))):=by
 unfold lil;rw[Ao,Aa,Ae h];rfl
theorem aTq {t:List (List Int)}{i w N:Nat}{b:Int}{c r:List Int}{x6 x7:Option Res}(hb:b≠0)(hbN:b.natAbs<2^N)(hN:0<N)(h9:2*N+1<=9000)(hc:BR N c)(hr:BR N r)(wc:w<c.length)(wr:w<r.length)(hz:r.length<=sizeLine) :
 aO7 (sE t i w b (rR c) (nR (c.getD w 0)) x6 x7 (rR r))=.ok ⟨.tmp,true,.lst (li (swr c r w b))⟩:=by
 have e:=fP (ρ:=sE t i w b (rR c) (nR (c.getD w 0)) x6 x7 (rR r)) (k:=2) (fs:=[3,5,8,2]) (tg:=.tp [.nm 0,.nm 1]) (b:=bE (pU (mK (cX (vE 3) (vE 0)) (cX (bG (vE 4) (vE 5)) (vE 1))) (vE 2)))
  (out:=fun q:Int×Int=>.int ((c.getD w 0*q.1-r.getD w 0*q.2).fdiv b)) (aSg (f:=vE 8) (g:=vE 4) (xs:=r) (ys:=c) (k:=.shr) (k':=.shr) (fr:=false) (fr':=false) rfl rfl) (fun q hq=>?_) ?_
 · refine e.trans ?_
   unfold swr li;rw[Bt];rfl
 · obtain⟨q1,q2⟩:=Di hq
   have cw:(c.getD w 0).natAbs<2^N:=hc _ (Mir.bJ wc);have rw':(r.getD w 0).natAbs<2^N:=hr _ (Mir.bJ wr);refine⟨[some ⟨.shr,false,.int q.1⟩,some ⟨.shr,false,.int q.2⟩,some ⟨.shr,false,.int b⟩,nR (c.getD w 0),rR r,some ⟨.shr,false,.int w⟩],.shr,rfl,iM ?_,by decide⟩
   refine bM (bM (bM (k:=.shr) (fr:=true) (i:=c.getD w 0) rfl (k':=.shr) (fr':=true) (j:=q.1) rfl (aU7 cw (hr _ q1) hN (by omega))) (bM (gK (k:=.shr) (fr:=false) (ds:=li r) (i:=w) rfl (k':=.shr) (fr':=true) rfl (jS wr)) (k':=.shr) (fr':=true) (j:=q.2) rfl (aU7 rw' (hc _ q2) hN (by omega))) rfl) (k':=.shr) (fr':=true) (j:=b) rfl (aPg hb hbN hN (by omega))
 · rw[Ft];omega
theorem aTo {N w:Nat}{b:Int}{c r:List Int}(hb:b≠0)(hc:BR N c)(hr:BR N r)(wc:w<c.length)(wr:w<r.length):BR (2*N+1) (swr c r w b):=fun x hx=>by
 obtain⟨q,hq,rfl⟩:=Ah.mp hx;obtain⟨q1,q2⟩:=Di hq;refine Cv (aNx _ _ hb) ?_
 rw[show 2*N+1=(N+N)+1 by omega]
 exact aTl (aOn (hc _ (Mir.bJ wc)) (hr _ q1)) (aOn (hr _ (Mir.bJ wr)) (hc _ q2))
theorem aEr {w:Nat}{b:Int}{c r:List Int}:(swr c r w b).length=min r.length c.length:=by
 unfold swr;rw[Ad,Ft]
theorem aDv {t:List (List Int)}{i w:Nat}{b:Int}:(swp t i w b).length=t.length:=by
 unfold swp;rw[Ad,List.length_zipIdx]
theorem aNu {t:List (List Int)}{i w N:Nat}{b:Int}(hi:i<t.length)(hw:∀ r∈t,w<r.length)(hl:∀ r∈t,r.length<=1000)(ht:t.length<=1000)(hb:b≠0)(hbN:b.natAbs<2^N)(hN:0<N)(h9:2*N+1<=9000)(hB:BN N t) :
 ∃ fr,cJ 4 9 qT [.lst (lil t),.int i,.int w,.int b]=.ok ⟨.tmp,fr,.lst (lil (swp t i w b))⟩:=by
 have cm:t.getD i []∈t:=Mir.bJ hi;generalize hc:t.getD i []=c at cm
 have e1:aF 4 (bG (vE 0) (vE 1)) (sE t i w b none none none none none)=.nx (sE t i w b (rR c) none none none none):=by
  have:=set_shr (i:=4) (iA (f:=vE 0) (g:=vE 1) (ρ:=sE t i w b none none none none none) (k:=.shr) (fr:=false) (ds:=lil t) (i:=i) rfl (k':=.shr) (fr':=true) rfl (pQ hi))
  rw[hc]at this;exact this
 have e2:aF 5 (bG (vE 4) (vE 2)) (sE t i w b (rR c) none none none none)=.nx (sE t i w b (rR c) (nR (c.getD w 0)) none none none) :=
  set_shr (gK (k:=.shr) (fr:=false) (ds:=li c) (i:=w) rfl (k':=.shr) (fr':=true) rfl (jS (hw c cm)))
 have e3:aF 6 (dF []) (sE t i w b (rR c) (nR (c.getD w 0)) none none none)=.nx (sE t i w b (rR c) (nR (c.getD w 0)) (some ⟨.own,true,.lst []⟩) none none):=rfl
 have ei:pH (vE 0) (sE t i w b (rR c) (nR (c.getD w 0)) (some ⟨.own,true,.lst []⟩) none none)=.ok ⟨true,false,t.zipIdx.map fun p=>.tup [.int p.2,.lst (li p.1)]⟩:=by
  have:qQ (lil t)=t.zipIdx.map fun p=>.tup [.int p.2,.lst (li p.1)]:=xI (fun r=>.lst (li r)) t
  rw[←this];rfl
 obtain⟨ρ',e4,fr,x7,x8,e5⟩:=aBo (tg:=.tp [.nm 7,.nm 8]) (b:=aJb) (fr:=false) (inj:=fun p:List Int×Nat=>.tup [.int p.2,.lst (li p.1)]) (out:=fun p=>.lst (li (if p.2=i then c else swr c p.1 w b)))
  (E:=fun acc ρ=>∃ fr x7 x8,ρ=sE t i w b (rR c) (nR (c.getD w 0)) (some ⟨.own,fr,.lst acc⟩) x7 x8) t.zipIdx [] (sE t i w b (rR c) (nR (c.getD w 0)) (some ⟨.own,true,.lst []⟩) none none) (fun p hp acc ρ ha ⟨fr,x7,x8,hρ⟩=>by
   subst hρ
   have pm:p.1∈t:=by
    have:=List.mem_zipIdx hp
    rw[this.2.2];exact Eg _
   refine⟨sE t i w b (rR c) (nR (c.getD w 0)) (some ⟨.own,fr,.lst acc⟩) (some ⟨.shr,false,.int p.2⟩) (rR p.1),?_⟩
   have tst:bT (eqE (vE 7) (vE 1)) (sE t i w b (rR c) (nR (c.getD w 0)) (some ⟨.own,fr,.lst acc⟩) (some ⟨.shr,false,.int p.2⟩) (rR p.1))=.ok (decide ((p.2:Int)=(i:Int))):=eJ (uE (k:=.shr) (fr:=true) (i:=(p.2:Int)) rfl (k':=.shr) (fr':=true) (j:=(i:Int)) rfl);by_cases z:p.2=i
   · refine⟨sE t i w b (rR c) (nR (c.getD w 0)) (some ⟨.own,fr&&false,.lst (acc++[.lst (li c)])⟩) (some ⟨.shr,false,.int p.2⟩) (rR p.1),rfl,(fF tst).trans ?_,fr&&false,some ⟨.shr,false,.int p.2⟩,rR p.1,?_⟩
     · rw[decide_eq_true (by omega),if_pos rfl]
       exact rK (k:=.shr) (fr':=false) (d:=.lst (li c)) rfl rfl (by decide) ha
     · rw[if_pos z]
   · refine⟨sE t i w b (rR c) (nR (c.getD w 0)) (some ⟨.own,fr&&true,.lst (acc++[.lst (li (swr c p.1 w b))])⟩) (some ⟨.shr,false,.int p.2⟩) (rR p.1),rfl,(fF tst).trans ?_,fr&&true,some ⟨.shr,false,.int p.2⟩,rR p.1,?_⟩
     · rw[decide_eq_false (by omega),if_neg (by decide)]
       exact rK (k:=.tmp) (fr':=true) rfl (aTq hb hbN hN h9 (hB c cm) (hB _ pm) (hw c cm) (hw _ pm) (by have:=hl _ pm;rw[sizeLine_eq];omega)) (by decide) ha
     · rw[if_neg z]) (by rw[List.length_zipIdx,Dr,sizeLine_eq];omega) ⟨true,none,none,rfl⟩
 refine⟨fr,?_⟩
 subst e5
 have e6:gJ 0 (dR (pH (vE 0)) (.tp [.nm 7,.nm 8]) aJb) (sE t i w b (rR c) (nR (c.getD w 0)) (some ⟨.own,true,.lst []⟩) none none)=.nx (sE t i w b (rR c) (nR (c.getD w 0)) (some ⟨.own,fr,.lst (lil (swp t i w b))⟩) x7 x8):=by
  refine(sS (e:=⟨.shr,false,.lst (lil t)⟩) rfl).trans ((gU ei).trans ?_)
  rw[e4,Dq]
  have:List.map (fun p:List Int×Nat=>D.lst (li (if p.2=i then c else swr c p.1 w b))) t.zipIdx=lil (swp t i w b):=by
   unfold swp lil;rw[Bt,hc];rfl
  rw[this]
 refine(cO (np:=4) (n:=9) (s:=qT) (ds:=[.lst (lil t),.int i,.int w,.int b]) (r:=⟨.tmp,fr,.lst (lil (swp t i w b))⟩) rfl ((aB e1).trans ((aB e2).trans ((aB e3).trans ((aB e6).trans ?_))))).trans ?_
 · exact wV (by cases fr<;>rfl)
 · cases fr<;>rfl
end Hm
namespace Sm
open Srt
abbrev Tm:=List Int×Int
def look (A:List Tm)(k:List Int):Int:=match A with
 | []=>0
 | p :: r=>if p.1=k then p.2 else look r k
def put (A:List Tm)(k:List Int)(v:Int):List Tm:=if k∈A.map (·.1) then A.map fun p=>if p.1=k then (p.1,v) else p else A++[(k,v)]
theorem uA (A:List Tm)(k:List Int)(v:Int):(put A k v).map (·.1)=if k∈A.map (·.1) then A.map (·.1) else A.map (·.1)++[k]:=by
 unfold put;split
 · rw[Bt]
   apply Cg
   intro p _;show (if p.1=k then (p.1,v) else p).1=p.1
   split<;>rfl
 · simp
theorem vB {A:List Tm}{k:List Int}{v:Int}(h:(A.map (·.1)).Nodup):((put A k v).map (·.1)).Nodup:=by
 rw[uA];split
 · exact h
 · rename_i n
   rw[Ff];refine⟨h,by simp,fun a ha b hb=>?_⟩
   have:b=k:=by simpa using hb
   subst this;exact fun z=>n (z▸ha)
theorem aLr (A:List Tm)(k:List Int)(v:Int):(put A k v).length<=A.length+1:=by
 have:=congrArg Hd (uA A k v)
 simp only[Ad]at this;rw[this];split<;>simp
theorem aM4 {A:List Tm}{k:List Int}{v:Int}{p:Tm}(h:p∈put A k v):p∈A\/p=(k,v):=by
 unfold put at h;split at h
 · obtain⟨q,hq,e⟩:=(Ah.mp h)
   by_cases z:q.1=k
   · rw[if_pos z]at e;right;rw[←e,z]
   · rw[if_neg z]at e;left;rw[←e];exact hq
 · rcases Av.mp h with z | z
   · exact .inl z
   · right;simpa using z
theorem zJ {A:List Tm}(h:(A.map (·.1)).Nodup):∀ {p:Tm},p∈A->look A p.1=p.2:=by
 induction A with
 | nil=>intro p hp;cases hp
 | cons q r ih =>
  intro p hp;obtain⟨h1,h2⟩:=Br.mp (by simpa using h:(q.1 :: r.map (·.1)).Nodup)
  rcases Aj.mp hp with e | e
  · subst e;simp[look]
  · have:q.1≠p.1:=fun z=>h1 (z▸Gu e)
    simp only[look,if_neg this];exact ih h2 e
theorem jE {A:List Tm}{k:List Int}(h:k∉A.map (·.1)):look A k=0:=by
 induction A with
 | nil=>rfl
 | cons q r ih =>
  have h':k≠q.1/\k∉r.map (·.1):=by simpa using h
  simp only[look,if_neg (Ne.symm h'.1)];exact ih h'.2
def aG4 (A:List Tm):List Tm:=srt px (A.filter fun p=>p.2 != 0)
def sgn (m:Nat):Int:=1-2*((m:Int)%2)
def gW (p:List Int):Nat->Nat
 | 0=>0
 | j+1=>gW p j+((p.take j).filter fun b=>decide (p.getD j 0<b)).length
def inv (p:List Int):Nat:=gW p p.length
def val (t:Tm):Int:=if t.1.Nodup then sgn (inv t.1)*t.2 else 0
def key (t:Tm):List Int:=srt ix t.1
def step (A:List Tm)(t:Tm):List Tm:=put A (key t) (look A (key t)+val t)
def acc (A:List Tm)(ts:List Tm):List Tm:=ts.foldl step A
def cD (ts:List Tm):List Tm:=aG4 (acc [] ts)
theorem aB2 (m:Nat):sgn m=1\/sgn m=-1:=by unfold sgn;omega
theorem pJ:∀ (ts A:List Tm),(A.map (·.1)).Nodup->((acc A ts).map (·.1)).Nodup
 | [],A,h=>h
 | t :: ts,A,h=>pJ ts (step A t) (vB h)
theorem aPc (t:Tm):(val t).natAbs<=t.2.natAbs:=by
 unfold val;split
 · rcases aB2 (inv t.1) with z | z<;>rw[z]<;>omega
 · omega
theorem aL8 {A:List Tm}{M:Nat}(h:∀ p∈A,p.2.natAbs<=M)(k:List Int):(look A k).natAbs<=M:=by
 induction A with
 | nil=>exact Cc _
 | cons q r ih =>
  simp only[look];split
  · exact h q Ab
  · exact ih fun p hp=>h p (Ac _ hp)
theorem aK8 {A:List Tm}{t:Tm}{M N:Nat}(h:∀ p∈A,p.2.natAbs<=M)(ht:t.2.natAbs<=N):∀ p∈step A t,p.2.natAbs<=M+N:=by
 intro p hp;rcases aM4 hp with z | z
 · exact Bj (h p z) (Ci _ _)
 · rw[z]
   have h1:=aL8 h (key t);have h2:=aPc t;show (look A (key t)+val t).natAbs<=_
   omega
theorem aIc {N:Nat}:∀ (ts A:List Tm) {M:Nat},(∀ p∈A,p.2.natAbs<=M)->(∀ t∈ts,t.2.natAbs<=N)->∀ p∈acc A ts,p.2.natAbs<=M+ts.length*N
 | [],A,M,h,_,p,hp=>by simpa using h p hp
 | t :: ts,A,M,h,ht,p,hp=>by
  have:=aIc ts (step A t) (aK8 h (ht t Ab)) (fun u hu=>ht u (Ac _ hu)) p hp
  rw[Al,Nat.add_mul];omega
end Sm
namespace Sm
open PySem L2 Mir Srt
theorem yR:∀ (p s:List Int),s.Nodup->(p.foldl Da s).length<=s.length+p.length/\((p.foldl Da s).length=s.length+p.length↔(s++p).Nodup)
 | [],s,h=>by simp[h]
 | x :: p,s,h=>by
  rw[Dd];by_cases z:s.any (·==x)=true
  · have e:Da s x=s:=by unfold Da;rw[if_pos z]
    rw[e];have ih:=yR p s h
    have mem:x∈s:=by
     obtain⟨y,hy,e⟩:=Hz.mp z;rw[←eq_of_beq e];exact hy
    refine⟨by rw[Al];omega,⟨fun q=>?_,fun q=>?_⟩⟩
    · rw[Al]at q;omega
    · exact absurd rfl ((Ff.mp q).2.2 x mem x Ab)
  · have e:Da s x=s++[x]:=by unfold Da;rw[if_neg z]
    have nm:x∉s:=fun m=>z (Hz.mpr ⟨x,m,beq_self_eq_true x⟩);rw[e]
    have hs:(s++[x]).Nodup:=by
     rw[Ff];exact⟨h,by simp,fun a ha b hb=>by rw[As.mp hb];exact fun q=>nm (q▸ha)⟩
    have ih:=yR p (s++[x]) hs;rw[Ak,Ar]at ih;rw[Al,show s++x :: p=s++[x]++p by simp]
    exact⟨by omega,⟨fun q=>ih.2.mp (by omega),fun q=>by have:=ih.2.mpr q;omega⟩⟩
theorem aD3 (p:List Int):pF p<p.length↔¬ p.Nodup:=by
 have h:=yR p [] Dh;simp only[Dr,Dw,Dq]at h;unfold pF;constructor
 · intro q n
   have:=h.2.mpr n
   omega
 · intro n
   rcases Nat.lt_or_ge (p.foldl Da []).length p.length with z | z
   · exact z
   · exact absurd (h.2.mp (Nat.le_antisymm h.1 z)) n
theorem pG {α:Type}{tg:Tg}{b:FB}{fr:Bool}{ρ:Mir.Env}{inj out:α->D}{c:α->Bool}:∀ (xs:List α),(∀ x∈xs,∃ ρ1 k,tg.bind fr (inj x) ρ=.ok ρ1/\b ρ1=.ok (if c x then some ⟨k,true,out x⟩ else none)/\k≠.own)->fL tg b fr ρ (xs.map inj)=.ok (true,(xs.filter c).map out)
 | [],_=>rfl
 | x :: r,h=>by
  obtain⟨ρ1,k,h1,h2,h3⟩:=h x Ab;have ih:=pG r fun y hy=>h y (Ac _ hy);cases z:c x with
  | true =>
   rw[z]at h2;simp only[Ai,fL,h1,R.ok_bind,h2,if_true,Res.give,if_neg h3,ih,Eh,z];rfl
  | false =>
   rw[z]at h2;simp only[Ai,fL,h1,R.ok_bind,h2,Cf,if_false,ih,Eh,z]
theorem tZ {α:Type}{it:FI}{tg:Tg}{b:FB}{fr st:Bool}{ρ:Mir.Env}{k:Nat}{fs:List Nat}{inj out:α->D}{c:α->Bool}{xs:List α}(hi:it ρ=.ok ⟨st,fr,xs.map inj⟩)
 (h:∀ x∈xs,∃ ρ1 k',tg.bind fr (inj x) (dP k fs ρ)=.ok ρ1/\b ρ1=.ok (if c x then some ⟨k',true,out x⟩ else none)/\k'≠.own) (hz:xs.length<=sizeLine):aW it k fs tg b ρ=.ok ⟨.tmp,true,.lst ((xs.filter c).map out)⟩:=by
 have:=pG xs h
 simp only[aW,hi,R.ok_bind,this,Ad,if_pos hz]
theorem uC {t:FT}{f:FE}{ρ:Mir.Env}{c:Bool}{r:Res}(h:t ρ=.ok c)(hf:c=true->f ρ=.ok r):Mir.bIf t f ρ=.ok (if c then some r else none):=by
 cases c with
 | true=>simp only[Mir.bIf,h,R.ok_bind,if_true,hf rfl]
 | false=>simp only[Mir.bIf,h,R.ok_bind,Cf,if_false]
theorem aK3 (p:List Int):qQ (li p)=(Bo 0 p.length).map fun j=>.tup [.int (j:Int),.int (p.getD j 0)]:=by
 rw[xI,←Cr];refine Hx (by simp) fun i h1 h2=>?_
 have hi:i<p.length:=by simpa using h2
 simp[hi]
def trn (p:List Int):Int:=if p.Nodup then sgn (inv p) else 0
end Sm
namespace Hm
open PySem L2 Mir
theorem aOl (xs:List D)(j:Nat):mQ xs none (some (j:Int))=xs.take j:=by
 unfold mQ;rw[HT.rG,HT.jK,List.drop_zero,Nat.sub_zero,List.take_eq_take_iff];omega
theorem aD6 (xs:List D)(j:Nat):mQ xs (some (j:Int)) none=xs.drop j:=by
 unfold mQ;rw[HT.rG,HT.jK];by_cases h:j<=xs.length
 · rw[Fs h];exact Ew (by rw[By];omega)
 · rw[Nat.min_eq_right (by omega),Ia,Ex (Am _),Ex (by omega)];rfl
theorem aS7 (xs:List D){i p:Nat}(h:i<=p)(hp:p<=xs.length):mQ xs (some (i:Int)) (some (p:Int))=(xs.take p).drop i:=by
 unfold mQ;rw[HT.jK,HT.jK,Fs hp,Fs (show i<=xs.length by omega),List.drop_take]
theorem qL {f g:FE}{ρ:Mir.Env}{k k':Kd}{fr fr':Bool}{ds es:List D}(h1:f ρ=.ok ⟨k,fr,.lst ds⟩)(h2:g ρ=.ok ⟨k',fr',.lst es⟩)(c:ds.length+es.length<=sizeLine):eN f g ρ=.ok ⟨.tmp,fr&&fr',.lst (ds++es)⟩:=by
 simp only[eN,h1,h2,R.ok_bind,asL,if_pos c]
theorem aNg {f:FE}{ρ:Mir.Env}{fr:Bool}{d:D}(h:f ρ=.ok ⟨.shr,fr,d⟩):dF [f] ρ=.ok ⟨.tmp,fr&&true,.lst [d]⟩:=by
 have ev:=aG h (bO (ρ:=ρ));simp only[dF,ev,R.ok_bind];rfl
def nb (N:Nat):Nat->Nat
 | 0=>N
 | j+1=>2*nb N j+1
theorem zG (N:Nat):∀ j,nb N j+1=2^j*(N+1)
 | 0=>by simp[nb]
 | j+1=>by
  have:=zG N j
  rw[Nat.pow_succ,Nat.mul_right_comm,←this];show 2*nb N j+1+1=_
  omega
theorem wC (N:Nat){i j:Nat}(h:i<=j):nb N i<=nb N j:=by
 have a:=zG N i;have b:=zG N j;have:2^i*(N+1)<=2^j*(N+1):=Gn _ (zH h)
 omega
structure Cs where
 t:List (List Int)
 hs:List Nat
 b:Int
def fnd (t:List (List Int))(i w:Nat):List Nat:=(Bo i (t.length-i)).filter fun p=>!decide ((t.getD p []).getD w 0=0)
def mvd (t:List (List Int))(i p:Nat):List (List Int):=t.take i++[t.getD p []]++(t.take p).drop i++t.drop (p+1)
def eR (s:Cs)(w:Nat):Cs:=match fnd s.t s.hs.length w with
 | []=>s
 | p :: _=>⟨swp (mvd s.t s.hs.length p) s.hs.length w s.b,s.hs++[w],(s.t.getD p []).getD w 0⟩
theorem xO {t:List (List Int)}{i p:Nat}(h:i<=p)(hp:p<t.length):(mvd t i p).length=t.length:=by
 unfold mvd;simp only[Ak,Ax,By,Ar];omega
theorem jO {t:List (List Int)}{i p:Nat}(hp:p<t.length){r:List Int}(h:r∈mvd t i p):r∈t:=by
 unfold mvd at h;simp only[Av,As]at h;rcases h with ((h | h) | h) | h
 · exact Dz h
 · rw[h];exact Mir.bJ hp
 · exact Dz (Ce h)
 · exact Ce h
theorem aCs {t:List (List Int)}{i p:Nat}(h:i<=p)(hp:p<t.length):(mvd t i p).getD i []=t.getD p []:=by
 unfold mvd;rw[Aa,Bn,Bn,Au (by rw[Ax];omega),Ax,Fs (by omega),Ia]
 rfl
theorem aQ5 {t:List (List Int)}{i w:Nat}{b:Int}(h:i<t.length):(swp t i w b).getD i []=t.getD i []:=by
 unfold swp;rw[Aa,Ao,List.getElem?_zipIdx,Ae h];simp
theorem aE2 {t:List (List Int)}{i w:Nat}{b:Int}(hi:i<t.length){r:List Int}(h:r∈swp t i w b):r∈t\/∃ q∈t,r=swr (t.getD i []) q w b:=by
 unfold swp at h;obtain⟨p,hp,rfl⟩:=Ah.mp h
 have pm:p.1∈t:=by
  have:=List.mem_zipIdx hp
  rw[this.2.2];exact Eg _
 by_cases z:p.2=i
 · rw[if_pos z];exact .inl (Mir.bJ hi)
 · rw[if_neg z];exact .inr ⟨p.1,pm,rfl⟩
structure Ok (m L N k:Nat)(s:Cs):Prop where
 len:s.t.length=m
 row:∀ r∈s.t,r.length=L
 hk:s.hs.length<=k
 hm:s.hs.length<=m
 lt:∀ h∈s.hs,h<k
 b0:s.b≠0
 bn:s.b.natAbs<2^nb N s.hs.length
 tn:BN (nb N s.hs.length) s.t
theorem yA {t:List (List Int)}{i w p:Nat}{r:List Nat}(h:fnd t i w=p :: r):i<=p/\p<t.length/\(t.getD p []).getD w 0≠0:=by
 have:p∈fnd t i w:=by rw[h];exact Ab
 obtain⟨h1,h2⟩:=Ck.mp this;obtain⟨h3,h4⟩:=Hj.mp h1;refine⟨h3,by omega,?_⟩
 simpa using h2
theorem Ok.step {m L N k:Nat}{s:Cs}(o:Ok m L N k s)(hk:k<L):Ok m L N (k+1) (eR s k):=by
 unfold eR;cases e:fnd s.t s.hs.length k with
 | nil =>
  show Ok m L N (k+1) s
  exact⟨o.len,o.row,by have:=o.hk;omega,o.hm,fun h q=>by have:=o.lt h q;omega,o.b0,o.bn,o.tn⟩
 | cons p r =>
  obtain⟨h1,h2,h3⟩:=yA e;have hl:=o.len;have pm:s.t.getD p []∈s.t:=Mir.bJ h2;have il:s.hs.length<(mvd s.t s.hs.length p).length:=by rw[xO h1 h2];omega
  have len:(s.hs++[k]).length=s.hs.length+1:=by rw[Ak,Ar]
  have big:nb N s.hs.length<=nb N (s.hs.length+1):=wC N (Nat.le_succ _);show Ok m L N (k+1) ⟨swp (mvd s.t s.hs.length p) s.hs.length k s.b,s.hs++[k],(s.t.getD p []).getD k 0⟩
  refine⟨by show (swp _ _ _ _).length=m;rw[aDv,xO h1 h2];exact hl,fun q hq=>?_,by rw[len];have:=o.hk;omega,by rw[len];omega,fun h q=>?_,h3,?_,?_⟩
  · rcases aE2 il hq with q1 | ⟨q1,q2,rfl⟩
    · exact o.row _ (jO h2 q1)
    · rw[aEr,aCs h1 h2,o.row _ (jO h2 q2),o.row _ pm,Nat.min_self]
  · rcases Av.mp q with q | q
    · have:=o.lt h q;omega
    · have:=As.mp q;omega
  · show ((s.t.getD p []).getD k 0).natAbs<2^nb N (s.hs++[k]).length
    rw[len];exact An (o.tn _ pm _ (Mir.bJ (by rw[o.row _ pm];exact hk))) (zH big)
  · show BN (nb N (s.hs++[k]).length) (swp (mvd s.t s.hs.length p) s.hs.length k s.b)
    rw[len];intro q hq;rcases aE2 il hq with q1 | ⟨q1,q2,rfl⟩
    · exact fun x hx=>An (o.tn _ (jO h2 q1) x hx) (zH big)
    · rw[aCs h1 h2]
      exact aTo o.b0 (o.tn _ pm) (o.tn _ (jO h2 q2)) (by rw[o.row _ pm];exact hk) (by rw[o.row _ (jO h2 q2)];exact hk)
end Hm
namespace Hm
open PySem L2 Mir Sm
def hsD (hs:List Nat):List D:=hs.map fun (h:Nat)=>D.int (h:Int)
theorem yY (hs:List Nat):(hsD hs).length=hs.length:=Ad _
theorem lS (t:List (List Int)):(lil t).length=t.length:=Ad _
abbrev tR (fr:Bool)(t:List (List Int)):Option Res:=some ⟨.own,fr,.lst (lil t)⟩
abbrev hR (hs:List Nat):Option Res:=some ⟨.own,true,.lst (hsD hs)⟩
abbrev kE (n:Nat)(t0:List (List Int))(x2 x3 x4 x5 x6 x7:Option Res):Mir.Env:=[some ⟨.shr,false,.int n⟩,some ⟨.shr,false,.lst (lil t0)⟩,x2,x3,x4,x5,x6,x7]
abbrev aKm:FE:=aW (nJ (vE 6) (cB (vE 2))) 1 [5,2] (.nm 0) (Mir.bIf (bT (neE (bG (bG (vE 2) (vE 0)) (vE 1)) (cE (.int 0)))) (vE 0))
abbrev aKc:FE:=eN (eN (eN (eI (vE 2) (noO) (soO (vE 6))) (dF [bG (vE 2) (bG (vE 7) (cE (.int 0)))])) (eI (vE 2) (soO (vE 6)) (soO (bG (vE 7) (cE (.int 0)))))) (eI (vE 2) (soO (cR (bG (vE 7) (cE (.int 0))) (cE (.int 1)))) (noO))
abbrev vK (φ:Φ):FS:=aJ (aF 6 (cB (vE 3))) (aJ (aF 7 aKm) (ifS (nG (vE 7)) (aJ (aF 2 aKc) (aJ (gJ 2 (aF 2 (aL φ [vE 2,vE 6,vE 5,vE 4]))) (aJ (aF 4 (bG (bG (vE 2) (vE 6)) (vE 5))) (kJ 3 (vE 5))))) cI))
theorem aGy (i c:Nat):rS (i:Int) c=(Bo i c).map fun (p:Nat)=>D.int (p:Int):=by
 rw[aBv,List.range'_eq_map_range,Bt];refine Cg fun x _=>?_
 simp
theorem vT {ρ:Mir.Env}{i:Nat}{fr:Bool}{t:List (List Int)}(h:ρ[i]?=some (tR fr t)):vE i ρ=.ok ⟨.own,fr,.lst (lil t)⟩:=by
 unfold vE;rw[h];cases fr<;>rfl
theorem aTv {n:Nat}{t0 t:List (List Int)}{fr:Bool}{x3 x4 x7:Option Res}{i k L:Nat}(hr:∀ r∈t,r.length=L)(hk:k<L)(hi:i<=t.length)(ht:t.length<=1000) :
 aKm (kE n t0 (tR fr t) x3 x4 (nR k) (nR i) x7)=.ok ⟨.tmp,true,.lst (hsD (fnd t i k))⟩:=by
 have it:nJ (vE 6) (cB (vE 2)) (kE n t0 (tR fr t) x3 x4 (nR k) (nR i) x7)=.ok ⟨true,true,(Bo i (t.length-i)).map fun (p:Nat)=>D.int (p:Int)⟩:=by
  refine(aDp (x:=⟨.shr,true,.int i⟩) (y:=⟨.shr,true,.int (t.length:Nat)⟩) (lo:=(i:Int)) (m:=t.length-i) rfl rfl ?_ (by show D.int _=D.int _;congr 1;omega) (by omega) (by omega)).trans ?_
  · refine(gO (vT rfl)).trans ?_
    rw[lS];rfl
  · rw[aGy]
 refine(tZ (k:=1) (fs:=[5,2]) (tg:=.nm 0) (out:=fun (p:Nat)=>D.int (p:Int)) (c:=fun p=>!decide ((t.getD p []).getD k 0=0)) it (fun p hp=>?_) (by rw[List.length_range',sizeLine_eq];omega)).trans rfl
 have hp':=Hj.mp hp;have pl:p<t.length:=by omega
 have pm:t.getD p []∈t:=Mir.bJ pl;refine⟨[nR p,nR k,tR fr t],.shr,rfl,?_,by decide⟩
 refine uC (eJ (kT (gK (iA (vT rfl) (k':=.shr) (fr':=true) (i:=p) rfl (pQ pl)) (k':=.shr) (fr':=true) (i:=k) rfl (jS (by rw[hr _ pm];exact hk))) (k':=.shr) (fr':=true) (j:=0) rfl)) fun _=>rfl
theorem aSu {n:Nat}{t0 t:List (List Int)}{fr:Bool}{x3 x4 x5:Option Res}{i p:Nat}{r:List Nat}(h1:i<=p)(h2:p<t.length)(ht:t.length<=1000) :
 ∃ fr',aKc (kE n t0 (tR fr t) x3 x4 x5 (nR i) (hR (p :: r)))=.ok ⟨.tmp,fr',.lst (lil (mvd t i p))⟩:=by
 have f7:bG (vE 7) (cE (.int 0)) (kE n t0 (tR fr t) x3 x4 x5 (nR i) (hR (p :: r)))=.ok ⟨.shr,true,.int p⟩:=gK (k:=.own) (fr:=true) (ds:=hsD (p :: r)) (i:=0) rfl (k':=.shr) (fr':=true) rfl rfl;have v2:vE 2 (kE n t0 (tR fr t) x3 x4 x5 (nR i) (hR (p :: r)))=.ok ⟨.own,fr,.lst (lil t)⟩:=vT rfl;have a1:=jU (lo:=noO) (hi:=soO (vE 6)) v2 (a:=none) rfl (mH (k:=.shr) (fr:=true) (i:=(i:Int)) rfl);have a2:=aNg (iA v2 f7 (pQ h2));have a3:=jU (lo:=soO (vE 6)) (hi:=soO (bG (vE 7) (cE (.int 0)))) v2 (mH (k:=.shr) (fr:=true) (i:=(i:Int)) rfl) (mH f7);have a4:=jU (lo:=soO (cR (bG (vE 7) (cE (.int 0))) (cE (.int 1)))) (hi:=noO) v2 (mH (bM (C:=C0) (G:=fun i j=>i+j) f7 (k':=.shr) (fr':=true) (j:=1) rfl rfl)) (b:=none) rfl
 rw[aOl]at a1;rw[aS7 _ h1 (by rw[lS];omega)]at a3
 rw[show ((p:Int)+1)=((p+1:Nat):Int) by omega,aD6]at a4
 have c1:=qL a1 a2 (by rw[Ax,lS,Ar,sizeLine_eq];omega)
 have c2:=qL c1 a3 (by simp only[Ak,Ax,By,lS,Ar,sizeLine_eq];omega)
 have c3:=qL c2 a4 (by simp only[Ak,Ax,By,lS,Ar,sizeLine_eq];omega)
 have:(lil t).take i++[.lst (li (t.getD p []))]++((lil t).take p).drop i++(lil t).drop (p+1)=lil (mvd t i p):=by
  unfold mvd lil;simp only[Ca,Hs,Fc,Ai,Ic]
 rw[this]at c3;exact⟨_,c3⟩
def qU (φ:Φ):Prop:=∀ {t:List (List Int)} {i w N:Nat} {b:Int},i<t.length->(∀ r∈t,w<r.length)->(∀ r∈t,r.length<=1000)->t.length<=1000->b≠0->b.natAbs<2^N->0<N->2*N+1<=9000->BN N t->∃ fr,φ [.lst (lil t),.int i,.int w,.int b]=.ok ⟨.tmp,fr,.lst (lil (swp t i w b))⟩
theorem aHl {φ:Φ}(hφ:qU φ){n m L N k:Nat}{t0:List (List Int)}{s:Cs}(o:Ok m L N k s)(hk:k<L)(hL:L<=1000)(hm:m<=1000)(hN:0<N)(h9:2*nb N s.hs.length+1<=9000)(fr:Bool)(x6 x7:Option Res) :
 ∃ fr' y6 y7,vK φ (kE n t0 (tR fr s.t) (hR s.hs) (nR s.b) (nR k) x6 x7)=.nx (kE n t0 (tR fr' (eR s k).t) (hR (eR s k).hs) (nR (eR s k).b) (nR k) y6 y7):=by
 have ol:=o.len
 have e1:aF 6 (cB (vE 3)) (kE n t0 (tR fr s.t) (hR s.hs) (nR s.b) (nR k) x6 x7)=.nx (kE n t0 (tR fr s.t) (hR s.hs) (nR s.b) (nR k) (nR s.hs.length) x7):=by
  have:=set_shr (i:=6) (gO (f:=vE 3) (ρ:=kE n t0 (tR fr s.t) (hR s.hs) (nR s.b) (nR k) x6 x7) (k:=.own) (fr:=true) (ds:=hsD s.hs) rfl)
  rw[yY]at this;exact this
 have e2:aF 7 aKm (kE n t0 (tR fr s.t) (hR s.hs) (nR s.b) (nR k) (nR s.hs.length) x7)=.nx (kE n t0 (tR fr s.t) (hR s.hs) (nR s.b) (nR k) (nR s.hs.length) (hR (fnd s.t s.hs.length k))) :=
  cV (aTv o.row hk (by have:=o.hm;omega) (by omega))
 have e3:∀ l:List Nat,nG (vE 7) (kE n t0 (tR fr s.t) (hR s.hs) (nR s.b) (nR k) (nR s.hs.length) (hR l))=.ok (!(hsD l).isEmpty):=fun l=>rfl;cases e:fnd s.t s.hs.length k with
 | nil =>
  rw[e]at e2;refine⟨fr,nR s.hs.length,hR [],(aB e1).trans ((aB e2).trans ((fF (e3 [])).trans ?_))⟩
  have:eR s k=s:=by unfold eR;rw[e]
  rw[this];rfl
 | cons p r =>
  rw[e]at e2;obtain⟨h1,h2,h3⟩:=yA e;have cl:eR s k=⟨swp (mvd s.t s.hs.length p) s.hs.length k s.b,s.hs++[k],(s.t.getD p []).getD k 0⟩:=by unfold eR;rw[e]
  obtain⟨f1,q1⟩:=aSu (n:=n) (t0:=t0) (t:=s.t) (fr:=fr) (x3:=hR s.hs) (x4:=nR s.b) (x5:=nR k) (i:=s.hs.length) (p:=p) (r:=r) h1 h2 (by omega)
  have ml:(mvd s.t s.hs.length p).length=s.t.length:=xO h1 h2;have rowm:∀ q∈mvd s.t s.hs.length p,q.length=L:=fun q hq=>o.row q (jO h2 hq);obtain⟨f2,q2⟩:=hφ (t:=mvd s.t s.hs.length p) (i:=s.hs.length) (w:=k) (N:=nb N s.hs.length) (b:=s.b) (by omega) (fun q hq=>by rw[rowm q hq];exact hk) (fun q hq=>by rw[rowm q hq];exact hL) (by omega) o.b0 o.bn (by have:=wC N (Cc s.hs.length);have e0:nb N 0=N:=rfl;omega) h9 (fun q hq=>o.tn q (jO h2 hq))
  have g1:aF 2 aKc (kE n t0 (tR fr s.t) (hR s.hs) (nR s.b) (nR k) (nR s.hs.length) (hR (p :: r)))=.nx (kE n t0 (tR f1 (mvd s.t s.hs.length p)) (hR s.hs) (nR s.b) (nR k) (nR s.hs.length) (hR (p :: r))):=cV q1;have ev:evs [vE 2,vE 6,vE 5,vE 4] (kE n t0 (some ⟨.shr,f1,.lst (lil (mvd s.t s.hs.length p))⟩) (hR s.hs) (nR s.b) (nR k) (nR s.hs.length) (hR (p :: r)))=.ok [⟨.shr,f1||D.imm (.lst (lil (mvd s.t s.hs.length p))),.lst (lil (mvd s.t s.hs.length p))⟩,⟨.shr,true,.int s.hs.length⟩,⟨.shr,true,.int k⟩,⟨.shr,true,.int s.b⟩]:=rfl
  obtain⟨f3,q3⟩:∃ f3,aL φ [vE 2,vE 6,vE 5,vE 4] (kE n t0 (some ⟨.shr,f1,.lst (lil (mvd s.t s.hs.length p))⟩) (hR s.hs) (nR s.b) (nR k) (nR s.hs.length) (hR (p :: r)))=.ok ⟨.tmp,f3,.lst (lil (swp (mvd s.t s.hs.length p) s.hs.length k s.b))⟩:=by
   cases f2 with
   | true=>exact⟨true,iP ev q2⟩
   | false=>exact⟨_,(aA7 ev q2 rfl).trans rfl⟩
  have g2:gJ 2 (aF 2 (aL φ [vE 2,vE 6,vE 5,vE 4])) (kE n t0 (tR f1 (mvd s.t s.hs.length p)) (hR s.hs) (nR s.b) (nR k) (nR s.hs.length) (hR (p :: r)))=.nx (kE n t0 (tR f3 (swp (mvd s.t s.hs.length p) s.hs.length k s.b)) (hR s.hs) (nR s.b) (nR k) (nR s.hs.length) (hR (p :: r))) :=
   (sS (e:=⟨.own,f1,.lst (lil (mvd s.t s.hs.length p))⟩) rfl).trans (cV q3)
  have il:s.hs.length<(mvd s.t s.hs.length p).length:=by omega
  have pm:s.t.getD p []∈s.t:=Mir.bJ h2
  have at1:(lil (swp (mvd s.t s.hs.length p) s.hs.length k s.b))[s.hs.length]?=some (.lst (li (s.t.getD p []))):=by
   rw[pQ (by rw[aDv];exact il),aQ5 il,aCs h1 h2]
  have g3:aF 4 (bG (bG (vE 2) (vE 6)) (vE 5)) (kE n t0 (tR f3 (swp (mvd s.t s.hs.length p) s.hs.length k s.b)) (hR s.hs) (nR s.b) (nR k) (nR s.hs.length) (hR (p :: r)))=.nx (kE n t0 (tR f3 (swp (mvd s.t s.hs.length p) s.hs.length k s.b)) (hR s.hs) (nR ((s.t.getD p []).getD k 0)) (nR k) (nR s.hs.length) (hR (p :: r))) :=
   set_shr (gK (iA (vT rfl) (k':=.shr) (fr':=true) (i:=s.hs.length) rfl at1) (k':=.shr) (fr':=true) (i:=k) rfl (jS (by rw[o.row _ pm];exact hk)))
  have g4:kJ 3 (vE 5) (kE n t0 (tR f3 (swp (mvd s.t s.hs.length p) s.hs.length k s.b)) (hR s.hs) (nR ((s.t.getD p []).getD k 0)) (nR k) (nR s.hs.length) (hR (p :: r)))=.nx (kE n t0 (tR f3 (swp (mvd s.t s.hs.length p) s.hs.length k s.b)) (hR (s.hs++[k])) (nR ((s.t.getD p []).getD k 0)) (nR k) (nR s.hs.length) (hR (p :: r))):=by
   have:=rK (i:=3) (f:=vE 5) (ρ:=kE n t0 (tR f3 (swp (mvd s.t s.hs.length p) s.hs.length k s.b)) (hR s.hs) (nR ((s.t.getD p []).getD k 0)) (nR k) (nR s.hs.length) (hR (p :: r))) (fr:=true) (ds:=hsD s.hs) (k:=.shr) (fr':=true) (d:=.int k) rfl rfl (by decide) (by rw[yY,sizeLine_eq];have:=o.hm;omega)
   rw[show hsD s.hs++[D.int (k:Int)]=hsD (s.hs++[k]) by unfold hsD;rw[Ca];rfl]at this
   exact this
  refine⟨f3,nR s.hs.length,hR (p :: r),(aB e1).trans ((aB e2).trans ((fF (e3 (p :: r))).trans ?_))⟩
  rw[cl];exact(aB g1).trans ((aB g2).trans ((aB g3).trans g4))
end Hm
namespace Hm
open PySem L2 Mir Sm
theorem zR {α:Type}{tg:Tg}{b:FB}{fr:Bool}{ρ:Mir.Env}{inj out:α->D}:∀ (xs:List α),(∀ x∈xs,∃ ρ1 k f,tg.bind fr (inj x) ρ=.ok ρ1/\b ρ1=.ok (some ⟨k,f,out x⟩)/\k≠.own)->∃ f',fL tg b fr ρ (xs.map inj)=.ok (f',xs.map out)
 | [],_=>⟨true,rfl⟩
 | x :: r,h=>by
  obtain⟨ρ1,k,f,h1,h2,h3⟩:=h x Ab;obtain⟨f',ih⟩:=zR r fun y hy=>h y (Ac _ hy);refine⟨f&&f',?_⟩
  simp only[Ai,fL,h1,R.ok_bind,h2,Res.give,if_neg h3,ih]
theorem yQ {α:Type}{it:FI}{tg:Tg}{b:FB}{fr st:Bool}{ρ:Mir.Env}{k:Nat}{fs:List Nat}{inj out:α->D}{xs:List α}(hi:it ρ=.ok ⟨st,fr,xs.map inj⟩)
 (h:∀ x∈xs,∃ ρ1 k' f,tg.bind fr (inj x) (dP k fs ρ)=.ok ρ1/\b ρ1=.ok (some ⟨k',f,out x⟩)/\k'≠.own) (hz:xs.length<=sizeLine):∃ f',aW it k fs tg b ρ=.ok ⟨.tmp,f',.lst (xs.map out)⟩:=by
 obtain⟨f',e⟩:=zR xs h;refine⟨f',?_⟩
 simp only[aW,hi,R.ok_bind,e,Ad,if_pos hz]
theorem aLb {f g h:FE}{ρ:Mir.Env}{k1 k2 k3:Kd}{f1 f2 f3:Bool}{a b c:D}(h1:f ρ=.ok ⟨k1,f1,a⟩)(h2:g ρ=.ok ⟨k2,f2,b⟩)(h3:h ρ=.ok ⟨k3,f3,c⟩)(n1:k1≠.own)(n2:k2≠.own)(n3:k3≠.own):uJ 1 [f,g,h] ρ=.ok ⟨.shr,f1&&(f2&&(f3&&true)),.obj 1 [a,b,c]⟩:=by
 have ev:=aG h1 (aG h2 (aG h3 (bO (ρ:=ρ))));simp only[uJ,ev,R.ok_bind,gives,Res.give,if_neg n1,if_neg n2,if_neg n3];rfl
def clr (t:List (List Int))(n:Nat):Cs:=(Af n).foldl eR ⟨t,[],1⟩
def sY (t:List (List Int)):List (List Int):=t.map fun r=>r.map fun x=>-x
def bS (t:List (List Int))(n:Nat):Cs:=if (clr t n).b<0 then ⟨sY (clr t n).t,(clr t n).hs,-(clr t n).b⟩ else clr t n
abbrev bZ (s:Cs):D:=.obj 1 [.int s.b,.lst (hsD s.hs),.lst (lil s.t)]
theorem kL {tg:Tg}{b:FS}{fr:Bool}{d:D}{r:List D}{ρ ρ1 ρ2:Mir.Env}(h:tg.bind fr d ρ=.ok ρ1)(h2:b ρ1=.nx ρ2):fG tg b fr (d :: r) ρ=fG tg b fr r ρ2:=by
 simp only[fG,h,R.at,h2]
theorem aJt {φ:Φ}(hφ:qU φ){n m L N:Nat}{t0:List (List Int)}(hL:L<=1000)(hm:m<=1000)(hN:0<N)(hn:n<=L)(h9:2*nb N (n-1)+1<=9000)(j:Nat):∀ (k:Nat) (s:Cs) (fr:Bool) (x5 x6 x7:Option Res),Ok m L N k s->k+j=n ->
 Ok m L N n ((Bo k j).foldl eR s)/\∃ fr' y5 y6 y7,fG (.nm 5) (vK φ) true ((Bo k j).map fun (i:Nat)=>D.int (i:Int)) (kE n t0 (tR fr s.t) (hR s.hs) (nR s.b) x5 x6 x7)=.nx (kE n t0 (tR fr' ((Bo k j).foldl eR s).t) (hR ((Bo k j).foldl eR s).hs) (nR ((Bo k j).foldl eR s).b) y5 y6 y7):=by
 induction j with
 | zero =>
  intro k s fr x5 x6 x7 o h;have kn:k=n:=by omega
  subst kn;exact⟨o,fr,x5,x6,x7,rfl⟩
 | succ j ih =>
  intro k s fr x5 x6 x7 o h;have kn:k<n:=by omega
  have bound:2*nb N s.hs.length+1<=9000:=by
   have:=wC N (show s.hs.length<=n-1 by have:=o.hk;omega)
   omega
  obtain⟨f1,y6,y7,e⟩:=aHl hφ (n:=n) (t0:=t0) o (by omega) hL hm hN bound fr x6 x7
  obtain⟨o2,f2,z5,z6,z7,e2⟩:=ih (k+1) (eR s k) f1 (nR k) y6 y7 (o.step (by omega)) (by omega)
  rw[Dj,Dd,Ai];refine⟨o2,f2,z5,z6,z7,?_⟩
  have bd:Tg.bind true (.nm 5) (.int (k:Int)) (kE n t0 (tR fr s.t) (hR s.hs) (nR s.b) x5 x6 x7)=.ok (kE n t0 (tR fr s.t) (hR s.hs) (nR s.b) (nR k) x6 x7):=rfl;have st:fG (.nm 5) (vK φ) true (.int (k:Int) :: (Bo (k+1) j).map fun (i:Nat)=>D.int (i:Int)) (kE n t0 (tR fr s.t) (hR s.hs) (nR s.b) x5 x6 x7)=fG (.nm 5) (vK φ) true ((Bo (k+1) j).map fun (i:Nat)=>D.int (i:Int)) (kE n t0 (tR f1 (eR s k).t) (hR (eR s k).hs) (nR (eR s k).b) (nR k) y6 y7):=kL bd e;exact st.trans e2
abbrev aDh:FE:=aW (cN (vE 2)) 1 [] (.nm 0) (bE (aW (cN (vE 0)) 1 [] (.nm 0) (bE (nA (vE 0)))))
abbrev jA (φ:Φ):FS:=aJ (aF 2 (aW (cN (vE 1)) 1 [] (.nm 0) (bE (mT (vE 0))))) (aJ (aF 3 (dF [])) (aJ (aF 4 (cE (.int 1))) (aJ (dR (dX (vE 0)) (.nm 5) (vK φ)) (aJ (ifS (bT (ltE (vE 4) (cE (.int 0)))) (gJ 3 (bI (uJ 1 [nA (vE 4),vE 3,aDh]))) cI) (gJ 2 (gJ 3 (bI (uJ 1 [vE 4,vE 3,vE 2]))))))))
theorem aVa {ρ:Mir.Env}{fr:Bool}{t:List (List Int)}(h:ρ[2]?=some (tR fr t))(hl:∀ r∈t,r.length<=1000)(ht:t.length<=1000):aDh ρ=.ok ⟨.tmp,true,.lst (lil (sY t))⟩:=by
 refine(fP (fr:=fr) (st:=false) (inj:=fun r:List Int=>.lst (li r)) (out:=fun r=>.lst (li (r.map fun x=>-x))) (xs:=t) ((lJ (vT h)).trans rfl) (fun r hr=>?_) (by rw[sizeLine_eq];omega)).trans ?_
 · refine⟨[some ⟨.shr,fr,.lst (li r)⟩],.tmp,rfl,iM ?_,by decide⟩
   refine(fP (fr:=fr||D.imm (.lst (li r))) (st:=true) (inj:=D.int) (out:=fun x=>.int (-x)) (xs:=r) rfl (fun x _=>?_) (by have:=hl r hr;rw[sizeLine_eq];omega)).trans ?_
   · exact⟨[some ⟨.shr,fr||D.imm (.lst (li r)),.int x⟩],.shr,rfl,iM rfl,by decide⟩
   · unfold li;rw[Bt];rfl
 · unfold lil sY;rw[Bt];rfl
theorem aFs {φ:Φ}(hφ:qU φ){n L N:Nat}{t:List (List Int)}(hr:∀ r∈t,r.length=L)(hn:n<=L)(hL:L<=1000)(ht:t.length<=1000)(hN:0<N)(h9:2*nb N (n-1)+1<=9000)(hB:BN N t) :
 Ok t.length L N n (clr t n)/\∃ fr,cJ 2 8 (jA φ) [.int n,.lst (lil t)]=.ok ⟨.shr,fr,bZ (bS t n)⟩:=by
 have o0:Ok t.length L N 0 ⟨t,[],1⟩:=⟨rfl,hr,Am _,Cc _,fun h q=>absurd q (by simp),(show (1:Int)≠0 by decide),by
  show (1:Nat)<2^N
  exact An (by decide) (zH (show 1<=N from hN)),hB⟩
 obtain⟨f0,c0⟩:=yQ (it:=cN (vE 1)) (tg:=.nm 0) (b:=bE (mT (vE 0))) (ρ:=kE n t none none none none none none) (k:=1) (fs:=[]) (st:=true) (fr:=false) (inj:=fun r:List Int=>.lst (li r)) (out:=fun r=>.lst (li r)) (xs:=t) rfl (fun r _=>⟨[some ⟨.shr,false,.lst (li r)⟩],.tmp,_,rfl,iM rfl,by decide⟩) (by rw[sizeLine_eq];omega)
 have e1:aF 2 (aW (cN (vE 1)) 1 [] (.nm 0) (bE (mT (vE 0)))) (kE n t none none none none none none)=.nx (kE n t (tR f0 t) none none none none none):=cV c0;have e2:aF 3 (dF []) (kE n t (tR f0 t) none none none none none)=.nx (kE n t (tR f0 t) (hR []) none none none none):=rfl;have e3:aF 4 (cE (.int 1)) (kE n t (tR f0 t) (hR []) none none none none)=.nx (kE n t (tR f0 t) (hR []) (nR 1) none none none):=rfl;obtain⟨o,f1,y5,y6,y7,el⟩:=aJt hφ (n:=n) (t0:=t) hL ht hN hn h9 n 0 ⟨t,[],1⟩ f0 none none none o0 (by omega)
 rw[←Cr]at o el;have o:Ok t.length L N n (clr t n):=o
 have e4:dR (dX (vE 0)) (.nm 5) (vK φ) (kE n t (tR f0 t) (hR []) (nR 1) none none none)=.nx (kE n t (tR f1 (clr t n).t) (hR (clr t n).hs) (nR (clr t n).b) y5 y6 y7) :=
  (gU (jW (k:=.shr) (fr:=true) (n:=n) rfl (by omega))).trans el
 refine⟨o,?_⟩
 have row:=o.row;have len:=o.len;have e5:bT (ltE (vE 4) (cE (.int 0))) (kE n t (tR f1 (clr t n).t) (hR (clr t n).hs) (nR (clr t n).b) y5 y6 y7)=.ok (decide ((clr t n).b<0)):=eJ (jL (G:=fun i j=>decide (i<j)) (k:=.shr) (fr:=true) (i:=(clr t n).b) rfl (k':=.shr) (fr':=true) (j:=0) rfl);have fin:∀ {fr:Bool} {d:D},d.imm=false->(R.ok ⟨.shr,fr||d.imm,d⟩:R Res)=.ok ⟨.shr,fr,d⟩:=fun {fr d} h=>by rw[h,Gj]
 by_cases z:(clr t n).b<0
 · have v3:vE 3 (kE n t (tR f1 (clr t n).t) (some ⟨.shr,true,.lst (hsD (clr t n).hs)⟩) (nR (clr t n).b) y5 y6 y7)=.ok ⟨.shr,true,.lst (hsD (clr t n).hs)⟩:=rfl
   have v4:nA (vE 4) (kE n t (tR f1 (clr t n).t) (some ⟨.shr,true,.lst (hsD (clr t n).hs)⟩) (nR (clr t n).b) y5 y6 y7)=.ok ⟨.shr,true,.int (-(clr t n).b)⟩:=rfl;have nw:=aLb v4 v3 (aVa (ρ:=kE n t (tR f1 (clr t n).t) (some ⟨.shr,true,.lst (hsD (clr t n).hs)⟩) (nR (clr t n).b) y5 y6 y7) (fr:=f1) (t:=(clr t n).t) rfl (fun r hr=>by rw[o.row r hr];exact hL) (by rw[o.len];exact ht)) (by decide) (by decide) (by decide)
   have e6:ifS (bT (ltE (vE 4) (cE (.int 0)))) (gJ 3 (bI (uJ 1 [nA (vE 4),vE 3,aDh]))) cI (kE n t (tR f1 (clr t n).t) (hR (clr t n).hs) (nR (clr t n).b) y5 y6 y7)=.rt ⟨.shr,true,bZ (bS t n)⟩:=by
    refine(fF e5).trans ?_
    rw[decide_eq_true z,if_pos rfl];refine(sS (e:=⟨.own,true,.lst (hsD (clr t n).hs)⟩) rfl).trans ((fS nw).trans ?_)
    unfold bS;rw[if_pos z];rfl
   exact⟨true,(cO (np:=2) (n:=8) (s:=jA φ) (ds:=[.int n,.lst (lil t)]) rfl ((aB e1).trans ((aB e2).trans ((aB e3).trans ((aB e4).trans (mY e6)))))).trans (fin rfl)⟩
 · have e6:ifS (bT (ltE (vE 4) (cE (.int 0)))) (gJ 3 (bI (uJ 1 [nA (vE 4),vE 3,aDh]))) cI (kE n t (tR f1 (clr t n).t) (hR (clr t n).hs) (nR (clr t n).b) y5 y6 y7)=.nx (kE n t (tR f1 (clr t n).t) (hR (clr t n).hs) (nR (clr t n).b) y5 y6 y7):=by
    refine(fF e5).trans ?_
    rw[decide_eq_false z];rfl
   have v2:vE 2 (kE n t (some ⟨.shr,f1,.lst (lil (clr t n).t)⟩) (some ⟨.shr,true,.lst (hsD (clr t n).hs)⟩) (nR (clr t n).b) y5 y6 y7)=.ok ⟨.shr,f1||D.imm (.lst (lil (clr t n).t)),.lst (lil (clr t n).t)⟩:=rfl;have v3:vE 3 (kE n t (some ⟨.shr,f1,.lst (lil (clr t n).t)⟩) (some ⟨.shr,true,.lst (hsD (clr t n).hs)⟩) (nR (clr t n).b) y5 y6 y7)=.ok ⟨.shr,true,.lst (hsD (clr t n).hs)⟩:=rfl;have v4:vE 4 (kE n t (some ⟨.shr,f1,.lst (lil (clr t n).t)⟩) (some ⟨.shr,true,.lst (hsD (clr t n).hs)⟩) (nR (clr t n).b) y5 y6 y7)=.ok ⟨.shr,true,.int (clr t n).b⟩:=rfl;have nw:=fS (aLb v4 v3 v2 (by decide) (by decide) (by decide))
   have e7:gJ 2 (gJ 3 (bI (uJ 1 [vE 4,vE 3,vE 2]))) (kE n t (tR f1 (clr t n).t) (hR (clr t n).hs) (nR (clr t n).b) y5 y6 y7)=.rt ⟨.shr,true&&(true&&((f1||D.imm (.lst (lil (clr t n).t)))&&true)),bZ (bS t n)⟩:=by
    refine(sS (e:=⟨.own,f1,.lst (lil (clr t n).t)⟩) rfl).trans ((sS (e:=⟨.own,true,.lst (hsD (clr t n).hs)⟩) rfl).trans (nw.trans ?_))
    unfold bS;rw[if_neg z]
   exact⟨_,(cO (np:=2) (n:=8) (s:=jA φ) (ds:=[.int n,.lst (lil t)]) rfl ((aB e1).trans ((aB e2).trans ((aB e3).trans ((aB e4).trans ((aB e6).trans e7)))))).trans (fin rfl)⟩
end Hm
namespace Hm
open PySem L2 Mir
abbrev qI:FS:=(aJ (aF 4 (vE 1)) (aJ (aF 1 (vE 3)) (aF 3 (gZ (vE 4) (vE 3)))))
abbrev qK:FT:=bT (neE (vE 3) (cE (.int 0)))
abbrev aO8:FS :=
 (aJ (aF 1 (cE (.int 0)))
 (aJ (dR (cN (vE 0)) (.nm 2)
  (aJ (aF 3 (sU (vE 2)))
  (aB1 qK qI)))
 (bI (vE 1))))
abbrev gE (d:D)(c:Nat)(x2 x3 x4:Option Res):Mir.Env:=[some ⟨.shr,false,d⟩,nR c,x2,x3,x4]
section
variable {d:D}{x2:Option Res}
theorem aO2 (c r:Nat)(x4:Option Res):qK (gE d c x2 (nR r) x4)=.ok (!decide ((r:Int)=0)):=eJ (kT (k:=.shr) (fr:=true) (i:=(r:Int)) (k':=.shr) (fr':=true) (j:=0) rfl rfl)
theorem aEh (n c:Nat)(x4:Option Res):mU qK qI (n+1) (gE d c x2 (nR (0:Nat)) x4)=.nx (gE d c x2 (nR (0:Nat)) x4):=by
 have t:=aO2 (d:=d) (x2:=x2) c 0 x4;simp only[mU,t,R.at];rfl
theorem aG5 (n c:Nat){r:Nat}(h:r≠0)(x4:Option Res):mU qK qI (n+1) (gE d c x2 (nR r) x4)=mU qK qI n (gE d r x2 (nR ((c%r:Nat):Int)) (nR c)):=by
 have t:=aO2 (d:=d) (x2:=x2) c r x4;rw[decide_eq_false (by omega)]at t
 have e1:aF 4 (vE 1) (gE d c x2 (nR r) x4)=.nx (gE d c x2 (nR r) (nR c)):=rfl;have e2:aF 1 (vE 3) (gE d c x2 (nR r) (nR c))=.nx (gE d r x2 (nR r) (nR c)):=rfl;have e3:aF 3 (gZ (vE 4) (vE 3)) (gE d r x2 (nR r) (nR c))=.nx (gE d r x2 (nR ((c%r:Nat):Int)) (nR c)):=set_shr (bM (k:=.shr) (fr:=true) (i:=(c:Int)) (k':=.shr) (fr':=true) (j:=(r:Int)) rfl rfl (wL (by omega)))
 have b:qI (gE d c x2 (nR r) x4)=.nx (gE d r x2 (nR ((c%r:Nat):Int)) (nR c)):=(aB e1).trans ((aB e2).trans e3);simp only[mU,t,R.at,b];rfl
theorem aD8:∀ (n f c r:Nat) (x4:Option Res),r<2^n->2*n+1<=f->∃ y4,mU qK qI f (gE d c x2 (nR r) x4)=.nx (gE d (Ee c r) x2 (nR (0:Nat)) y4)
 | n,0,_,_,_,_,hf=>absurd hf (by omega)
 | n,f+1,c,0,x4,_,_=>⟨x4,by rw[Nat.gcd_zero_right];exact aEh f c x4⟩
 | 0,f+1,c,r+1,x4,h,_=>absurd h (by simp)
 | n+1,f+1,c,r+1,x4,h,hf=>by
  rw[aG5 f c (Nat.succ_ne_zero r) x4];have g1:Ee c (r+1)=Ee (r+1) (c%(r+1)):=by rw[Ib c,Nat.gcd_rec (r+1) c,Ib]
  have l1:=Nat.mod_lt c (Nat.succ_pos r);obtain⟨f',rfl⟩:∃ f',f=f'+1:=⟨f-1,by omega⟩
  by_cases z:c%(r+1)=0
  · rw[z]
    refine⟨nR c,?_⟩
    rw[g1,z,Nat.gcd_zero_right];exact aEh f' (r+1) (nR c)
  · rw[aG5 f' (r+1) z (nR c)]
    have g2:Ee (r+1) (c%(r+1))=Ee (c%(r+1)) ((r+1)%(c%(r+1))):=by rw[Ib (r+1),Nat.gcd_rec (c%(r+1)) (r+1),Ib]
    have half:2*((r+1)%(c%(r+1)))<r+1:=by
     have a:=Nat.mod_lt (r+1) (Nat.pos_of_ne_zero z);have b:=Nat.div_add_mod (r+1) (c%(r+1));have q:1<=(r+1)/(c%(r+1)):=Nat.div_pos (En l1) (Nat.pos_of_ne_zero z);have m:=Gs (c%(r+1)) q;omega
    obtain⟨y4,e⟩:=aD8 n f' (c%(r+1)) ((r+1)%(c%(r+1))) (nR (r+1:Nat)) (by rw[Nat.pow_succ]at h;omega) (by omega)
    exact⟨y4,by rw[g1,g2];exact e⟩
end
def bV (xs:List Int):Nat:=xs.foldl (fun g x=>Ee g x.natAbs) 0
theorem aAo {d:D}{N:Nat}(hN:N<=9000)(fr:Bool):∀ (xs:List Int) (g:Nat) (x2 x3 x4:Option Res),BR N xs->∃ y2 y3 y4,fG (.nm 2) (aJ (aF 3 (sU (vE 2))) (aB1 qK qI)) fr (li xs) (gE d g x2 x3 x4)=.nx (gE d (xs.foldl (fun g x=>Ee g x.natAbs) g) y2 y3 y4)
 | [],g,x2,x3,x4,_=>⟨x2,x3,x4,rfl⟩
 | x :: xs,g,x2,x3,x4,h=>by
  have bd:Tg.bind fr (.nm 2) (.int x) (gE d g x2 x3 x4)=.ok (gE d g (some ⟨.shr,fr,.int x⟩) x3 x4):=rfl;have ab:(if x<0 then -x else x)=((x.natAbs:Nat):Int):=by split<;>omega
  have e1:aF 3 (sU (vE 2)) (gE d g (some ⟨.shr,fr,.int x⟩) x3 x4)=.nx (gE d g (some ⟨.shr,fr,.int x⟩) (nR x.natAbs) x4):=by
   have:sU (vE 2) (gE d g (some ⟨.shr,fr,.int x⟩) x3 x4)=.ok (sc (.int (if x<0 then -x else x))):=rfl
   rw[ab]at this;exact set_shr this
  obtain⟨y4,e2⟩:=aD8 (d:=d) (x2:=some ⟨.shr,fr,.int x⟩) N (2^64) g x.natAbs x4 (h x Ab) (Bj (show 2*N+1<=18001 by omega) (by decide))
  obtain⟨z2,z3,z4,e3⟩:=aAo (d:=d) hN fr xs (Ee g x.natAbs) (some ⟨.shr,fr,.int x⟩) (nR (0:Nat)) y4 fun y hy=>h y (Ac _ hy);exact⟨z2,z3,z4,(kL bd ((aB e1).trans e2)).trans e3⟩
theorem aSn {N:Nat}(hN:N<=9000){xs:List Int}(h:BR N xs):cJ 1 5 aO8 [.lst (li xs)]=.ok (sc (.int (bV xs))):=by
 obtain⟨y2,y3,y4,e⟩:=aAo (d:=.lst (li xs)) hN false xs 0 none none none h;have e1:aF 1 (cE (.int 0)) [some ⟨.shr,false,.lst (li xs)⟩,none,none,none,none]=.nx (gE (.lst (li xs)) 0 none none none):=rfl;have e2:dR (cN (vE 0)) (.nm 2) (aJ (aF 3 (sU (vE 2))) (aB1 qK qI)) (gE (.lst (li xs)) 0 none none none)=.nx (gE (.lst (li xs)) (bV xs) y2 y3 y4):=(gU (fr:=false) (ds:=li xs) rfl).trans e;exact(cO (np:=1) (n:=5) (s:=aO8) (ds:=[.lst (li xs)]) rfl ((aB e1).trans ((aB e2).trans (fS (f:=vE 1) (fr:=true) rfl)))).trans rfl
theorem aAn (xs:List Int):∀ g:Nat,(xs.foldl (fun g x=>Ee g x.natAbs) g) ∣ g/\∀ x∈xs,(xs.foldl (fun g x=>Ee g x.natAbs) g) ∣ x.natAbs:=by
 induction xs with
 | nil=>intro g;exact⟨Nat.dvd_refl _,fun x h=>nomatch h⟩
 | cons y ys ih =>
  intro g;obtain⟨h1,h2⟩:=ih (Ee g y.natAbs);refine⟨Nat.dvd_trans h1 (Gh _ _),fun x hx=>?_⟩
  rcases Aj.mp hx with rfl | hx
  · exact Nat.dvd_trans h1 (Fz _ _)
  · exact h2 x hx
theorem oX {xs:List Int}{x:Int}(h:x∈xs):(bV xs:Int) ∣ x:=Du.mpr ((aAn xs 0).2 x h)
theorem kQ {xs:List Int}{x:Int}(h:x∈xs)(h0:x≠0):0<bV xs/\bV xs<=x.natAbs:=by
 have d:=(aAn xs 0).2 x h;have p:0<x.natAbs:=Int.natAbs_pos.mpr h0;exact⟨Nat.pos_of_dvd_of_pos d p,Nat.le_of_dvd p d⟩
abbrev aI0 (φ:Φ):FS :=
 (aJ (aF 2 (aL φ [eN (dF [vE 0]) (vE 1)]))
 (bI (eW [kI (vE 0) (vE 2),aW (cN (vE 1)) 1 [2] (.nm 0) (bE (kI (vE 0) (vE 1)))])))
def zA (φ:Φ):Prop:=∀ {N:Nat},N<=9000->∀ {xs:List Int},BR N xs->φ [.lst (li xs)]=.ok (sc (.int (bV xs)))
theorem aS9 {φ:Φ}(hφ:zA φ){N:Nat}(h0:0<N)(hN:N<=9000){b:Int}(hb:0<b)(bn:b.natAbs<2^N){tops:List Int}(ht:BR N tops)(hz:tops.length<=1000) :
 cJ 2 3 (aI0 φ) [.int b,.lst (li tops)]=.ok ⟨.shr,true,.tup [.int (b/(bV (b :: tops):Nat)),.lst (li (tops.map (·/(bV (b :: tops):Int))))]⟩:=by
 have g:=kQ (xs:=b :: tops) Ab (by omega)
 have e1:aF 2 (aL φ [eN (dF [vE 0]) (vE 1)]) [some ⟨.shr,false,.int b⟩,some ⟨.shr,false,.lst (li tops)⟩,none]=.nx [some ⟨.shr,false,.int b⟩,some ⟨.shr,false,.lst (li tops)⟩,nR (bV (b :: tops):Nat)]:=by
  have c:=qL (f:=dF [vE 0]) (g:=vE 1) (ρ:=[some ⟨.shr,false,.int b⟩,some ⟨.shr,false,.lst (li tops)⟩,none]) (k:=.tmp) (fr:=true&&true) (ds:=li [b]) (k':=.shr) (fr':=false||(D.lst (li tops)).imm) (es:=li tops) (aNg (fr:=true) (d:=.int b) rfl) rfl (by rw[Ad,Ad,sizeLine_eq];show 1+_<=_;omega)
  exact set_shr (eG (rs:=[⟨.tmp,(true&&true)&&(false||(D.lst (li tops)).imm),.lst (li (b :: tops))⟩]) (aG c bO) (hφ hN fun x hx=>by rcases Aj.mp hx with rfl | hx;{ exact bn };{ exact ht x hx }))
 have cd:CD b (bV (b :: tops):Nat)=true:=aQo (by omega) (N:=N) (by omega) h0 hN
 have e2:=bM (C:=CD) (G:=fun i j=>i/j) (f:=vE 0) (g:=vE 2) (ρ:=[some ⟨.shr,false,.int b⟩,some ⟨.shr,false,.lst (li tops)⟩,nR (bV (b :: tops):Nat)]) (k:=.shr) (fr:=true) (i:=b) (k':=.shr) (fr':=true) (j:=(bV (b :: tops):Nat)) rfl rfl cd
 have e3:=fP (it:=cN (vE 1)) (ρ:=[some ⟨.shr,false,.int b⟩,some ⟨.shr,false,.lst (li tops)⟩,nR (bV (b :: tops):Nat)]) (k:=1) (fs:=[2]) (tg:=.nm 0) (b:=bE (kI (vE 0) (vE 1))) (inj:=D.int) (out:=fun x=>.int (x/(bV (b :: tops):Nat))) (xs:=tops) (lJ (k:=.shr) (fr:=false||(D.lst (li tops)).imm) (ds:=li tops) rfl)
  (fun x hx=>⟨[some ⟨.shr,false||(D.lst (li tops)).imm,.int x⟩,nR (bV (b :: tops):Nat)],.shr,rfl,iM (bM (C:=CD) (G:=fun i j=>i/j) (k:=.shr) (i:=x) (k':=.shr) (fr':=true) (j:=(bV (b :: tops):Nat)) rfl rfl (aQo (by omega) (N:=N) (by omega) h0 hN)),by decide⟩) (by rw[sizeLine_eq];omega)
 have e4:eW [kI (vE 0) (vE 2),aW (cN (vE 1)) 1 [2] (.nm 0) (bE (kI (vE 0) (vE 1)))] [some ⟨.shr,false,.int b⟩,some ⟨.shr,false,.lst (li tops)⟩,nR (bV (b :: tops):Nat)]=.ok ⟨.shr,true,.tup [.int (b/(bV (b :: tops):Nat)),.lst (li (tops.map (·/(bV (b :: tops):Int))))]⟩:=by
  have ev:evs [kI (vE 0) (vE 2),aW (cN (vE 1)) 1 [2] (.nm 0) (bE (kI (vE 0) (vE 1)))] [some ⟨.shr,false,.int b⟩,some ⟨.shr,false,.lst (li tops)⟩,nR (bV (b :: tops):Nat)]=_:=aG e2 (aG e3 bO);simp only[eW,ev,R.ok_bind];rw[show li (tops.map (·/(bV (b :: tops):Int)))=tops.map fun x=>.int (x/(bV (b :: tops):Nat)) by simp[li,Function.comp_def]]
  rfl
 exact(cO (np:=2) (n:=3) (s:=aI0 φ) (ds:=[.int b,.lst (li tops)]) rfl ((aB e1).trans (fS e4))).trans rfl
def fY (n:Nat):List (List Int):=(Af n).map fun p=>(Af n).map fun w=>if w=p then 1 else 0
abbrev oZ:FS:=(bI (aW (dX (vE 0)) 1 [0] (.nm 0) (bE (aW (dX (vE 1)) 1 [0] (.nm 0) (bE (ifE (bT (eqE (vE 0) (vE 1))) (cE (.int 1)) (cE (.int 0))))))))
theorem aNq {n:Nat}(hn:n<=1000):cJ 1 1 oZ [.int n]=.ok ⟨.tmp,true,.lst (lil (fY n))⟩:=by
 have c:aW (dX (vE 0)) 1 [0] (.nm 0) (bE (aW (dX (vE 1)) 1 [0] (.nm 0) (bE (ifE (bT (eqE (vE 0) (vE 1))) (cE (.int 1)) (cE (.int 0)))))) [some ⟨.shr,false,.int n⟩]=.ok ⟨.tmp,true,.lst ((Af n).map fun p=>.lst ((Af n).map fun w=>.int (if w=p then 1 else 0)))⟩:=by
  refine fP (inj:=fun (p:Nat)=>.int (p:Int)) (xs:=Af n) (jW (k:=.shr) (fr:=true) (n:=n) rfl (by omega)) (fun p _=>⟨[nR p,some ⟨.shr,false,.int n⟩],.tmp,rfl,iM ?_,by decide⟩) (by rw[Cq,sizeLine_eq];omega)
  refine fP (inj:=fun (w:Nat)=>.int (w:Int)) (xs:=Af n) (jW (k:=.shr) (fr:=true) (n:=n) rfl (by omega)) (fun w _=>⟨[nR w,nR p],.shr,rfl,iM ?_,by decide⟩) (by rw[Cq,sizeLine_eq];omega)
  have t:bT (eqE (vE 0) (vE 1)) [nR w,nR p]=.ok (decide ((w:Int)=(p:Int))):=eJ (uE (k:=.shr) (fr:=true) (i:=(w:Int)) (k':=.shr) (fr':=true) (j:=(p:Int)) rfl rfl);simp only[ifE,t,R.ok_bind];by_cases z:w=p
  · rw[decide_eq_true (by omega),if_pos z];rfl
  · rw[decide_eq_false (by omega),if_neg z];rfl
 have e:oZ [some ⟨.shr,false,.int n⟩]=.rt ⟨.tmp,true,.lst (lil (fY n))⟩:=by
  refine(rC c).trans ?_
  simp[fY,lil,li,Function.comp_def]
 exact(cO (np:=1) (n:=1) (s:=oZ) (ds:=[.int n]) rfl e).trans rfl
end Hm
namespace Sm
open PySem L2 Mir Srt
def dK (A:List Tm):D:=.dct (A.map (·.1)) (A.map fun p=>.int p.2)
theorem rL:∀ (A:List Tm) (k:List Int),iD (A.map (·.1)) (A.map fun p=>.int p.2) k=if k∈A.map (·.1) then some (.int (look A k)) else none
 | [],k=>by simp[iD]
 | p :: r,k=>by
  simp only[Ai,iD];by_cases z:p.1=k
  · simp[z,look]
  · rw[if_neg z,rL r k]
    simp only[look,if_neg z];by_cases m:k∈r.map (·.1)
    · rw[if_pos m,if_pos (Ac _ m)]
    · rw[if_neg m,if_neg fun w=>(Aj.mp w).elim (Ne.symm z) m]
theorem aMg (A:List Tm)(k:List Int)(v:Int):wX (A.map (·.1)) (A.map fun p=>.int p.2) k (.int v)=((put A k v).map (·.1),(put A k v).map fun p=>.int p.2):=by
 unfold wX;rw[uA];unfold put;by_cases z:k∈A.map (·.1)
 · simp only[if_pos z]
   have e:∀ B:List Tm,((B.map (·.1)).zip (B.map fun p=>D.int p.2)).map (fun p=>if p.1=k then D.int v else p.2)=(B.map fun p=>if p.1=k then (p.1,v) else p).map fun p=>D.int p.2:=by
    intro B;induction B with
    | nil=>rfl
    | cons q r ih =>
     simp only[Ai,Fv];rw[ih];by_cases w:q.1=k<;>simp[w]
   rw[e A]
 · simp only[if_neg z]
   simp
theorem aQa {f:FE}{ρ:Mir.Env}{k:Kd}{fr:Bool}{ds:List D}(h:f ρ=.ok ⟨k,fr,.lst ds⟩):aGl f ρ=.ok ⟨.shr,fr,.tup ds⟩:=by simp only[aGl,h,R.ok_bind,asS]
theorem aPd {a k x:FE}{ρ:Mir.Env}{A:List Tm}{q:List Int}{kd kd' kd'':Kd}{fr fr' fr'':Bool}(h1:a ρ=.ok ⟨kd,fr,dK A⟩)(h2:k ρ=.ok ⟨kd',fr',.tup (li q)⟩)(h3:x ρ=.ok ⟨kd'',fr'',.int 0⟩):∃ f,aCo a k x ρ=.ok ⟨.shr,f,.int (look A q)⟩:=by
 simp only[aCo,h1,R.ok_bind,dK,h2,h3,asK,jG,rL];by_cases z:q∈A.map (·.1)
 · rw[if_pos z];exact⟨_,rfl⟩
 · rw[if_neg z,jE z]
   exact⟨true,rfl⟩
theorem aL3 {i:Nat}{k f:FE}{ρ:Mir.Env}{A:List Tm}{q:List Int}{v:Int}{kd kd':Kd}{fr fr':Bool}(ho:ρ[i]?=some (some ⟨.own,true,dK A⟩))(h1:f ρ=.ok ⟨kd,true,.int v⟩)(hk:kd≠.own)(h2:k ρ=.ok ⟨kd',fr',.tup (li q)⟩)(hz:A.length<sizeLine) :
 wS i k f ρ=.nx (ρ.set i (some ⟨.own,true,dK (put A q v)⟩)):=by
 have e0:ownD i ρ=.ok (true,A.map (·.1),A.map fun p=>.int p.2):=by unfold ownD;rw[ho];rfl
 have e1:asK (.tup (li q))=.ok q:=jG q;have hz':(A.map (·.1)).length<sizeLine:=by rw[Ad];exact hz
 simp only[wS,e0,R.at,h1,Res.give,if_neg hk,h2,e1,if_pos hz',aMg];rfl
end Sm
namespace Sm
open PySem L2 Mir Srt
theorem mV (t:Tm):val t=trn t.1*t.2:=by
 unfold val trn;split
 · rfl
 · rw[Dx]
theorem aD0 {f g:FE}{ρ:Mir.Env}{k k':Kd}{fr fr':Bool}{d d':D}(h1:f ρ=.ok ⟨k,fr,d⟩)(h2:g ρ=.ok ⟨k',fr',d'⟩)(n1:k≠.own)(n2:k'≠.own):eW [f,g] ρ=.ok ⟨.shr,fr&&(fr'&&true),.tup [d,d']⟩:=by
 have hz:([d,d']:List D).length<=sizeLine:=by show 2<=sizeLine;decide
 simp only[eW,evs,h1,h2,R.ok_bind,gives,Res.give,if_neg n1,if_neg n2,if_pos hz]
theorem yM (t:Tm):(key t).length=t.1.length:=aD7 _
end Sm
namespace Sm
open PySem L2 Mir Srt
def nm (b:Prop)[Decidable b](n:Int):Int:=if b then n else 0
variable (a0 a1 x7:Option Res)(f2:Bool)(p:List Int)(n:Int)
end Sm
namespace Sm
open PySem L2 Mir Srt
theorem aA6:∀ A:List Tm,fN (A.map mkP)=.ok A
 | []=>rfl
 | t :: A=>by
  have e:asP (mkP t)=.ok t:=by
   show (cZ (li t.1) >>= fun k=>.ok (k,t.2))=.ok t
   rw[jG];rfl
  simp only[Ai,fN,e,aA6 A,R.ok_bind]
theorem aQn (p:List Int):(D.tup (li p)).imm=true:=pI p
end Sm
namespace Sm
open PySem L2 Mir Srt
theorem aAm:∀ {l m:List Nat},l.Nodup->(∀ x∈l,x∈m)->l.length<=m.length
 | [],m,_,_=>Cc _
 | a :: l,m,h,s=>by
  obtain⟨h1,h2⟩:=Br.mp h;have ha:=s a Ab;have:=aAm (l:=l) (m:=m.erase a) h2 fun x hx=>(List.mem_erase_of_ne (fun z:x=a=>h1 (by rw[←z];exact hx))).mpr (s x (Ac _ hx))
  rw[List.length_erase_of_mem ha]at this;have:=List.length_pos_of_mem ha
  rw[Al];omega
theorem pE:∀ (k:List Int),(∀ x∈k,0<=x/\x<5)->k.length=k.count 0+k.count 1+k.count 2+k.count 3+k.count 4
 | [],_=>rfl
 | x :: k,h=>by
  have ih:=pE k fun y hy=>h y (Ac _ hy);obtain⟨a,b⟩:=h x Ab;have hx:x=0\/x=1\/x=2\/x=3\/x=4:=by omega
  rcases hx with e | e | e | e | e<;>subst e<;>simp[List.count_cons,ih]<;>omega
end Sm
namespace Sm
open PySem L2 Mir Srt
structure Sum (L:Nat)(ts:List Tm):Prop where
 ln:ts.length<=20
 hL:L<=20
 sz:∀ t∈ts,t.1.length=L
 rg:∀ t∈ts,∀ x∈t.1,0<=x/\x<5
 nd:∀ t∈ts,t.1.Nodup
 nb:∀ t∈ts,t.2.natAbs<=2^240
theorem sO {A:List Tm}{p:Tm}(h:p∈aG4 A):p∈A/\p.2≠0:=by
 have:=(dZ (r:=px) (A.filter fun p=>p.2 != 0)).mem_iff.mp h
 obtain⟨a,b⟩:=Ck.mp this;exact⟨a,by simpa using b⟩
theorem iV (t:Tm):(key t).Perm t.1:=dZ _
theorem aDa {n:Nat}(h:n<=2^900):n<2^1000:=Cv h (Nat.pow_lt_pow_right (by decide) (by decide))
def aY (a b:List Tm):List Tm:=a.flatMap fun s=>b.map fun t=>(s.1++t.1,s.2*t.2)
end Sm
namespace Sm
open PySem L2 Mir Srt
theorem aCi {p:List Int}(h:p.Pairwise fun a b=>ix b a=false):inv p=0:=by
 have go:∀ j,j<=p.length->gW p j=0:=by
  intro j;induction j with
  | zero=>intro _;rfl
  | succ j ih =>
   intro hj;have hlt:j<p.length:=by omega
   show gW p j+_=0
   rw[ih (by omega),Dw,Cp,List.filter_eq_nil_iff]
   intro b hb;obtain⟨i,hi,e⟩:=Co.mp hb;have hi':i<j:=by rw[Ax]at hi;omega
   have q:=(Ek.mp h) i j (by omega) hlt hi'
   have e2:b=p[i]:=by rw[←e];simp
   have e3:p.getD j 0=p[j]:=by simp[hlt]
   rw[e2,e3];unfold ix at q;simpa using q
 exact go p.length (Am _)
structure Told (S:List Tm):Prop where
 up:∀ t∈S,t.1.Pairwise fun a b=>ix b a=false
 nd:∀ t∈S,t.1.Nodup
 ks:(S.map (·.1)).Nodup
 nz:∀ t∈S,t.2≠0
 so:S.Pairwise fun a b=>px b a=false
theorem Told.val {S:List Tm}(h:Told S){t:Tm}(ht:t∈S):val t=t.2:=by
 unfold Sm.val;rw[if_pos (h.nd t ht),aCi (h.up t ht)];show (1-2*((0:Int)%2))*t.2=t.2
 omega
theorem Told.key {S:List Tm}(h:Told S){t:Tm}(ht:t∈S):key t=t.1:=(jI iK (Dy _) (h.up t ht)).symm
theorem aAt {S:List Tm}(h:Told S):∀ (T B:List Tm),(∀ t∈T,t∈S)->(((B++T).map (·.1)).Nodup)->acc B T=B++T
 | [],B,_,_=>by simp[acc]
 | t :: T,B,hs,nd=>by
  have ht:=hs t Ab
  have nm:t.1∉B.map (·.1):=by
   rw[Ca,Ff]at nd;intro m;exact nd.2.2 t.1 m t.1 (by simp) rfl
  have e:step B t=B++[t]:=by
   unfold step;rw[h.key ht,jE nm,h.val ht,Int.zero_add];unfold put;rw[if_neg nm]
  show acc (step B t) T=_
  rw[e,aAt h T (B++[t]) (fun u hu=>hs u (Ac _ hu)) (by simpa using nd)]
  simp
theorem Told.same {S:List Tm}(h:Told S):cD S=S:=by
 unfold cD;rw[aAt h S [] (fun _ z=>z) (by simpa using h.ks),Dq]
 unfold aG4;have e:S.filter (fun p=>p.2 != 0)=S:=List.filter_eq_self.mpr fun t ht=>by simpa using h.nz t ht
 rw[e];exact(jI kX (Dy _) h.so).symm
theorem zK (S:List Tm):aY [([],1)] S=S:=by
 unfold aY;rw[Hn,List.flatMap_nil,De];have:∀ t∈S,(([]:List Int)++t.1,(1:Int)*t.2)=t:=fun t _=>by rw[Dq,Gk]
 exact(Cg this).trans (List.map_id' _)
theorem aAd (S:List Tm):aY S [([],1)]=S:=by
 unfold aY;induction S with
 | nil=>rfl
 | cons t S ih =>
  rw[Hn,ih];show (t.1++[],t.2*1) :: S=t :: S
  rw[De,Gm]
end Sm
namespace Sm
open PySem L2 Mir Srt
abbrev cA (ts:List Tm):D:=.lst (ts.map mkP)
theorem aTs {p:List Int}{f:Bool}{r:Mir.Env}:vE 0 (some ⟨.shr,f,.tup (li p)⟩ :: r)=.ok ⟨.shr,true,.tup (li p)⟩:=by
 show R.ok (⟨.shr,f||(D.tup (li p)).imm,.tup (li p)⟩:Res)=_
 rw[aQn,Fx]
end Sm
namespace Sm
open PySem L2 Mir Srt
def aSs (s:Tm)(b:List Tm):List Tm:=b.map fun t=>(s.1++t.1,s.2*t.2)
theorem aO5 {n:Nat}(h:n<=2^240):n<2^1000:=aDa (Bj h (Cn (by decide) (by decide)))
theorem zD (a b:List Tm):(aY a b).length=a.length*b.length:=by
 induction a with
 | nil=>simp[aY]
 | cons x c ih =>
  show (aSs x b++aY c b).length=_
  rw[Ak,ih,aSs,Ad,Al,Gw,Nat.add_comm]
end Sm
namespace Sm
open PySem L2 Mir Srt
theorem sm9 {x:Int}(h:x.natAbs<=1000000000):x.natAbs<2^1000:=aVf (M:=1000000000) (aP3 (by decide)) h
end Sm
namespace Sm
open PySem L2 Mir Srt
theorem aR0 {W:List Int}{ρ:Mir.Env}{i:Nat}{k:Kd}{fr:Bool}(h:vE i ρ=.ok ⟨k,fr,.lst (li W)⟩):cB (vE i) ρ=.ok ⟨.shr,true,.int (W.length:Nat)⟩:=by
 refine(gO h).trans ?_
 rw[Ad];rfl
end Sm
namespace Sm
open PySem L2 Mir Srt
def aGw (xs:List Int)(lo hi:Option Int):List Int:=(xs.drop (HT.sIx xs.length 0 lo)).take (HT.sIx xs.length xs.length hi-HT.sIx xs.length 0 lo)
theorem aRq (xs:List Int)(lo hi:Option Int):mQ (li xs) lo hi=li (aGw xs lo hi):=by
 unfold mQ aGw li;rw[Ad,Hs,Fc]
def jC (ns:List Int)(k:Nat):Int:=if k<ns.length then ns.getD k 0%2147483647 else 0
theorem aG7 (ns:List Int)(k:Nat):0<=jC ns k/\jC ns k<2147483647:=by
 unfold jC;split
 · exact⟨Ih _ (by decide),Fw _ (by decide)⟩
 · decide
abbrev aRb:FS:=(aJ (ifS (bT (ltE (vE 1) (cB (vE 0))))
 (bI (gZ (bG (vE 0) (vE 1)) (cE (.int 2147483647))))
 cI)
 (bI (cE (.int 0))))
theorem aRi (ns:List Int)(k:Nat):cJ 2 2 aRb [.lst (li ns),.int k]=.ok (sc (.int (jC ns k))):=by
 refine(cO (r:=sc (.int (jC ns k))) rfl ?_).trans rfl
 have t:ltE (vE 1) (cB (vE 0)) (stE 2 [.lst (li ns),.int k])=.ok (sc (.bl (decide ((k:Int)<(li ns).length)))):=jL (i:=(k:Int)) (j:=((li ns).length:Int)) rfl (gO (ds:=li ns) rfl);by_cases h:k<ns.length
 · refine(mY (r:=sc (.int (jC ns k))) ?_)
   refine(aHk t).trans ?_
   rw[decide_eq_true (by simpa using h)]
   refine(if_pos rfl).trans ?_
   have e:=bM (C:=CP) (G:=fun i j=>i%j) (f:=bG (vE 0) (vE 1)) (g:=cE (.int 2147483647)) (ρ:=[some ⟨.shr,false,.lst (li ns)⟩,some ⟨.shr,false,.int k⟩]) (j:=2147483647) (gK (ds:=li ns) (i:=k) (z:=ns.getD k 0) rfl rfl (jS h)) rfl (decide_eq_true (by decide))
   refine(fS e).trans ?_
   unfold jC;rw[if_pos h];rfl
 · refine(aB (ρ1:=stE 2 [.lst (li ns),.int k]) ?_).trans ?_
   · refine(aHk t).trans ?_
     rw[decide_eq_false (by simpa using h)]
     rfl
   · unfold jC
     rw[if_neg h];rfl
abbrev iR (i:Int):Option Res:=some ⟨.shr,true,.int i⟩
abbrev oR (S:List Tm):Option Res:=some ⟨.own,true,cA S⟩
end Sm
namespace Sm
open PySem L2 Mir Srt
theorem qY {tg:Tg}{b:FS}{fr:Bool}{d:D}{r:List D}{ρ ρ1 ρ2:Mir.Env}(h1:tg.bind fr d ρ=.ok ρ1)(h2:b ρ1=.nx ρ2):fG tg b fr (d :: r) ρ=fG tg b fr r ρ2:=by
 simp only[fG,h1,R.at,h2]
end Sm
namespace Sm
open PySem L2 Mir Srt
theorem aSc (S:List Tm):(cA S).pl 6=true:=by
 show (D.lst (S.map mkP)).pl 6=true
 simp only[D.pl];refine yI fun d hd=>?_
 obtain⟨t,_,rfl⟩:=Ah.mp hd;show (D.tup [.tup (li t.1),.int t.2]).pl 5=true
 simp[D.pl,D.pls,aHw]
end Sm
namespace Sm
open PySem L2 Mir Srt
theorem aSb {f g:FE}{ρ:Mir.Env}{k k':Kd}{fr fr':Bool}{b c:Bool}(h1:f ρ=.ok ⟨k,fr,.bl b⟩)(h2:g ρ=.ok ⟨k',fr',.bl c⟩):orT (bT f) (bT g) ρ=.ok (b||c):=by
 refine(aP8 (eJ h1) fun _=>eJ h2).trans ?_
 cases b<;>rfl
theorem aUu (m:Int):orT (bT (ltE (vE 0) (cE (.int 1)))) (bT (gtE (vE 0) (cE (.int 5)))) [some ⟨.shr,false,.int m⟩]=.ok (decide (m<1)||decide (5<m)) :=
 aSb (jL (G:=fun i j=>decide (i<j)) (k:=.shr) (fr:=true) (i:=m) (k':=.shr) (fr':=true) (j:=1) rfl rfl) (jL (G:=fun i j=>decide (j<i)) (k:=.shr) (fr:=true) (i:=m) (k':=.shr) (fr':=true) (j:=5) rfl rfl)
end Sm
namespace Hm
open PySem L2 Mir Sm
theorem sM {φ:Φ}{fs:FEs}{ρ:Mir.Env}{rs:List Res}{k:Kd}{fr:Bool}{d:D}{y:Bool×List D}(h:evs fs ρ=.ok rs)(hφ:φ (rs.map (·.d))=.ok ⟨k,fr,d⟩)(hg:gives rs=.ok y):∃ f',aL φ fs ρ=.ok ⟨if k=.shr then .shr else .tmp,f',d⟩:=by
 cases fr with
 | true=>exact⟨true,xH h hφ⟩
 | false=>exact⟨_,aA7 h hφ hg⟩
theorem wB {α:Type}{tg:Tg}{b:FB}{fr:Bool}{ρ:Mir.Env}{inj out:α->D}{c:α->Bool}:∀ (xs:List α),(∀ x∈xs,∃ ρ1 k f,tg.bind fr (inj x) ρ=.ok ρ1/\b ρ1=.ok (if c x then some ⟨k,f,out x⟩ else none)/\k≠.own)->∃ f',fL tg b fr ρ (xs.map inj)=.ok (f',(xs.filter c).map out)
 | [],_=>⟨true,rfl⟩
 | x :: r,h=>by
  obtain⟨ρ1,k,f,h1,h2,h3⟩:=h x Ab;obtain⟨f',ih⟩:=wB r fun y hy=>h y (Ac _ hy);cases z:c x with
  | true =>
   rw[z]at h2;refine⟨f&&f',?_⟩
   simp only[Ai,fL,h1,R.ok_bind,h2,if_true,Res.give,if_neg h3,ih,Eh,z]
  | false =>
   rw[z]at h2;refine⟨f',?_⟩
   simp only[Ai,fL,h1,R.ok_bind,h2,Cf,if_false,ih,Eh,z]
theorem aKo {α:Type}{it:FI}{tg:Tg}{b:FB}{fr st:Bool}{ρ:Mir.Env}{k:Nat}{fs:List Nat}{inj out:α->D}{c:α->Bool}{xs:List α}(hi:it ρ=.ok ⟨st,fr,xs.map inj⟩)
 (h:∀ x∈xs,∃ ρ1 k' f,tg.bind fr (inj x) (dP k fs ρ)=.ok ρ1/\b ρ1=.ok (if c x then some ⟨k',f,out x⟩ else none)/\k'≠.own) (hz:xs.length<=sizeLine):∃ f',aW it k fs tg b ρ=.ok ⟨.tmp,f',.lst ((xs.filter c).map out)⟩:=by
 obtain⟨f',e⟩:=wB xs h;refine⟨f',?_⟩
 simp only[aW,hi,R.ok_bind,e,Ad,if_pos hz]
structure Cl (k L n M:Nat)(s:Cs):Prop where
 len:s.t.length=k
 row:∀ r∈s.t,r.length=L
 hm:s.hs.length<=k
 lt:∀ h∈s.hs,h<n
 b0:0<s.b
 bn:s.b.natAbs<2^M
 tn:BN M s.t
theorem yF {t:List (List Int)}{r:List Int}(h:r∈sY t):∃ q∈t,r=q.map fun x=>-x:=by
 obtain⟨q,h1,h2⟩:=Ah.mp h;exact⟨q,h1,h2.symm⟩
theorem aLl {k L n N M:Nat}{t:List (List Int)}(o:Ok k L N n (clr t n))(hM:nb N n<=M):Cl k L n M (bS t n):=by
 have up:2^nb N (clr t n).hs.length<=2^M:=zH (Bj (wC N o.hk) hM);have b0:=o.b0;have bn:=o.bn;unfold bS;split
 · refine⟨by show (sY _).length=k;unfold sY;rw[Ad];exact o.len,fun r hr=>?_,o.hm,o.lt,by show 0 < -_;omega,?_,fun r hr x hx=>?_⟩
   · obtain⟨q,hq,rfl⟩:=yF hr
     rw[Ad];exact o.row q hq
   · show (-(clr t n).b).natAbs<2^M
     rw[Int.natAbs_neg];omega
   · obtain⟨q,hq,rfl⟩:=yF hr
     obtain⟨y,hy,rfl⟩:=Ah.mp hx;rw[Int.natAbs_neg];exact An (o.tn q hq y hy) up
 · exact⟨o.len,o.row,o.hm,o.lt,by omega,by omega,fun r hr x hx=>An (o.tn r hr x hx) up⟩
def eqL:List (List Int)->List Int->List (List Int)->List (List Int)
 | r :: rs,e :: es,u :: us=>(r++[e]++u) :: eqL rs es us
 | _,_,_=>[]
def gY:List (List Int)->List Int->List (List Int)->List (List Int×Int×List Int)
 | r :: rs,e :: es,u :: us=>(r,e,u) :: gY rs es us
 | _,_,_=>[]
abbrev inT (p:List Int×Int×List Int):D:=.tup [.lst (li p.1),.int p.2.1,.lst (li p.2.2)]
theorem aBy:∀ (rs:List (List Int)) (es:List Int) (us:List (List Int)),zp3 (lil rs) (li es) (lil us)=(gY rs es us).map inT
 | [],es,us=>by simp[zp3,gY]
 | _ :: _,[],us=>by simp[zp3,gY]
 | _ :: _,_ :: _,[]=>by simp[zp3,gY]
 | r :: rs,e :: es,u :: us=>by
  have:=aBy rs es us
  simp only[lil,li,Ai,zp3,gY]at this ⊢;rw[this]
theorem sN:∀ (rs:List (List Int)) (es:List Int) (us:List (List Int)),eqL rs es us=(gY rs es us).map fun p=>p.1++[p.2.1]++p.2.2
 | [],es,us=>by simp[eqL,gY]
 | _ :: _,[],us=>by simp[eqL,gY]
 | _ :: _,_ :: _,[]=>by simp[eqL,gY]
 | r :: rs,e :: es,u :: us=>by simp only[eqL,gY,Ai];rw[sN rs es us]
theorem nP:∀ {rs:List (List Int)} {es:List Int} {us:List (List Int)} {p:List Int×Int×List Int},p∈gY rs es us->p.1∈rs/\p.2.1∈es/\p.2.2∈us
 | [],es,us,p,h=>by simp[gY]at h
 | _ :: _,[],us,p,h=>by simp[gY]at h
 | _ :: _,_ :: _,[],p,h=>by simp[gY]at h
 | r :: rs,e :: es,u :: us,p,h=>by
  rcases Aj.mp h with rfl | h
  · exact⟨Ab,Ab,Ab⟩
  · obtain⟨a,b,c⟩:=nP h
    exact⟨Ac _ a,Ac _ b,Ac _ c⟩
theorem tM:∀ {rs:List (List Int)} {es:List Int} {us:List (List Int)},es.length=rs.length->us.length=rs.length->(gY rs es us).length=rs.length
 | [],[],us,_,_=>by simp[gY]
 | r :: rs,e :: es,u :: us,h1,h2=>by
  simp only[gY,Al]at h1 h2 ⊢;rw[tM (by omega) (by omega)]
 | [],_ :: _,_,h,_=>by simp at h
 | _ :: _,[],_,h,_=>by simp at h
 | _ :: _,_ :: _,[],_,h=>by simp at h
structure Eqn (m N:Nat)(rows:List (List Int))(ends:List Int):Prop where
 m1:1<=m
 m5:m<=5
 ln:rows.length<=100
 sz:∀ r∈rows,r.length=m
 al:ends.length=rows.length
 rn:BN N rows
 en:BR N ends
 n0:0<N
 n9:N<=200
theorem aAa (n:Nat):(fY n).length=n/\∀ r∈fY n,r.length=n:=by
 refine⟨by unfold fY;simp,fun r hr=>?_⟩
 obtain⟨p,_,rfl⟩:=Ah.mp hr;simp
theorem aSi {N:Nat}(h0:0<N)(n:Nat):BN N (fY n):=fun r hr x hx=>by
 obtain⟨p,_,rfl⟩:=Ah.mp hr;obtain⟨w,_,rfl⟩:=Ah.mp hx;have:2<=2^N:=by have:=zH (show 1<=N from h0);simpa using this
 split<;>simp<;>omega
abbrev eqT (rows:List (List Int))(ends:List Int):List (List Int):=eqL rows ends (fY rows.length)
section
variable {m N:Nat}{rows:List (List Int)}{ends:List Int}
theorem mZ (E:Eqn m N rows ends):(eqT rows ends).length=rows.length/\(∀ r∈eqT rows ends,r.length=m+1+rows.length)/\BN N (eqT rows ends):=by
 have ul:=aAa rows.length;rw[show eqT rows ends=_ from sN _ _ _]
 refine⟨by rw[Ad];exact tM E.al ul.1,fun r hr=>?_,fun r hr x hx=>?_⟩
 · obtain⟨p,hp,rfl⟩:=Ah.mp hr
   obtain⟨a,_,c⟩:=nP hp;rw[Ak,Ak,Ar,E.sz _ a,ul.2 _ c]
 · obtain⟨p,hp,rfl⟩:=Ah.mp hr
   obtain⟨a,b,c⟩:=nP hp;rcases Av.mp hx with q | q
   · rcases Av.mp q with q | q
     · exact E.rn _ a x q
     · rw[As.mp q];exact E.en _ b
   · exact aSi E.n0 _ _ c x q
abbrev aNi (φu:Φ):FE:=aW (vL (vE 1) (vE 2) (aL φu [cB (vE 1)])) 3 [] (.tp [.nm 0,.nm 1,.nm 2]) (bE (eN (eN (vE 0) (dF [vE 1])) (vE 2)))
abbrev aOg (φr φa φc φu:Φ):FS:=(aJ (kC (aL φr [vE 0,vE 1])) (aJ (kC (aL φa [vE 1,vE 2])) (bI (aL φc [vE 0,aNi φu]))))
abbrev qE (m:Int)(rows:List (List Int))(ends:List Int):Mir.Env:=[some ⟨.shr,false,.int m⟩,some ⟨.shr,false,.lst (lil rows)⟩,some ⟨.shr,false,.lst (li ends)⟩]
theorem aVj {φu:Φ}(hu:φu [.int rows.length]=.ok ⟨.tmp,true,.lst (lil (fY rows.length))⟩)(E:Eqn m N rows ends):∃ f,aNi φu (qE m rows ends)=.ok ⟨.tmp,f,.lst (lil (eqT rows ends))⟩:=by
 have ul:=aAa rows.length;have ln:=E.ln;have m5:=E.m5
 have l1:cB (vE 1) (qE m rows ends)=.ok ⟨.shr,true,.int (rows.length:Nat)⟩:=by
  refine(gO (k:=.shr) (fr:=false||(D.lst (lil rows)).imm) (ds:=lil rows) rfl).trans ?_
  rw[lS];rfl
 have u:aL φu [cB (vE 1)] (qE m rows ends)=.ok ⟨.tmp,true,.lst (lil (fY rows.length))⟩:=iP (rs:=[⟨.shr,true,.int (rows.length:Nat)⟩]) (aG l1 bO) hu
 have it:vL (vE 1) (vE 2) (aL φu [cB (vE 1)]) (qE m rows ends)=.ok ⟨true,((false||(D.lst (lil rows)).imm)&&(false||(D.lst (li ends)).imm))&&true,(gY rows ends (fY rows.length)).map inT⟩:=by
  have ev:evs [vE 1,vE 2,aL φu [cB (vE 1)]] (qE m rows ends)=.ok [⟨.shr,false||(D.lst (lil rows)).imm,.lst (lil rows)⟩,⟨.shr,false||(D.lst (li ends)).imm,.lst (li ends)⟩,⟨.tmp,true,.lst (lil (fY rows.length))⟩]:=aG rfl (aG rfl (aG u bO));simp only[vL,ev,R.ok_bind,asL,aBy];rfl
 obtain⟨g,it⟩:∃ g,vL (vE 1) (vE 2) (aL φu [cB (vE 1)]) (qE m rows ends)=.ok ⟨true,g,(gY rows ends (fY rows.length)).map inT⟩:=⟨_,it⟩
 have key:∃ f',aNi φu (qE m rows ends)=.ok ⟨.tmp,f',.lst ((gY rows ends (fY rows.length)).map fun p=>.lst (li (p.1++[p.2.1]++p.2.2)))⟩:=by
  refine yQ (inj:=inT) (xs:=gY rows ends (fY rows.length)) it (fun p hp=>?_) (by rw[tM E.al ul.1,sizeLine_eq];omega)
  obtain⟨a,_,c⟩:=nP hp;have c1:=qL (f:=vE 0) (g:=dF [vE 1]) (ρ:=[some ⟨.shr,g,.lst (li p.1)⟩,some ⟨.shr,g,.int p.2.1⟩,some ⟨.shr,g,.lst (li p.2.2)⟩]) (k:=.shr) (ds:=li p.1) rfl (aNg rfl) (by rw[Ad,E.sz _ a,Ar,sizeLine_eq];omega)
  have c2:=qL (g:=vE 2) (k':=.shr) (es:=li p.2.2) c1 rfl (by rw[Ak,Ad,Ad,E.sz _ a,Ar,ul.2 _ c,sizeLine_eq];omega)
  rw[show li p.1++[D.int p.2.1]++li p.2.2=li (p.1++[p.2.1]++p.2.2) by simp[li]]at c2
  exact⟨[some ⟨.shr,g,.lst (li p.1)⟩,some ⟨.shr,g,.int p.2.1⟩,some ⟨.shr,g,.lst (li p.2.2)⟩],.tmp,_,rfl,iM c2,by decide⟩
 obtain⟨f',e⟩:=key;refine⟨f',e.trans ?_⟩
 rw[show eqT rows ends=_ from sN _ _ _]
 simp[lil,Function.comp_def]
def aJu (φ:Φ):Prop:=∀ {n L N:Nat} {t:List (List Int)},(∀ r∈t,r.length=L)->n<=L->L<=1000->t.length<=1000->0<N->2*nb N (n-1)+1<=9000->BN N t->Ok t.length L N n (clr t n)/\∃ fr,φ [.int n,.lst (lil t)]=.ok ⟨.shr,fr,bZ (bS t n)⟩
theorem aVq {m N:Nat}(m5:m<=5)(h:N<=200):nb N m<=6500/\2*nb N (m-1)+1<=9000:=by
 have a:=wC N m5;have b:=wC N (show m-1<=4 by omega)
 have c:=zG N 5;have d:=zG N 4;omega
theorem aU5 {φr φa φc φu:Φ}(hr:φr [.int m,.lst (lil rows)]=.ok (sc .non))(ha:φa [.lst (lil rows),.lst (li ends)]=.ok (sc .non))(hc:aJu φc)(hu:φu [.int rows.length]=.ok ⟨.tmp,true,.lst (lil (fY rows.length))⟩)(E:Eqn m N rows ends) :
 Cl rows.length (m+1+rows.length) m 6500 (bS (eqT rows ends) m)/\∃ fr,cJ 3 3 (aOg φr φa φc φu) [.int m,.lst (lil rows),.lst (li ends)]=.ok ⟨.shr,fr,bZ (bS (eqT rows ends) m)⟩:=by
 obtain⟨t1,t2,t3⟩:=mZ E;have nbm:=aVq E.m5 E.n9;have ln:=E.ln;have m5:=E.m5;obtain⟨o,fr,ec⟩:=hc (n:=m) (L:=m+1+rows.length) (N:=N) (t:=eqT rows ends) t2 (by omega) (by omega) (by omega) E.n0 nbm.2 t3
 rw[t1]at o;refine⟨aLl o nbm.1,?_⟩
 obtain⟨f,eq⟩:=aVj hu E;have e1:kC (aL φr [vE 0,vE 1]) (qE m rows ends)=.nx (qE m rows ends):=xF (eG (rs:=[⟨.shr,true,.int m⟩,⟨.shr,false||(D.lst (lil rows)).imm,.lst (lil rows)⟩]) (aG rfl (aG rfl bO)) hr);have e2:kC (aL φa [vE 1,vE 2]) (qE m rows ends)=.nx (qE m rows ends):=xF (eG (rs:=[⟨.shr,false||(D.lst (lil rows)).imm,.lst (lil rows)⟩,⟨.shr,false||(D.lst (li ends)).imm,.lst (li ends)⟩]) (aG rfl (aG rfl bO)) ha);obtain⟨f',e3⟩:=sM (φ:=φc) (fs:=[vE 0,aNi φu]) (rs:=[⟨.shr,true,.int m⟩,⟨.tmp,f,.lst (lil (eqT rows ends))⟩]) (aG rfl (aG eq bO)) ec rfl;exact⟨_,(cO (np:=3) (n:=3) (s:=aOg φr φa φc φu) (ds:=[.int m,.lst (lil rows),.lst (li ends)]) rfl ((aB e1).trans ((aB e2).trans (fS e3)))).trans rfl⟩
end
end Hm
namespace Hm
open PySem L2 Mir Sm
theorem xP {c r:List Int}{w:Nat}{b:Int}(h:r.length=c.length)(j:Nat):(swr c r w b).getD j 0=(c.getD w 0*r.getD j 0-r.getD w 0*c.getD j 0).fdiv b:=by
 unfold swr;by_cases z:j<r.length
 · have z':j<c.length:=by omega
   simp[Aa,Ao,List.getElem?_zip_eq_some,z,z',List.zip,Ge]
 · have z':¬ j<c.length:=by omega
   simp[Aa,Ao,z,z',List.zip,Ge]
theorem aMj {w:Nat}{b:Int}(A:List (List Int))(x:List Int)(R:List (List Int)):swp (A++x :: R) A.length w b=A.map (fun r=>swr x r w b)++x :: R.map (fun r=>swr x r w b):=by
 have g:(A++x :: R).getD A.length []=x:=by simp[Aa]
 unfold swp;rw[g,List.zipIdx_append,Ca,Dw,Hw,Ai,if_pos rfl];congr 1
 · have:∀ (l:List (List Int)) (k:Nat),k+l.length<=A.length->(l.zipIdx k).map (fun p=>if p.2=A.length then x else swr x p.1 w b)=l.map fun r=>swr x r w b:=by
    intro l;induction l with
    | nil=>intro k _;rfl
    | cons r l ih =>
     intro k hk;rw[Al]at hk;rw[Hw,Ai,Ai,if_neg (by show k≠_;omega),ih (k+1) (by omega)]
   exact this A 0 (by omega)
 · congr 1
   have:∀ (l:List (List Int)) (k:Nat),A.length<k->(l.zipIdx k).map (fun p=>if p.2=A.length then x else swr x p.1 w b)=l.map fun r=>swr x r w b:=by
    intro l;induction l with
    | nil=>intro k _;rfl
    | cons r l ih =>
     intro k hk;rw[Hw,Ai,Ai,if_neg (by show k≠_;omega),ih (k+1) (by omega)]
   exact this R _ (by omega)
theorem aNe (A B1:List (List Int))(x:List Int)(B2:List (List Int)):mvd (A++(B1++x :: B2)) A.length (A.length+B1.length)=A++x :: (B1++B2):=by
 have g:(A++(B1++x :: B2)).getD (A.length+B1.length) []=x:=by
  rw[Aa,Au (by omega),show A.length+B1.length-A.length=B1.length by omega,Au (Am _)]
  simp
 unfold mvd;rw[g,List.take_left]
 have t1:((A++(B1++x :: B2)).take (A.length+B1.length)).drop A.length=B1:=by
  rw[List.take_append,Ew (by omega),show A.length+B1.length-A.length=B1.length by omega,List.take_left,List.drop_left]
 have t2:(A++(B1++x :: B2)).drop (A.length+B1.length+1)=B2:=by
  rw[Hy,Ey (by omega),show A.length+B1.length+1-A.length=B1.length+1 by omega,Dq,Hy,Ey (by omega),show B1.length+1-B1.length=1 by omega]
  rfl
 rw[t1,t2];simp
theorem mN (s:Cs)(w:Nat)(A B:List (List Int))(ht:s.t=A++B)(hA:A.length=s.hs.length):((∀ r∈B,r.getD w 0=0)/\eR s w=s) \/
 ∃ B1 x B2,B=B1++x :: B2/\x.getD w 0≠0/\eR s w=⟨A.map (fun r=>swr x r w s.b)++x :: (B1++B2).map (fun r=>swr x r w s.b),s.hs++[w],x.getD w 0⟩:=by
 unfold eR;cases e:fnd s.t s.hs.length w with
 | nil =>
  refine .inl ⟨fun r hr=>?_,rfl⟩
  obtain⟨i,hi,rfl⟩:=Co.mp hr;by_cases z:B[i].getD w 0=0
  · exact z
  · exfalso
    have:A.length+i∈fnd s.t s.hs.length w:=by
     refine Ck.mpr ⟨Hj.mpr ⟨by omega,by rw[ht,Ak];omega⟩,?_⟩
     have q:s.t.getD (A.length+i) []=B[i]:=by
      rw[ht,Aa,Au (Ci _ _),Nat.add_sub_cancel_left,Ae hi];rfl
     rw[q];simpa using z
    rw[e]at this;cases this
 | cons p r =>
  obtain⟨h1,h2,h3⟩:=yA e;refine .inr ⟨B.take (p-A.length),s.t.getD p [],B.drop (p-A.length+1),?_,h3,?_⟩
  · have hl:p-A.length<B.length:=by rw[ht,Ak]at h2;omega
    have:s.t.getD p []=B[p-A.length]:=by
     rw[ht,Aa,Au (by omega),Ae hl];rfl
    rw[this,List.getElem_cons_drop,Ej]
  · have hl:p-A.length<B.length:=by rw[ht,Ak]at h2;omega
    have hx:s.t.getD p []=B[p-A.length]:=by
     rw[ht,Aa,Au (by omega),Ae hl];rfl
    have hB:B=B.take (p-A.length)++s.t.getD p [] :: B.drop (p-A.length+1):=by
     rw[hx,List.getElem_cons_drop,Ej]
    have lt:(B.take (p-A.length)).length=p-A.length:=by rw[Ax];omega
    have mv:mvd s.t s.hs.length p=A++s.t.getD p [] :: (B.take (p-A.length)++B.drop (p-A.length+1)):=by
     have:=aNe A (B.take (p-A.length)) (s.t.getD p []) (B.drop (p-A.length+1))
     rw[←hB,←ht,lt,hA,show s.hs.length+(p-s.hs.length)=p by omega]at this
     rw[←hA]at this ⊢;exact this
    show (⟨swp (mvd s.t s.hs.length p) s.hs.length w s.b,s.hs++[w],(s.t.getD p []).getD w 0⟩:Cs)=_
    rw[mv,←hA,aMj,Ca]
def tD (c L:Nat)(s:Cs):Prop:=∃ A B:List (List Int×Nat),s.t=A.map (·.1)++B.map (·.1)/\A.length=s.hs.length/\(∀ x∈A,∀ y∈B,x.1.getD (c+y.2) 0=0)/\B.Pairwise (fun x y=>x.1.getD (c+y.2) 0=0/\y.1.getD (c+x.2) 0=0)/\(∀ y∈B,y.1.getD (c+y.2) 0=s.b)/\s.b≠0
theorem iH (a b:Int)(h:b≠0):(a*b).fdiv b=a:=by
 rw[Int.fdiv_eq_ediv_of_dvd (Int.dvd_mul_left a b),Int.mul_ediv_cancel a h]
theorem tD.step {c L w:Nat}{s:Cs}(M:tD c L s)(hr:∀ r∈s.t,r.length=L):tD c L (eR s w):=by
 obtain⟨A,B,ht,hA,m1,m2,m3,b0⟩:=M;rcases mN s w (A.map (·.1)) (B.map (·.1)) ht (by rw[Ad];exact hA) with ⟨_,e⟩ | ⟨B1',x',B2',hB,h0,e⟩
 · rw[e];exact⟨A,B,ht,hA,m1,m2,m3,b0⟩
 · obtain⟨B1,B3,rfl,e1,e3⟩:=List.map_eq_append_iff.mp hB
   obtain⟨x,B2,rfl,ex,e2⟩:=List.map_eq_cons_iff.mp e3;subst e1;subst ex;subst e2;have lx:x.1.length=L:=hr _ (by rw[ht];simp)
   have lr:∀ y:List Int×Nat,y∈A\/y∈B1\/y∈B2->y.1.length=x.1.length:=fun y hy=>by
    rw[lx];refine hr _ ?_
    rw[ht,←Ca];refine Gu ?_
    simp only[Av,Aj];rcases hy with h | h | h
    · exact .inl h
    · exact .inr (.inl h)
    · exact .inr (.inr (.inr h))
   rw[Go,Eu]at m2;obtain⟨p1,⟨p2,p3⟩,p4⟩:=m2
   have xz:∀ y,y∈B1++B2->x.1.getD (c+y.2) 0=0:=fun y hy=>by
    rcases Av.mp hy with h | h
    · exact(p4 y h x Ab).2
    · exact(p2 y h).1
   have pw:(B1++B2).Pairwise (fun x y=>x.1.getD (c+y.2) 0=0/\y.1.getD (c+x.2) 0=0):=Go.mpr ⟨p1,p3,fun a ha b hb=>p4 a ha b (Ac _ hb)⟩;let sw:List Int×Nat->List Int×Nat:=fun r=>(swr x.1 r.1 w s.b,r.2)
   have sz:∀ r:List Int×Nat,r.1.length=x.1.length->∀ j:Nat,r.1.getD (c+j) 0=0->x.1.getD (c+j) 0=0->(sw r).1.getD (c+j) 0=0:=fun r l j q1 q2=>by
    show (swr x.1 r.1 w s.b).getD (c+j) 0=0
    rw[xP l,q1,q2];simp
   have mem12:∀ y,y∈B1++B2->y∈B1++x :: B2:=fun y hy=>by
    simp only[Av,Aj]at hy ⊢;rcases hy with h | h
    · exact .inl h
    · exact .inr (.inr h)
   rw[e];refine⟨A.map sw++[x],(B1++B2).map sw,?_,by rw[Ak,Ad,Ar];show A.length+1=(s.hs++[w]).length;rw[Ak,Ar,hA],fun a ha y hy=>?_,?_,fun y hy=>?_,h0⟩
   · simp[Bt,Function.comp_def,sw]
   · obtain⟨y,hy',rfl⟩:=Ah.mp hy
     rcases Av.mp ha with h | h
     · obtain⟨a,h',rfl⟩:=Ah.mp h
       exact sz a (lr a (.inl h')) y.2 (m1 a h' y (mem12 y hy')) (xz y hy')
     · rw[As.mp h];exact xz y hy'
   · rw[Cj]
     refine(Ii.mp pw).imp fun {y z} ⟨hy,hz,q1,q2⟩=>?_
     have ly:=lr y (.inr (Av.mp hy));have lz:=lr z (.inr (Av.mp hz));exact⟨sz y ly z.2 q1 (xz z hz),sz z lz y.2 q2 (xz y hy)⟩
   · obtain⟨y,hy',rfl⟩:=Ah.mp hy
     show (swr x.1 y.1 w s.b).getD (c+y.2) 0=x.1.getD w 0
     rw[xP (lr y (.inr (Av.mp hy'))),m3 y (mem12 y hy'),xz y hy',Eo,Int.sub_zero,iH _ _ b0]
theorem aNj {m L N:Nat}:∀ (j k:Nat) (s:Cs),Ok m L N k s->k+j<=L->Ok m L N (k+j) ((Bo k j).foldl eR s)
 | 0,_,_,o,_=>o
 | j+1,k,s,o,h=>by
  rw[Dj,Dd,show k+(j+1)=k+1+j by omega]
  exact aNj j (k+1) _ (o.step (by omega)) (by omega)
theorem rF {m L N c:Nat}:∀ (j k:Nat) (s:Cs),Ok m L N k s->k+j<=L->tD c L s->tD c L ((Bo k j).foldl eR s)
 | 0,_,_,_,_,M=>M
 | j+1,k,s,o,h,M=>by
  rw[Dj,Dd];exact rF j (k+1) _ (o.step (by omega)) (by omega) (M.step o.row)
end Hm
namespace Sm
open Srt
theorem oI (a b:Nat):sgn (a+b)=sgn a*sgn b:=by
 unfold sgn;have ha:a%2=0\/a%2=1:=by omega
 have hb:b%2=0\/b%2=1:=by omega
 rcases ha with ha | ha<;>rcases hb with hb | hb
 · rw[show ((a:Int)%2)=0 by omega,show ((b:Int)%2)=0 by omega,show (((a+b:Nat):Int)%2)=0 by omega];decide
 · rw[show ((a:Int)%2)=0 by omega,show ((b:Int)%2)=1 by omega,show (((a+b:Nat):Int)%2)=1 by omega];decide
 · rw[show ((a:Int)%2)=1 by omega,show ((b:Int)%2)=0 by omega,show (((a+b:Nat):Int)%2)=1 by omega];decide
 · rw[show ((a:Int)%2)=1 by omega,show ((b:Int)%2)=1 by omega,show (((a+b:Nat):Int)%2)=0 by omega];decide
theorem aPf (a:Nat):sgn a*sgn a=1:=by rcases aB2 a with h | h<;>rw[h]<;>rfl
def ovr (b:Int)(p:List Int):Nat:=(p.filter fun a=>decide (b<a)).length
def bX (p:List Int):List Int->Nat
 | []=>0
 | b :: q=>ovr b p+bX p q
theorem aE5 (b:Int)(p q:List Int):ovr b (p++q)=ovr b p+ovr b q:=by
 unfold ovr;rw[List.filter_append,Ak]
theorem aIe {b:Int}{p q:List Int}(h:p.Perm q):ovr b p=ovr b q:=(h.filter _).length_eq
theorem zX (p q r:List Int):bX p (q++r)=bX p q+bX p r:=by
 induction q with
 | nil=>simp[bX]
 | cons b q ih=>simp only[Dt,bX,ih];omega
theorem aBc (p q r:List Int):bX (p++q) r=bX p r+bX q r:=by
 induction r with
 | nil=>rfl
 | cons b r ih=>simp only[bX,ih,aE5];omega
theorem oS {p p':List Int}(h:p.Perm p'):∀ q,bX p q=bX p' q
 | []=>rfl
 | b :: q=>by simp only[bX,aIe h,oS h q]
theorem xW {q q':List Int}(h:q.Perm q')(p:List Int):bX p q=bX p q':=by
 induction h with
 | nil=>rfl
 | cons x _ ih=>simp only[bX,ih]
 | swap x y l=>simp only[bX];omega
 | trans _ _ i1 i2=>exact i1.trans i2
theorem zN (p q:List Int):∀ j,j<=p.length->gW (p++q) j=gW p j
 | 0,_=>rfl
 | j+1,h=>by
  show gW (p++q) j+_=gW p j+_
  rw[zN p q j (by omega),Gp (by omega)]
  have e:(p++q).getD j 0=p.getD j 0:=by
   rw[Aa,Aa,Bm (by omega)]
  rw[e]
theorem oY (p:List Int)(x:Int):inv (p++[x])=inv p+ovr x p:=by
 unfold inv;rw[Ak,Ar];show gW (p++[x]) p.length+_=_
 rw[zN p [x] p.length (Am _),Gp (Am _),List.take_length]
 have e:(p++[x]).getD p.length 0=x:=by
  rw[Aa,Au (Am _)];simp
 rw[e];rfl
theorem qV (p q:List Int):inv (p++q)=inv p+inv q+bX p q:=by
 have go:∀ n,∀ q:List Int,q.length=n->inv (p++q)=inv p+inv q+bX p q:=by
  intro n;induction n with
  | zero=>intro q h;rw[Cp.mp h,De];rfl
  | succ n ih =>
   intro q h;have hq:q≠[]:=fun z=>by rw[z]at h;simp at h
   rw[←Cm hq];generalize q.getLast hq=x
   have hl:q.dropLast.length=n:=by rw[Dm];omega
   generalize q.dropLast=q' at hl
   rw[←Bn,oY,oY,ih q' hl,aE5,zX];show _=_+(_+_)+(_+(ovr x p+bX p []))
   show _=_+(_+_)+(_+(ovr x p+0))
   omega
 exact go q.length q rfl
def xs (p q:List Int):Int:=if ∀ x∈p,x∉q then sgn (bX p q) else 0
theorem aK1 {p p' q q':List Int}(h1:p.Perm p')(h2:q.Perm q'):xs p q=xs p' q':=by
 unfold xs;rw[oS h1 q,xW h2 p']
 have e:(∀ x∈p,x∉q)↔∀ x∈p',x∉q':=by
  constructor
  · intro h x hx hq;exact h x (h1.mem_iff.mpr hx) (h2.mem_iff.mpr hq)
  · intro h x hx hq;exact h x (h1.mem_iff.mp hx) (h2.mem_iff.mp hq)
 by_cases z:∀ x∈p,x∉q
 · rw[if_pos z,if_pos (e.mp z)]
 · rw[if_neg z,if_neg fun w=>z (e.mpr w)]
theorem aI3 {p q:List Int}:(p++q).Nodup↔p.Nodup/\q.Nodup/\∀ x∈p,x∉q:=by
 rw[Ff];constructor
 · exact fun⟨a,b,c⟩=>⟨a,b,fun x hx hq=>c x hx x hq rfl⟩
 · exact fun⟨a,b,c⟩=>⟨a,b,fun x hx y hy e=>c x hx (e▸hy)⟩
theorem aN7 (p q:List Int):trn (p++q)=trn p*trn q*xs p q:=by
 unfold trn xs;by_cases h:(p++q).Nodup
 · obtain⟨h1,h2,h3⟩:=aI3.mp h
   rw[if_pos h,if_pos h1,if_pos h2,if_pos h3,qV,oI,oI]
 · rw[if_neg h]
   by_cases h1:p.Nodup
   · by_cases h2:q.Nodup
     · by_cases h3:∀ x∈p,x∉q
       · exact absurd (aI3.mpr ⟨h1,h2,h3⟩) h
       · rw[if_neg h3,Eo]
     · rw[if_neg h2,Eo,Dx]
   · rw[if_neg h1,Dx,Dx]
theorem aG6 (s t:Tm):val (s.1++t.1,s.2*t.2)=val s*val t*xs (key s) (key t):=by
 rw[mV,mV,mV,aK1 (iV s) (iV t)];show trn (s.1++t.1)*(s.2*t.2)=_
 rw[aN7];simp only[Bi,Ho,Bg]
theorem hE {p q:List Int}(h:p.Perm q):srt ix p=srt ix q:=jI iK ((dZ p).trans h) (lD iK p)
theorem aIv (s t:Tm)(n:Int):key (s.1++t.1,n)=srt ix (key s++key t):=hE ((iV s).symm.append (iV t).symm)
def lin (ts:List Tm)(g:List Int->Int):Int:=match ts with
 | []=>0
 | t :: ts=>val t*g (key t)+lin ts g
def eT (A:List Tm)(g:List Int->Int):Int:=match A with
 | []=>0
 | p :: A=>p.2*g p.1+eT A g
theorem aLp (a b:List Tm)(g:List Int->Int):lin (a++b) g=lin a g+lin b g:=by
 induction a with
 | nil=>simp[lin]
 | cons t a ih=>simp only[Dt,lin,ih];omega
theorem aG2 (a b:List Tm)(g:List Int->Int):eT (a++b) g=eT a g+eT b g:=by
 induction a with
 | nil=>simp[eT]
 | cons t a ih=>simp only[Dt,eT,ih];omega
theorem aGb {a b:List Tm}(h:a.Perm b)(g:List Int->Int):eT a g=eT b g:=by
 induction h with
 | nil=>rfl
 | cons x _ ih=>simp only[eT,ih]
 | swap x y l=>simp only[eT];omega
 | trans _ _ i1 i2=>exact i1.trans i2
theorem aFv (A:List Tm)(g:List Int->Int):eT (A.filter fun p=>p.2 != 0) g=eT A g:=by
 induction A with
 | nil=>rfl
 | cons p A ih =>
  by_cases z:p.2=0
  · rw[Bx (by simp[z]),ih];simp[eT,z]
  · rw[Bv (by simp[z])];simp only[eT,ih]
theorem aJ4 {g:List Int->Int}:∀ (A:List Tm) (k:List Int) (v:Int),(A.map (·.1)).Nodup->eT (put A k (look A k+v)) g=eT A g+v*g k:=by
 intro A k v nd;unfold put;by_cases m:k∈A.map (·.1)
 · rw[if_pos m]
   generalize hw:look A k+v=w
   have hv:v=w-look A k:=by omega
   subst hv;clear hw
   induction A with
   | nil=>cases m
   | cons p A ih =>
    obtain⟨n1,n2⟩:=Br.mp (show (p.1 :: A.map (·.1)).Nodup from nd)
    by_cases z:p.1=k
    · have nk:k∉A.map (·.1):=fun q=>n1 (z▸q)
      have e:A.map (fun p=>if p.1=k then (p.1,w) else p)=A:=by
       have:∀ p∈A,(if p.1=k then (p.1,w) else p)=p:=fun q hq=>if_neg fun (h:q.1=k)=>nk (by rw[←h];exact Gu hq)
       exact(Cg this).trans (List.map_id' _)
      rw[Ai,if_pos z,e];simp only[eT,look,if_pos z,Fg];rw[z];omega
    · have mk:k∈A.map (·.1):=(Aj.mp m).elim (fun h=>absurd h.symm z) id
      simp only[Ai,if_neg z,eT,look,ih n2 mk];omega
 · rw[if_neg m,aG2,jE m]
   simp[eT]
theorem aAp {g:List Int->Int}:∀ (ts A:List Tm),(A.map (·.1)).Nodup->eT (acc A ts) g=eT A g+lin ts g
 | [],A,_=>by simp[acc,lin]
 | t :: ts,A,h=>by
  show eT (acc (step A t) ts) g=_
  rw[aAp ts (step A t) (vB h)];unfold step;rw[aJ4 A (key t) (val t) h];simp only[lin];omega
theorem vJ (ts:List Tm)(g:List Int->Int):eT (cD ts) g=lin ts g:=by
 unfold cD aG4;rw[aGb (dZ _) g,aFv,aAp ts [] Dh];simp[eT]
def ind (k:List Int):List Int->Int:=fun l=>if l=k then 1 else 0
def kN (ts:List Tm)(k:List Int):Int:=lin ts (ind k)
theorem aJx {A:List Tm}(h:(A.map (·.1)).Nodup)(k:List Int):look A k=eT A (ind k):=by
 induction A with
 | nil=>rfl
 | cons p A ih =>
  obtain⟨n1,n2⟩:=Br.mp (show (p.1 :: A.map (·.1)).Nodup from h)
  by_cases z:p.1=k
  · have:eT A (ind k)=0:=by rw[←ih n2,jE fun q=>n1 (z▸q)]
    simp[look,eT,ind,z,this]
  · simp[look,eT,ind,z,ih n2]
theorem iZ (ts:List Tm):((cD ts).map (·.1)).Nodup:=by
 have n1:=pJ ts [] Dh;unfold cD aG4;have pm:=(dZ (r:=px) ((acc [] ts).filter fun p=>p.2 != 0)).map (·.1);rw[pm.nodup_iff];exact List.Nodup.sublist ((List.filter_sublist).map _) n1
theorem aMu {A:List Tm}{k:List Int}(h:k∈A.map (·.1)):(k,look A k)∈A:=by
 induction A with
 | nil=>cases h
 | cons p A ih =>
  by_cases z:p.1=k
  · simp only[look,if_pos z];exact Aj.mpr (.inl (by rw[←z]))
  · simp only[look,if_neg z]
    exact Ac _ (ih ((Aj.mp h).elim (fun q=>absurd q.symm z) id))
theorem iL (ts:List Tm)(p:Tm):p∈cD ts↔p.2=kN ts p.1/\p.2≠0:=by
 have lk:look (cD ts) p.1=kN ts p.1:=by rw[aJx (iZ ts),vJ];rfl
 constructor
 · intro h
   exact⟨by rw[←lk,zJ (iZ ts) h],(sO h).2⟩
 · intro ⟨h1,h2⟩
   have m:p.1∈(cD ts).map (·.1):=by
    by_cases q:p.1∈(cD ts).map (·.1)
    · exact q
    · exact absurd (h1.trans (lk.symm.trans (jE q))) h2
   have:=aMu m
   rw[lk,←h1]at this;exact this
theorem jM {α:Type}[BEq α][LawfulBEq α]{l m:List α}(h1:l.Nodup)(h2:m.Nodup)(h:∀ x,x∈l↔x∈m):l.Perm m:=by
 rw[List.perm_iff_count];intro x;by_cases z:x∈l
 · have a:=Fk.mp h1 x
   have b:=Fk.mp h2 x;have c:=List.count_pos_iff.mpr z;have d:=List.count_pos_iff.mpr ((h x).mp z);omega
 · rw[Eb z,Eb fun q=>z ((h x).mpr q)]
theorem mF {A:List Tm}(h:(A.map (·.1)).Nodup):A.Nodup:=by
 have:=Cj.mp (show List.Pairwise (fun a b=>a≠b) (A.map (·.1)) from h)
 exact Ga (fun {a b} (h:a.1≠b.1) (e:a=b)=>h (by rw[e])) this
theorem aH9 {a b:List Tm}(h:∀ k,kN a k=kN b k):cD a=cD b:=by
 have pm:(cD a).Perm (cD b):=jM (mF (iZ a)) (mF (iZ b)) fun p=>by rw[iL,iL,h]
 have:=jI kX pm (show (cD a).Pairwise fun x y=>px y x=false from lD kX _)
 rw[this];exact(jI kX (Dy _) (show (cD b).Pairwise fun x y=>px y x=false from lD kX _)).symm
theorem oQ {a b:List Tm}(h:∀ g,lin a g=lin b g):cD a=cD b:=aH9 fun k=>h (ind k)
theorem zZ {t:Tm}(h:¬ t.1.Nodup):val t=0:=by unfold val;rw[if_neg h]
theorem rW {ts:List Tm}{k:List Int}(h:kN ts k≠0):∃ t∈ts,key t=k/\t.1.Nodup:=by
 induction ts with
 | nil=>exact absurd rfl h
 | cons t ts ih =>
  by_cases z:key t=k/\t.1.Nodup
  · exact⟨t,Ab,z⟩
  · have e:val t*ind k (key t)=0:=by
     by_cases q:key t=k
     · rw[zZ fun n=>z ⟨q,n⟩,Dx]
     · unfold ind;rw[if_neg q,Eo]
    have:kN ts k≠0:=fun q=>h (by show val t*ind k (key t)+lin ts (ind k)=0;rw[e];unfold kN at q;rw[q];rfl)
    obtain⟨u,hu,q⟩:=ih this;exact⟨u,Ac _ hu,q⟩
theorem nM (ts:List Tm):Told (cD ts):=by
 have of:∀ p∈cD ts,∃ t∈ts,key t=p.1/\t.1.Nodup:=fun p hp=>by
  obtain⟨h1,h2⟩:=(iL ts p).mp hp;exact rW (h1▸h2)
 refine⟨fun p hp=>?_,fun p hp=>?_,iZ ts,fun p hp=>(sO hp).2,lD kX _⟩
 · obtain⟨t,_,e,_⟩:=of p hp
   rw[←e];exact lD iK _
 · obtain⟨t,_,e,n⟩:=of p hp
   rw[←e];exact(iV t).nodup_iff.mpr n
theorem Told.lin {S:List Tm}(h:Told S)(g:List Int->Int):lin S g=eT S g:=by
 have go:∀ T:List Tm,(∀ t∈T,t∈S)->Sm.lin T g=eT T g:=by
  intro T;induction T with
  | nil=>intro _;rfl
  | cons t T ih =>
   intro hs;simp only[Sm.lin,eT,h.val (hs t Ab),h.key (hs t Ab),ih fun u hu=>hs u (Ac _ hu)]
 exact go S fun _ z=>z
theorem zS (ts:List Tm)(g:List Int->Int):lin (cD ts) g=lin ts g:=by rw[(nM ts).lin g,vJ]
theorem aLv (s:Tm)(b:List Tm)(g:List Int->Int):lin (b.map fun t=>(s.1++t.1,s.2*t.2)) g=val s*lin b (fun l=>xs (key s) l*g (srt ix (key s++l))):=by
 induction b with
 | nil=>simp[lin]
 | cons t b ih =>
  simp only[Ai,lin,ih];rw[aG6,aIv,Ik];simp only[Bi]
theorem eC (a b:List Tm)(g:List Int->Int):lin (aY a b) g=lin a fun k=>lin b fun l=>xs k l*g (srt ix (k++l)):=by
 induction a with
 | nil=>rfl
 | cons s a ih =>
  show lin ((b.map fun t=>(s.1++t.1,s.2*t.2))++aY a b) g=_
  rw[aLp,aLv,ih];rfl
theorem aIk (a b:List Tm):cD (aY (cD a) b)=cD (aY a b):=oQ fun g=>by rw[eC,eC,zS]
theorem xV (a b:List Tm):cD (aY a (cD b))=cD (aY a b):=oQ fun g=>by
 rw[eC,eC];congr 1
 funext k
 rw[zS]
end Sm
namespace Sm
open Srt
theorem lT {a:List Tm}{f h:List Int->Int}(e:∀ t∈a,f (key t)=h (key t)):lin a f=lin a h:=by
 induction a with
 | nil=>rfl
 | cons t a ih=>simp only[lin,e t Ab,ih fun u hu=>e u (Ac _ hu)]
theorem aMl (a:List Tm)(f h:List Int->Int):lin a (fun k=>f k+h k)=lin a f+lin a h:=by
 induction a with
 | nil=>rfl
 | cons t a ih=>simp only[lin,ih,Ik];omega
theorem rA (a:List Tm)(f:List Int->Int)(c:Int):lin a (fun k=>f k*c)=lin a f*c:=by
 induction a with
 | nil=>simp[lin]
 | cons t a ih=>simp only[lin,ih,Hg,Bi]
theorem aKe (a:List Tm):lin a (fun _=>0)=0:=by
 induction a with
 | nil=>rfl
 | cons t a ih=>simp only[lin,ih,Eo];rfl
theorem aA5 (a b:List Tm)(F:List Int->List Int->Int):lin a (fun k=>lin b fun l=>F k l)=lin b fun l=>lin a fun k=>F k l:=by
 induction a with
 | nil=>simp only[lin];exact(aKe b).symm
 | cons t a ih =>
  have e:lin b (fun l=>lin (t :: a) fun k=>F k l)=lin b (fun l=>F (key t) l*val t)+lin b fun l=>lin a fun k=>F k l:=by
   rw[←aMl];exact lT fun u _=>by simp only[lin];rw[Bg (val t)]
  rw[e,rA,←ih];simp only[lin];rw[Bg (val t)]
theorem jH (a b c:List Tm):aY (aY a b) c=aY a (aY b c):=by
 unfold aY;rw[List.flatMap_assoc];congr 1
 funext s
 rw[List.flatMap_map,List.map_flatMap];congr 1
 funext t
 rw[Bt];apply Cg
 intro u _;simp only[Function.comp,Bn,Bi]
def und (b:Int)(p:List Int):Nat:=(p.filter fun a=>decide (a<b)).length
theorem aLc {b:Int}{p:List Int}(h:b∉p):ovr b p+und b p=p.length:=by
 unfold ovr und;induction p with
 | nil=>rfl
 | cons a p ih =>
  have h1:b≠a:=fun z=>h (by rw[z];exact Ab)
  have h2:=ih fun z=>h (Ac _ z);by_cases z:b<a
  · rw[Bv (by simpa using z),Bx (by simpa using (by omega:¬ a<b)),Al,Al];omega
  · rw[Bx (by simpa using z),Bv (by simpa using (by omega:a<b)),Al,Al];omega
theorem jJ (b:Int)(q p:List Int):bX (b :: q) p=und b p+bX q p:=by
 induction p with
 | nil=>rfl
 | cons x p ih =>
  simp only[bX,ih,und];unfold ovr;by_cases z:x<b
  · rw[Bv (by simpa using z),Bv (by simpa using z),Al,Al];omega
  · rw[Bx (by simpa using z),Bx (by simpa using z)];omega
theorem sP {p:List Int}:∀ {q:List Int},(∀ x∈p,x∉q)->bX p q+bX q p=p.length*q.length
 | [],_=>by
  have:∀ p:List Int,bX [] p=0:=fun p=>by induction p with
   | nil=>rfl
   | cons a p ih=>simp only[bX,ih];rfl
  rw[this];rfl
 | b :: q,h=>by
  have h1:b∉p:=fun z=>h b z Ab;have ih:=sP (p:=p) (q:=q) fun x hx hq=>h x hx (Ac _ hq);have h2:=aLc h1;rw[jJ];simp only[bX,Al,Nat.mul_succ];omega
theorem aN0 (p q:List Int):xs p q=sgn (p.length*q.length)*xs q p:=by
 unfold xs;by_cases h:∀ x∈p,x∉q
 · have h':∀ x∈q,x∉p:=fun x hx hp=>h x hp hx
   rw[if_pos h,if_pos h',←sP h,oI,Bi,aPf,Gm]
 · have h':¬ ∀ x∈q,x∉p:=fun z=>h fun x hx hq=>z x hq hx
   rw[if_neg h,if_neg h',Eo]
def Deg (L:Nat)(a:List Tm):Prop:=∀ t∈a,t.1.length=L
theorem aBb {L K:Nat}{a b:List Tm}(ha:Deg L a)(hb:Deg K b)(g:List Int->Int):lin (aY a b) g=lin (aY b a) g*sgn (L*K):=by
 rw[eC,eC,aA5,←rA];refine lT fun t ht=>?_
 rw[←rA];refine lT fun s hs=>?_
 rw[aN0 (key s) (key t),yM,yM,ha s hs,hb t ht,hE (Gd:(key s++key t).Perm (key t++key s))];rw[Bg (sgn (L*K)),Bi,Bi,Bg (sgn (L*K))]
theorem aMz {a c b:List Tm}(g:List Int->Int):∃ h:List Int->Int,∀ x:List Tm,lin (aY (aY a x) c) g=lin x h:=by
 refine⟨fun l=>lin a fun k=>xs k l*(lin c fun m=>xs (srt ix (k++l)) m*g (srt ix (srt ix (k++l)++m))),fun x=>?_⟩
 rw[eC,eC,aA5]
def nI (i:Nat):List Int->List Tm
 | []=>[]
 | v :: r=>([(i:Int)],v) :: nI (i+1) r
def dG (r:List Int):List Tm:=nI 0 r
theorem qF:∀ (r:List Int) (i:Nat),Deg 1 (nI i r)
 | [],_,t,h=>by cases h
 | v :: r,i,t,h=>by
  rcases Aj.mp h with e | e
  · rw[e];rfl
  · exact qF r (i+1) t e
theorem oJ (r:List Int):Deg 1 (dG r):=qF r 0
def raw (rows:List (List Int)):List Tm:=rows.foldl (fun a r=>aY a (dG r)) [([],1)]
theorem fZ (rows:List (List Int))(r:List Int):raw (rows++[r])=aY (raw rows) (dG r):=by
 unfold raw;rw[Hl];rfl
theorem lX (x y:List (List Int)):raw (x++y)=aY (raw x) (raw y):=by
 have go:∀ n,∀ y:List (List Int),y.length=n->raw (x++y)=aY (raw x) (raw y):=by
  intro n;induction n with
  | zero=>intro y h;rw[Cp.mp h,De];exact(aAd _).symm
  | succ n ih =>
   intro y h;have hy:y≠[]:=fun z=>by rw[z]at h;simp at h
   rw[←Cm hy];have hl:y.dropLast.length=n:=by rw[Dm];omega
   rw[←Bn,fZ,fZ,ih _ hl,jH]
 exact go y.length y rfl
theorem xT (r:List Int):raw [r]=dG r:=zK _
theorem aLz:∀ n,∀ rows:List (List Int),rows.length=n->Deg n (raw rows):=by
 intro n;induction n with
 | zero=>intro y h;rw[Cp.mp h];intro t ht;rw[As.mp (show t∈[([],1)] from ht)];rfl
 | succ n ih =>
  intro y h;have hy:y≠[]:=fun z=>by rw[z]at h;simp at h
  rw[←Cm hy,fZ];have hl:y.dropLast.length=n:=by rw[Dm];omega
  intro t ht;obtain⟨s,hs,ht⟩:=Ds.mp ht;obtain⟨u,hu,e⟩:=Ah.mp ht;rw[←e];show (s.1++u.1).length=_
  rw[Ak,ih _ hl s hs,oJ _ u hu]
theorem aDr (x z:List (List Int))(r s:List Int)(g:List Int->Int):lin (raw (x++r :: s :: z)) g=lin (raw (x++s :: r :: z)) g*(-1):=by
 have go:∀ r s:List Int,raw (x++r :: s :: z)=aY (aY (raw x) (aY (dG r) (dG s))) (raw z):=fun r s=>by
  rw[show x++r :: s :: z=((x++[r])++[s])++z by simp,lX,fZ,fZ,jH (raw x)]
 obtain⟨h,e⟩:=aMz (a:=raw x) (c:=raw z) (b:=[]) g;rw[go,go,e,e,aBb (oJ r) (oJ s)];rfl
theorem pP (x z:List (List Int))(r:List Int)(g:List Int->Int):∀ y:List (List Int),lin (raw (x++r :: (y++r :: z))) g=0
 | []=>by
  have h:=aDr x z r r g;rw[Dq];omega
 | s :: y=>by
  rw[Dt,aDr];have:=pP (x++[s]) z r g y
  rw[show x++s :: r :: (y++r :: z)=(x++[s])++r :: (y++r :: z) by simp,this,Dx]
def box (rows:List (List Int)):List Tm:=cD (raw rows)
theorem aFa:box []=[([],1)]:=by
 have t:Told [([],1)]:=by
  refine⟨?_,?_,by simp,?_,by simp⟩<;>intro t ht<;>rw[As.mp ht]
  · exact Do
  · exact Dh
  · decide
 exact t.same
theorem aHf (rows:List (List Int))(r:List Int):cD (aY (box rows) (cD (dG r)))=box (rows++[r]):=by
 unfold box;rw[xV,aIk,fZ]
end Sm
namespace Sm
open Srt
def bL (m:Nat):List Int:=(Af m).map fun (i:Nat)=>(i:Int)
def qR (m:Nat):Nat->List (List Int)
 | 0=>[[]]
 | r+1=>(qR m r).flatMap fun w=>(bL m).map fun i=>w++[i]
def prd:List (List Int)->List Int->Int
 | r :: rs,x :: w=>r.getD x.toNat 0*prd rs w
 | _,_=>1
theorem rP:∀ (rows:List (List Int)) (w:List Int) (r:List Int) (x:Int),rows.length=w.length->prd (rows++[r]) (w++[x])=prd rows w*r.getD x.toNat 0
 | [],[],r,x,_=>by simp[prd]
 | a :: rows,y :: w,r,x,h=>by
  simp only[Dt,prd,rP rows w r x (by simpa using h),Bi]
theorem tL {m:Nat}:∀ {r:Nat} {w:List Int},w∈qR m r->w.length=r
 | 0,w,h=>by rw[As.mp h];rfl
 | r+1,w,h=>by
  obtain⟨v,hv,h⟩:=Ds.mp h;obtain⟨i,_,e⟩:=Ah.mp h;rw[←e,Ak,tL hv];rfl
theorem tW:∀ (r:List Int) (i:Nat),nI i r=(Af r.length).map fun (j:Nat)=>([((i+j:Nat):Int)],r.getD j 0)
 | [],i=>rfl
 | v :: r,i=>by
  rw[Al,List.range_succ_eq_map,Ai,Bt];show ([(i:Int)],v) :: nI (i+1) r=_
  rw[tW r (i+1)];congr 1
  apply Cg
  intro j _;simp only[Function.comp];rw[show i+1+j=i+(j+1) by omega]
  simp
theorem jD (r:List Int):dG r=(bL r.length).map fun x=>([x],r.getD x.toNat 0):=by
 unfold dG bL;rw[tW,Bt];apply Cg
 intro j _;simp
theorem aCf {m:Nat}:∀ n,∀ rows:List (List Int),rows.length=n->(∀ r∈rows,r.length=m)->raw rows=(qR m n).map fun w=>(w,prd rows w):=by
 intro n;induction n with
 | zero=>intro rows h _;rw[Cp.mp h];rfl
 | succ n ih =>
  intro rows h hm;have hy:rows≠[]:=fun z=>by rw[z]at h;simp at h
  have hc:=Cm hy;have hl:rows.dropLast.length=n:=by rw[Dm];omega
  have h1:∀ r∈rows.dropLast,r.length=m:=fun r hr=>hm r (Fl _ hr);have h2:(rows.getLast hy).length=m:=hm _ (Gi hy);rw[←hc];generalize rows.dropLast=rs at *
  generalize rows.getLast hy=r at *
  rw[fZ,ih rs hl h1,jD,h2];unfold aY;rw[List.flatMap_map];show _=List.map _ ((qR m n).flatMap _)
  rw[List.map_flatMap,List.flatMap_def,List.flatMap_def];congr 1
  apply Cg
  intro w hw;rw[Bt,Bt];apply Cg
  intro x _;simp only[Function.comp];rw[rP rs w r x (by rw[hl,tL hw])]
def cY {α:Type}(l:List α)(f:α->Int):Int:=match l with
 | []=>0
 | x :: l=>f x+cY l f
theorem vX {α:Type}{l m:List α}(h:l.Perm m)(f:α->Int):cY l f=cY m f:=by
 induction h with
 | nil=>rfl
 | cons x _ ih=>simp only[cY,ih]
 | swap x y l=>simp only[cY];omega
 | trans _ _ i1 i2=>exact i1.trans i2
theorem lH {α β:Type}(g:α->β)(l:List α)(f:β->Int):cY (l.map g) f=cY l fun x=>f (g x):=by
 induction l with
 | nil=>rfl
 | cons x l ih=>simp only[Ai,cY,ih]
theorem cT {α:Type}{l:List α}{f g:α->Int}(h:∀ x∈l,f x=g x):cY l f=cY l g:=by
 induction l with
 | nil=>rfl
 | cons x l ih=>simp only[cY,h x Ab,ih fun y hy=>h y (Ac _ hy)]
theorem aGq {α:Type}(c:α->Bool)(l:List α)(f:α->Int):cY (l.filter c) f=cY l fun x=>if c x then f x else 0:=by
 induction l with
 | nil=>rfl
 | cons x l ih =>
  cases z:c x with
  | true=>rw[Bv z];simp only[cY,ih,z,if_true]
  | false=>rw[Bx (by simp[z])];simp[cY,ih,z]
theorem zC (ts:List Tm)(g:List Int->Int):lin ts g=cY ts fun t=>val t*g (key t):=by
 induction ts with
 | nil=>rfl
 | cons t ts ih=>simp only[lin,cY,ih]
theorem kR {m:Nat}:∀ {r:Nat} {w:List Int},w∈qR m r↔w.length=r/\∀ x∈w,0<=x/\x<m
 | 0,w=>by
  constructor
  · intro h;rw[As.mp h];exact⟨rfl,fun x hx=>by cases hx⟩
  · intro h;rw[Cp.mp h.1];exact As.mpr rfl
 | r+1,w=>by
  have mr:∀ x:Int,x∈bL m↔0<=x/\x<m:=fun x=>by
   constructor
   · intro h;obtain⟨i,hi,rfl⟩:=Ah.mp h;have:=Bp.mp hi;omega
   · intro h;exact Ah.mpr ⟨x.toNat,Bp.mpr (by omega),by omega⟩
  constructor
  · intro h
    obtain⟨v,hv,h⟩:=Ds.mp h;obtain⟨i,hi,e⟩:=Ah.mp h;obtain⟨h1,h2⟩:=kR.mp hv;rw[←e];refine⟨by rw[Ak,h1];rfl,fun x hx=>?_⟩
    rcases Av.mp hx with q | q
    · exact h2 x q
    · rw[As.mp q];exact(mr i).mp hi
  · intro ⟨h1,h2⟩
    have hw:w≠[]:=fun z=>by rw[z]at h1;simp at h1
    have hc:=Cm hw;refine Ds.mpr ⟨w.dropLast,kR.mpr ⟨by rw[Dm];omega,fun x hx=>h2 x (Fl _ hx)⟩,Ah.mpr ⟨w.getLast hw,(mr _).mpr (h2 _ (Gi hw)),hc⟩⟩
theorem jV (m:Nat):(bL m).Nodup:=by
 show List.Pairwise (fun a b=>a≠b) (List.map _ _)
 rw[Cj];exact Ga (fun {a b} h e=>h (by omega)) (show List.Pairwise (fun a b=>a≠b) (Af m) from List.nodup_range)
theorem rH (m:Nat):∀ r,(qR m r).Nodup
 | 0=>by simp[qR]
 | r+1=>by
  show List.Pairwise (fun a b=>a≠b) _
  unfold qR;rw[List.pairwise_flatMap];refine⟨fun w _=>?_,?_⟩
  · rw[Cj]
    exact Ga (fun {a b} h e=>h (by simpa using e)) (show List.Pairwise (fun a b=>a≠b) (bL m) from jV m)
  · refine Ga (fun {v w} h x hx y hy e=>?_) (show List.Pairwise (fun a b=>a≠b) (qR m r) from rH m r)
    obtain⟨i,_,rfl⟩:=Ah.mp hx;obtain⟨j,_,rfl⟩:=Ah.mp hy;exact h (List.append_inj_left' e rfl)
theorem oP {p q:List Int}(up:q.Pairwise fun a b=>ix b a=false):srt ix p=q↔p.Perm q:=by
 constructor
 · intro h;rw[←h];exact(dZ p).symm
 · intro h
   rw[hE h];exact(jI iK (Dy _) up).symm
def gC:Nat->List Tm
 | 0=>[([],1)]
 | n+1=>(gC n).flatMap fun o=>(Af (o.1.length+1)).map fun (k:Nat)=>(o.1.take k++[(n:Int)]++o.1.drop k,o.2*sgn (o.1.length-k))
theorem aMk (a b:List Int)(x:Int)(ha:∀ y∈a,y<x)(hb:∀ y∈b,y<x):inv (a++[x]++b)=inv (a++b)+b.length:=by
 rw[qV,qV,qV];have h1:inv [x]=0:=by unfold inv;simp[gW]
 have h2:bX a [x]=0:=by
  show ovr x a+0=0
  unfold ovr;rw[List.filter_eq_nil_iff.mpr fun y hy=>by have:=ha y hy;simp;omega];rfl
 have h3:bX (a++[x]) b=bX a b+b.length:=by
  rw[aBc];congr 1
  rw[jJ]
  have:bX [] b=0:=by
   clear ha hb h1 h2
   induction b with
   | nil=>rfl
   | cons y b ih=>simp only[bX,ih];rfl
  rw[this];unfold und;rw[List.filter_eq_self.mpr fun y hy=>by have:=hb y hy;simp;omega]
  rfl
 omega
theorem fD:∀ {n:Nat} {o:Tm},o∈gC n->o.1.Perm (bL n)/\o.2=sgn (inv o.1)
 | 0,o,h=>by rw[As.mp h];exact⟨Dy _,rfl⟩
 | n+1,o,h=>by
  obtain⟨q,hq,h⟩:=Ds.mp h;obtain⟨k,hk,e⟩:=Ah.mp h;have hk:=Bp.mp hk;obtain⟨h1,h2⟩:=fD hq
  have mem:∀ y∈q.1,y<(n:Int):=fun y hy=>by
   obtain⟨i,hi,rfl⟩:=Ah.mp (h1.mem_iff.mp hy);have:=Bp.mp hi;omega
  rw[←e];constructor
  · show (q.1.take k++[(n:Int)]++q.1.drop k).Perm (bL (n+1))
    have p1:(q.1.take k++[(n:Int)]++q.1.drop k).Perm (q.1++[(n:Int)]):=by
     rw[Bn];refine(List.Perm.append_left _ Gd).trans ?_
     rw[←Bn,Ej]
    have e2:bL (n+1)=bL n++[(n:Int)]:=by unfold bL;rw[Ez,Ca];rfl
    rw[e2];exact p1.trans (h1.append_right _)
  · show q.2*sgn (q.1.length-k)=sgn (inv (q.1.take k++[(n:Int)]++q.1.drop k))
    rw[aMk _ _ _ (fun y hy=>mem y (Dz hy)) (fun y hy=>mem y (Ce hy)),Ej,oI,h2,By]
theorem aAh:∀ {n:Nat} {p:List Int},p.Perm (bL n)->∃ o∈gC n,o.1=p
 | 0,p,h=>⟨([],1),As.mpr rfl,(List.Perm.eq_nil h).symm⟩
 | n+1,p,h=>by
  have e2:bL (n+1)=bL n++[(n:Int)]:=by unfold bL;rw[Ez,Ca];rfl
  rw[e2]at h;have mn:(n:Int)∈p:=h.mem_iff.mpr (Az _ (As.mpr rfl));obtain⟨a,b,rfl⟩:=List.append_of_mem mn
  have h':(a++b).Perm (bL n):=by
   have p1:(a++(n:Int) :: b).Perm ((n:Int) :: (a++b)):=List.perm_middle;have p2:(bL n++[(n:Int)]).Perm ((n:Int) :: bL n):=Gd;exact List.Perm.cons_inv (p1.symm.trans (h.trans p2))
  obtain⟨o,ho,eo⟩:=aAh h';have hl:a.length<=o.1.length:=by rw[eo,Ak];omega
  refine⟨_,Ds.mpr ⟨o,ho,Ah.mpr ⟨a.length,Bp.mpr (by omega),rfl⟩⟩,?_⟩
  show o.1.take a.length++[(n:Int)]++o.1.drop a.length=_
  rw[eo];simp
theorem xS {x:Int}:∀ {p q:List Int} {j k:Nat},x∉p->x∉q->j<=p.length->k<=q.length->p.take j++[x]++p.drop j=q.take k++[x]++q.drop k->p=q/\j=k
 | p,q,0,0,_,_,_,_,e=>⟨by simpa using e,rfl⟩
 | p,[],j,k+1,_,_,_,h,e=>by simp at h
 | [],q,j+1,k,_,_,h,_,e=>by simp at h
 | p,y :: q,0,k+1,hp,hq,_,_,e=>by
  simp at e
  exact absurd e.1 fun z=>hq (by rw[z];exact Ab)
 | y :: p,q,j+1,0,hp,hq,_,_,e=>by
  simp at e
  exact absurd e.1 fun z=>hp (by rw[z];exact Ab)
 | y :: p,z :: q,j+1,k+1,hp,hq,hj,hk,e=>by
  simp only[List.take_succ_cons,List.drop_succ_cons,Dt,Gf.injEq]at e;obtain⟨e1,e2⟩:=e;obtain⟨i1,i2⟩:=xS (fun m=>hp (Ac _ m)) (fun m=>hq (Ac _ m)) (by simpa using hj) (by simpa using hk) e2
  exact⟨by rw[e1,i1],by rw[i2]⟩
theorem rQ:∀ n,((gC n).map (·.1)).Nodup
 | 0=>by simp[gC]
 | n+1=>by
  have lt:∀ o∈gC n,(n:Int)∉o.1:=fun o ho m=>by
   obtain⟨i,hi,e⟩:=Ah.mp ((fD ho).1.mem_iff.mp m);have:=Bp.mp hi
   omega
  show List.Pairwise (fun a b=>a≠b) _
  rw[Cj];unfold gC;rw[List.pairwise_flatMap];refine⟨fun o ho=>?_,?_⟩
  · rw[Cj]
    refine Er (fun {a b} ma mb h e=>?_) (show List.Pairwise (fun a b=>a≠b) (Af (o.1.length+1)) from List.nodup_range)
    have:=Bp.mp ma
    have:=Bp.mp mb
    exact h (xS (lt o ho) (lt o ho) (by omega) (by omega) e).2
  · have nd:=Cj.mp (show List.Pairwise (fun a b=>a≠b) ((gC n).map (·.1)) from rQ n)
    refine Er (fun {v w} mv mw h x hx y hy e=>?_) nd
    obtain⟨i,hi,rfl⟩:=Ah.mp hx;obtain⟨j,hj,rfl⟩:=Ah.mp hy;have:=Bp.mp hi
    have:=Bp.mp hj
    exact h (xS (lt v mv) (lt w mw) (by omega) (by omega) e).1
def cK (p:List Int)(o:List Int):List Int:=o.map fun j=>p.getD j.toNat 0
theorem aDt {p:List Int}(h:p.Pairwise (·<·)){i j:Nat}(hj:j<p.length)(hij:i<j):p.getD i 0<p.getD j 0:=by
 have:=Ek.mp h i j (by omega) hj hij
 simpa[List.getD,Ae hj,Ae (show i<p.length by omega)] using this
theorem pV {p:List Int}(h:p.Pairwise (·<·)){x y:Int}(hx:0<=x/\x<p.length)(hy:0<=y/\y<p.length):p.getD x.toNat 0<p.getD y.toNat 0↔x<y:=by
 constructor
 · intro q
   rcases Hq x y with z | z | z
   · exact z
   · rw[z]at q;omega
   · have:=aDt h (i:=y.toNat) (j:=x.toNat) (by omega) (by omega);omega
 · intro z;exact aDt h (by omega) (by omega)
theorem aDl {p:List Int}(h:p.Pairwise (·<·)){x:Int}(hx:0<=x/\x<p.length):∀ {o:List Int},(∀ y∈o,0<=y/\y<(p.length:Int))->ovr (p.getD x.toNat 0) (cK p o)=ovr x o
 | [],_=>rfl
 | y :: o,ho=>by
  have ih:=aDl h hx (o:=o) fun z hz=>ho z (Ac _ hz);have e:=pV h hx (ho y Ab);unfold ovr cK at ih ⊢;rw[Ai];by_cases z:x<y
  · rw[Bv (by simpa using e.mpr z),Bv (by simpa using z),Al,Al,ih]
  · rw[Bx (by simpa using fun q=>z (e.mp q)),Bx (by simpa using z),ih]
theorem aKw {p:List Int}(h:p.Pairwise (·<·)):∀ n,∀ o:List Int,o.length=n->(∀ y∈o,0<=y/\y<(p.length:Int))->inv (cK p o)=inv o:=by
 intro n;induction n with
 | zero=>intro o ho _;rw[Cp.mp ho];rfl
 | succ n ih =>
  intro o ho hb;have hy:o≠[]:=fun z=>by rw[z]at ho;simp at ho
  have hc:=Cm hy;have hl:o.dropLast.length=n:=by rw[Dm];omega
  have h1:∀ y∈o.dropLast,0<=y/\y<(p.length:Int):=fun y hy=>hb y (Fl _ hy);have h2:=hb _ (Gi hy);rw[←hc];generalize o.dropLast=q at *
  generalize o.getLast hy=x at *
  have e:cK p (q++[x])=cK p q++[p.getD x.toNat 0]:=by unfold cK;rw[Ca];rfl
  rw[e,oY,oY,ih q hl h1,aDl h h2 h1]
theorem vS (p:List Int):cK p (bL p.length)=p:=by
 unfold cK bL;rw[Bt];refine Hx (by simp) fun i h1 h2=>?_
 simp[h2]
theorem aEu {p:List Int}(h:p.Pairwise (·<·)):∀ {o q:List Int},(∀ y∈o,0<=y/\y<(p.length:Int))->(∀ y∈q,0<=y/\y<(p.length:Int))->cK p o=cK p q->o=q
 | [],[],_,_,_=>rfl
 | [],y :: q,_,_,e=>by simp[cK]at e
 | x :: o,[],_,_,e=>by simp[cK]at e
 | x :: o,y :: q,ho,hq,e=>by
  simp only[cK,Ai,Gf.injEq]at e;have ih:=aEu h (fun z hz=>ho z (Ac _ hz)) (fun z hz=>hq z (Ac _ hz)) e.2;have a:=pV h (ho x Ab) (hq y Ab);have b:=pV h (hq y Ab) (ho x Ab)
  have:x=y:=by
   rcases Hq x y with z | z | z
   · have:=a.mpr z;omega
   · exact z
   · have:=b.mpr z;omega
  rw[this,ih]
theorem aA2 {p:List Int}:∀ {w:List Int},(∀ x∈w,x∈p)->∃ o:List Int,(∀ y∈o,0<=y/\y<(p.length:Int))/\cK p o=w
 | [],_=>⟨[],⟨fun _ h=>(by cases h),rfl⟩⟩
 | x :: w,h=>by
  obtain⟨o,h1,h2⟩:=aA2 (p:=p) (w:=w) fun y hy=>h y (Ac _ hy);obtain⟨i,hi,e⟩:=Co.mp (h x Ab);refine⟨(i:Int) :: o,fun y hy=>?_,?_⟩
  · rcases Aj.mp hy with q | q
    · rw[q];omega
    · exact h1 y q
  · show p.getD ((i:Int)).toNat 0 :: cK p o=_
    rw[h2,Ec,Aa,Ae hi];simp[e]
theorem lW:∀ {l m:List Int},l.Nodup->(∀ x∈l,x∈m)->l.length<=m.length
 | [],m,_,_=>Cc _
 | a :: l,m,h,s=>by
  obtain⟨h1,h2⟩:=Br.mp h;have ha:=s a Ab;have:=lW (l:=l) (m:=m.erase a) h2 fun x hx=>(List.mem_erase_of_ne (fun z:x=a=>h1 (by rw[←z];exact hx))).mpr (s x (Ac _ hx))
  rw[List.length_erase_of_mem ha]at this;have:=List.length_pos_of_mem ha
  rw[Al];omega
def eA (rows:List (List Int))(p:List Int):Int:=cY (gC p.length) fun o=>o.2*prd rows (cK p o.1)
theorem dM {m:Nat}{x:Int}:x∈bL m↔0<=x/\x<m:=by
 constructor
 · intro h;obtain⟨i,hi,rfl⟩:=Ah.mp h;have:=Bp.mp hi;omega
 · intro h;exact Ah.mpr ⟨x.toNat,Bp.mpr (by omega),by omega⟩
theorem mM {m:Nat}{rows:List (List Int)}(hm:∀ r∈rows,r.length=m){p:List Int}(up:p.Pairwise (·<·))(hl:p.length=rows.length)(rg:∀ x∈p,0<=x/\x<m):kN (raw rows) p=eA rows p:=by
 have nd:p.Nodup:=up.imp fun {a b} h e=>by omega
 have ix':p.Pairwise fun a b=>ix b a=false:=up.imp fun {a b} h=>decide_eq_false (by omega)
 unfold kN;rw[zC,aCf rows.length rows rfl hm,lH]
 have e1:cY (qR m rows.length) (fun w=>val (w,prd rows w)*ind p (key (w,prd rows w)))=cY ((qR m rows.length).filter fun w=>decide (srt ix w=p)) fun w=>trn w*prd rows w:=by
  rw[aGq];refine cT fun w _=>?_
  show val (w,prd rows w)*ind p (srt ix w)=_
  unfold ind;by_cases z:srt ix w=p
  · rw[if_pos z,Gm,decide_eq_true z,if_pos rfl,mV]
  · rw[if_neg z,Eo,decide_eq_false z,if_neg (by decide)]
 rw[e1];have bd:∀ o∈gC p.length,∀ y∈o.1,0<=y/\y<(p.length:Int):=fun o ho y hy=>dM.mp ((fD ho).1.mem_iff.mp hy)
 have pm:((qR m rows.length).filter fun w=>decide (srt ix w=p)).Perm ((gC p.length).map fun o=>cK p o.1):=by
  refine jM (List.Nodup.sublist List.filter_sublist (rH m _)) ?_ fun w=>?_
  · show List.Pairwise (fun a b=>a≠b) _
    rw[Cj];have nd2:=Cj.mp (show List.Pairwise (fun a b=>a≠b) ((gC p.length).map (·.1)) from rQ _)
    exact Er (fun {a b} ma mb h e=>h (aEu up (bd a ma) (bd b mb) e)) nd2
  · rw[Ck,kR,decide_eq_true_iff,oP ix']
    constructor
    · intro ⟨⟨h1,h2⟩,h3⟩
      obtain⟨o,o1,o2⟩:=aA2 (p:=p) (w:=w) fun x hx=>h3.mem_iff.mp hx
      have po:o.Perm (bL p.length):=by
       have lo:o.length=p.length:=by
        have:=congrArg Hd o2
        simp[cK]at this
        rw[this,h3.length_eq]
       have ndo:o.Nodup:=by
        have:(cK p o).Nodup:=by rw[o2];exact h3.nodup_iff.mpr nd
        have q:=Cj.mp (show List.Pairwise (fun a b=>a≠b) (o.map fun j=>p.getD j.toNat 0) from this)
        exact q.imp fun {a b} h e=>h (by rw[e])
       have sub:∀ x∈o,x∈bL p.length:=fun x hx=>dM.mpr (o1 x hx);refine jM ndo (jV _) fun x=>⟨sub x,fun hx=>?_⟩
       by_cases z:x∈o
       · exact z
       · exfalso
         have:=lW (l:=x :: o) (m:=bL p.length) (Br.mpr ⟨z,ndo⟩) fun y hy=>(Aj.mp hy).elim (fun q=>q▸hx) (sub y)
         rw[Al,lo,show (bL p.length).length=p.length by simp[bL]]at this
         omega
      obtain⟨q,hq,eq⟩:=aAh po;exact Ah.mpr ⟨q,hq,by rw[eq,o2]⟩
    · intro h
      obtain⟨o,ho,e⟩:=Ah.mp h
      have pp:w.Perm p:=by
       rw[←e];have:=((fD ho).1.map fun j=>p.getD j.toNat 0)
       have e3:(bL p.length).map (fun j=>p.getD j.toNat 0)=p:=vS p;rw[e3]at this;exact this
      exact⟨⟨by rw[pp.length_eq,hl],fun x hx=>rg x (pp.mem_iff.mp hx)⟩,pp⟩
 rw[vX pm,lH];refine cT fun o ho=>?_
 have nw:(cK p o.1).Nodup:=by
  have:=((fD ho).1.map fun j=>p.getD j.toNat 0)
  have e3:(bL p.length).map (fun j=>p.getD j.toNat 0)=p:=vS p;rw[e3]at this;exact this.nodup_iff.mpr nd
 unfold trn;rw[if_pos nw,aKw up _ o.1 rfl (bd o ho),(fD ho).2]
end Sm
namespace Sm
open Srt
def sk (k i:Nat):Nat:=if i<k then i else i+1
def cut {α:Type}(k:Nat)(l:List α):List α:=l.take k++l.drop (k+1)
def gp (n j:Nat):List Int:=(Af n).map fun (i:Nat)=>((sk j i:Nat):Int)
def en (t:List (List Int))(i j:Nat):Int:=(t.getD i []).getD j 0
def prF (f:Nat->Nat->Int)(i:Nat):List Int->Int
 | []=>1
 | x :: w=>f i x.toNat*prF f (i+1) w
def aT (n:Nat)(f:Nat->Nat->Int):Int:=cY (gC n) fun o=>o.2*prF f 0 o.1
theorem rX {α:Type}(k i:Nat)(l:List α)(d:α):(cut k l).getD i d=l.getD (sk k i) d:=by
 unfold cut sk;rw[Aa,Aa];congr 1
 by_cases h:i<k
 · rw[if_pos h]
   by_cases z:i<l.length
   · rw[Bm (by rw[Ax];omega),Es h]
   · rw[Bk (by simp;omega),Bk (by omega)]
 · rw[if_neg h]
   by_cases z:k<=l.length
   · rw[Au (by rw[Ax];omega),Ha,Ax]
     congr 1
     omega
   · rw[Bk (by simp;omega),Bk (by omega)]
theorem aBk {α:Type}{k:Nat}{l:List α}(h:k<l.length):(cut k l).length=l.length-1:=by
 unfold cut;simp;omega
theorem aSa (k j:Nat)(t:List (List Int))(a b:Nat):en ((cut k t).map (cut j)) a b=en t (sk k a) (sk j b):=by
 unfold en;rw[←rX j b,←rX k a];congr 1
 rw[Aa,Ao,Aa];cases (cut k t)[a]? with
 | none=>simp[cut]
 | some r=>rfl
theorem aO3:∀ (t:List (List Int)) (w:List Int),t.length=w.length->∀ (f:Nat->Nat->Int) (i:Nat),(∀ a b,en t a b=f (i+a) b)->prd t w=prF f i w
 | [],[],_,f,i,_=>rfl
 | r :: t,x :: w,h,f,i,e=>by
  have e0:=e 0 x.toNat;simp only[prd,prF];rw[aO3 t w (by simpa using h) f (i+1) (fun a b=>by have:=e (a+1) b;rw[show i+1+a=i+(a+1) by omega];exact this)]
  rw[show r.getD x.toNat 0=f i x.toNat from e0]
theorem aEp {n:Nat}{o:List Int}(h:∀ x∈o,0<=x/\x<(n:Int)):cK (bL n) o=o:=by
 unfold cK;conv=>rhs;rw[←List.map_id o]
 refine Cg fun x hx=>?_
 have:=h x hx
 rw[Aa,show bL n=(Af n).map (fun (i:Nat)=>(i:Int)) from rfl,Ao,Gv (by omega)]
 simp;omega
theorem eL (n:Nat):(bL n).length=n:=by simp[bL]
theorem rD {n:Nat}{o:Tm}(h:o∈gC n):∀ x∈o.1,0<=x/\x<(n:Int):=fun x hx=>dM.mp ((fD h).1.mem_iff.mp hx)
theorem nZ {n:Nat}{o:Tm}(h:o∈gC n):o.1.length=n:=by rw[(fD h).1.length_eq,eL]
theorem jR {n:Nat}{t:List (List Int)}(h:t.length=n):eA t (bL n)=aT n (en t):=by
 unfold eA aT;rw[eL];refine cT fun o ho=>?_
 rw[aEp (rD ho),aO3 t o.1 (by rw[h,nZ ho]) (en t) 0 fun a b=>by rw[Dw]]
theorem wG {n:Nat}{f g:Nat->Nat->Int}(h:∀ i j,i<n->j<n->f i j=g i j):∀ (w:List Int) (i:Nat),i+w.length<=n->(∀ x∈w,0<=x/\x<(n:Int))->prF f i w=prF g i w
 | [],_,_,_=>rfl
 | x :: w,i,hl,hx=>by
  have hl':i+(w.length+1)<=n:=hl;have h0:=hx x Ab;simp only[prF];rw[h i x.toNat (by omega) (by omega),wG h w (i+1) (by omega) fun y hy=>hx y (Ac _ hy)]
theorem eS {n:Nat}{f g:Nat->Nat->Int}(h:∀ i j,i<n->j<n->f i j=g i j):aT n f=aT n g :=
 cT fun o ho=>by rw[wG h o.1 0 (by rw[nZ ho];omega) (rD ho)]
def prs (i:Nat):List Int->List (Nat×Nat)
 | []=>[]
 | x :: w=>(i,x.toNat) :: prs (i+1) w
def pL (f:Nat->Nat->Int):List (Nat×Nat)->Int
 | []=>1
 | p :: ps=>f p.1 p.2*pL f ps
theorem aNr {f:Nat->Nat->Int}{a b:List (Nat×Nat)}(h:a.Perm b):pL f a=pL f b:=by
 induction h with
 | nil=>rfl
 | cons x _ ih=>simp only[pL,ih]
 | swap x y l=>simp only[pL];rw[Ho]
 | trans _ _ i1 i2=>exact i1.trans i2
theorem aC7 (f:Nat->Nat->Int):∀ (w:List Int) (i:Nat),prF f i w=pL f (prs i w)
 | [],_=>rfl
 | x :: w,i=>by simp only[prF,prs,pL,aC7 f w (i+1)]
theorem aEl (f:Nat->Nat->Int):∀ ps:List (Nat×Nat),pL (fun i j=>f j i) ps=pL f (ps.map Prod.swap)
 | []=>rfl
 | p :: ps=>by simp only[pL,Ai,aEl f ps,Prod.swap]
def aP4 (n:Nat)(w:List Int):List Int:=(Af n).map fun (j:Nat)=>((w.findIdx (fun x=>x==(j:Int)):Nat):Int)
theorem aKd:∀ n,n<6->((gC n).map fun o=>(aP4 n o.1,o.2)).Perm (gC n):=by decide +kernel
theorem aN9:∀ n,n<6->∀ o∈gC n,((prs 0 o.1).map Prod.swap).Perm (prs 0 (aP4 n o.1)):=by decide +kernel
theorem wH {n:Nat}(h:n<6)(f:Nat->Nat->Int):aT n (fun i j=>f j i)=aT n f:=by
 unfold aT
 have e:∀ o∈gC n,o.2*prF (fun i j=>f j i) 0 o.1=o.2*prF f 0 (aP4 n o.1):=fun o ho=>by
  rw[aC7,aC7,aEl,aNr (aN9 n h o ho)]
 rw[cT e,←vX (aKd n h) (fun o=>o.2*prF f 0 o.1),lH]
theorem aNf:∀ n,n<5->∀ j:Nat,j<n+1->((j:Int) :: gp n j).Perm (bL (n+1)):=by decide +kernel
theorem aQx:∀ n,n<5->∀ j:Nat,j<n+1->und (j:Int) (gp n j)=j:=by decide +kernel
theorem aOv:∀ n,n<5->∀ j:Nat,j<n+1->(gp n j).Pairwise (·<·):=by decide +kernel
theorem aSm:∀ n,n<5->∀ j:Nat,j<n+1->∀ x∈gp n j,0<=x/\x<((n+1:Nat):Int):=by decide +kernel
theorem yT:∀ n,n<6->(bL n).Pairwise (·<·):=by decide +kernel
theorem aH6 {p:List Int}(h:p.Pairwise (·<·)):p.Pairwise fun a b=>ix b a=false:=h.imp fun {a b} h=>decide_eq_false (by omega)
theorem wE:∀ q:List Int,bX [] q=0
 | []=>rfl
 | y :: b=>by simp only[bX,wE b];rfl
theorem aP5 {n j:Nat}(hn:n<5)(hj:j<n+1)(w:List Int):xs [(j:Int)] (srt ix w)*ind (bL (n+1)) (srt ix ([(j:Int)]++srt ix w))=ind (gp n j) (srt ix w)*sgn j:=by
 have up:=aH6 (aOv n hn j hj);have upR:=aH6 (yT (n+1) (by omega))
 have pm:=aNf n hn j hj;by_cases z:srt ix w=gp n j
 · have e1:srt ix ([(j:Int)]++gp n j)=bL (n+1):=(oP upR).mpr pm
   have nd:((j:Int) :: gp n j).Nodup:=pm.nodup_iff.mpr (jV _);have nj:(j:Int)∉gp n j:=(Br.mp nd).1;rw[z,e1];unfold ind xs;rw[if_pos rfl,if_pos rfl,if_pos (fun x hx=>by rw[As.mp hx];exact nj),jJ,wE,aQx n hn j hj,Nat.add_zero,Gm,Gk]
 · have e1:srt ix ([(j:Int)]++srt ix w)≠bL (n+1):=fun q=>z (by
    have p1:=(oP upR).mp q;have p2:(srt ix w).Perm (gp n j):=List.Perm.cons_inv (p1.trans pm.symm);have p3:=(oP up).mpr p2;rw[←p3]
    exact(hE (dZ w)).symm)
   unfold ind;rw[if_neg e1,if_neg z,Eo,Dx]
theorem aN3 (x v:Int):val ([x],v)=v:=by
 rw[mV];have:trn [x]=1:=by unfold trn;rw[if_pos (by simp)];rfl
 rw[this,Gk]
theorem aL6 {n:Nat}(hn:n<5){r:List Int}(hr:r.length=n+1)(z:List (List Int)):kN (raw (r :: z)) (bL (n+1))=cY (Af (n+1)) fun j=>r.getD j 0*(sgn j*kN (raw z) (gp n j)):=by
 unfold kN;rw[show r :: z=[r]++z from rfl,lX,xT,eC,zC,jD,hr,lH]
 unfold bL;rw[lH];refine cT fun j hj=>?_
 have hj:=Bp.mp hj;rw[aN3];rw[Ec];congr 1
 show lin (raw z) (fun l=>xs [(j:Int)] l*ind (bL (n+1)) (srt ix ([(j:Int)]++l)))=_
 rw[Bg,←rA];refine lT fun t _=>aP5 hn hj t.1
theorem aIf (x y:List (List Int))(r:List Int)(g:List Int->Int):lin (raw (x++r :: y)) g=lin (raw (r :: (x++y))) g*sgn x.length:=by
 have e1:raw (x++r :: y)=aY (aY (raw x) (dG r)) (raw y):=by
  rw[lX,show r :: y=[r]++y from rfl,lX,xT,jH]
 have e2:raw (r :: (x++y))=aY (aY (dG r) (raw x)) (raw y):=by
  rw[show r :: (x++y)=[r]++(x++y) from rfl,lX,xT,lX,jH]
 rw[e1,e2,eC,eC (aY (dG r) (raw x)),aBb (aLz x.length x rfl) (oJ r),Nat.mul_one]
theorem aEs (j:Nat):∀ (z:List (List Int)) (w:List Int),z.length=w.length->∀ (p:List Int),True->(∀ r∈z,∀ x∈w,r.getD (p.getD x.toNat 0).toNat 0=(cut j r).getD x.toNat 0)->prd z (cK p w)=prd (z.map (cut j)) w
 | [],[],_,_,_,_=>rfl
 | r :: z,x :: w,h,p,_,e=>by
  simp only[cK,Ai,prd];rw[e r Ab x Ab];congr 1
  exact aEs j z w (by simpa using h) p trivial fun r hr x hx=>e r (Ac _ hr) x (Ac _ hx)
theorem aJe {n j:Nat}(hn:n<5)(hj:j<n+1){z:List (List Int)}(hz:z.length=n)(hr:∀ r∈z,r.length=n+1):kN (raw z) (gp n j)=eA (z.map (cut j)) (bL n):=by
 have lg:(gp n j).length=n:=by simp[gp]
 rw[mM hr (aOv n hn j hj) (by rw[lg,hz]) (aSm n hn j hj)]
 unfold eA;rw[lg,eL];refine cT fun o ho=>?_
 rw[aEp (rD ho)];congr 1
 refine aEs j z o.1 (by rw[hz,nZ ho]) _ trivial fun r _ x hx=>?_
 have:=rD ho x hx
 rw[rX];congr 1
 unfold gp;rw[Aa,Ao,Gv (by omega)]
 simp
theorem xY {α:Type}{k:Nat}{l:List α}(d:α)(h:k<l.length):l=l.take k++l.getD k d :: l.drop (k+1):=by
 rw[Aa,Ae h];simp
theorem aPy {α:Type}{l:List α}{i:Nat}{d:α}(h:i<l.length):l.getD i d∈l:=by
 rw[Aa,Ae h];exact Eg h
theorem aJw {α:Type}(l:List α)(f:α->Int)(c:Int):cY l f*c=cY l fun x=>f x*c:=by
 induction l with
 | nil=>simp[cY]
 | cons x l ih=>simp only[cY,Hg,ih]
theorem aI8 {n:Nat}(hn:n<5){t:List (List Int)}(ht:t.length=n+1)(hr:∀ r∈t,r.length=n+1){i k:Nat}(hi:i<n+1)(hk:k<n+1) :
 cY (Af (n+1)) (fun j=>(t.getD i []).getD j 0*(sgn (j+k)*eA ((cut k t).map (cut j)) (bL n)))=if i=k then eA t (bL (n+1)) else 0:=by
 have hs:=xY [] (l:=t) (k:=k) (by omega)
 have hir:=hr _ (aPy (l:=t) (i:=i) (d:=[]) (by omega))
 have hc:cut k t=t.take k++t.drop (k+1):=rfl;have hcl:(t.take k++t.drop (k+1)).length=n:=by rw[←hc,aBk (by omega),ht];rfl
 have hcr:∀ r∈t.take k++t.drop (k+1),r.length=n+1:=fun r h=>hr r ((Av.mp h).elim Dz Ce);have lk:(t.take k).length=k:=by rw[Ax];omega
 have e:=aIf (t.take k) (t.drop (k+1)) (t.getD i []) (ind (bL (n+1)));have e2:=aL6 hn hir (t.take k++t.drop (k+1));unfold kN at e2;rw[e2,lk]at e
 have e3:cY (Af (n+1)) (fun j=>(t.getD i []).getD j 0*(sgn (j+k)*eA ((cut k t).map (cut j)) (bL n)))=lin (raw (t.take k++t.getD i [] :: t.drop (k+1))) (ind (bL (n+1))):=by
  rw[e,aJw];refine cT fun j hj=>?_
  rw[show lin (raw (t.take k++t.drop (k+1))) (ind (gp n j))=eA ((cut k t).map (cut j)) (bL n) from aJe hn (Bp.mp hj) hcl hcr,oI]
  simp only[Bi,Bg,Ho]
 rw[e3];by_cases z:i=k
 · rw[if_pos z,z,←hs]
   exact mM hr (yT _ (by omega)) (by rw[eL,ht]) fun x hx=>dM.mp hx
 · rw[if_neg z]
   by_cases q:i<k
   · have s2:=xY [] (l:=t.take k) (k:=i) (by omega)
     have g:(t.take k).getD i []=t.getD i []:=by
      rw[Aa,Es q,Aa]
     rw[g]at s2;rw[s2,Bn,Dt];exact pP _ _ _ _ _
   · have s2:=xY [] (l:=t.drop (k+1)) (k:=i-(k+1)) (by rw[By];omega)
     have g:(t.drop (k+1)).getD (i-(k+1)) []=t.getD i []:=by
      rw[Aa,Ha,Aa,show k+1+(i-(k+1))=i by omega]
     rw[g]at s2;rw[s2];exact pP _ _ _ _ _
def tbl (n:Nat)(f:Nat->Nat->Int):List (List Int):=(Af n).map fun i=>(Af n).map fun j=>f i j
theorem aB5 {n:Nat}{f:Nat->Nat->Int}{i j:Nat}(hi:i<n)(hj:j<n):en (tbl n f) i j=f i j:=by
 unfold en tbl;simp[Aa,hi,hj]
theorem yS (n:Nat)(f:Nat->Nat->Int):(tbl n f).length=n:=by simp[tbl]
theorem aN5 {n:Nat}{f:Nat->Nat->Int}:∀ r∈tbl n f,r.length=n:=fun r h=>by
 obtain⟨i,_,e⟩:=Ah.mp h;rw[←e];simp
theorem aM9 {n:Nat}{t:List (List Int)}(ht:t.length=n+1){k:Nat}(hk:k<n+1)(j:Nat):eA ((cut k t).map (cut j)) (bL n)=aT n fun a b=>en t (sk k a) (sk j b):=by
 rw[jR (by rw[Ad,aBk (by omega),ht];rfl)]
 congr 1
 funext a b
 exact aSa k j t a b
theorem aOh {n k i:Nat}(h:i<n):sk k i<n+1:=by unfold sk;split<;>omega
theorem aDx {n:Nat}(hn:n<5)(f:Nat->Nat->Int){i k:Nat}(hi:i<n+1)(hk:k<n+1) :
 cY (Af (n+1)) (fun j=>f i j*(sgn (j+k)*aT n fun a b=>f (sk k a) (sk j b)))=if i=k then aT (n+1) f else 0:=by
 have h:=aI8 hn (yS (n+1) f) aN5 hi hk;have e1:eA (tbl (n+1) f) (bL (n+1))=aT (n+1) f:=(jR (yS _ f)).trans (eS fun a b ha hb=>aB5 ha hb);rw[e1]at h;rw[←h];refine cT fun j hj=>?_
 have hj:=Bp.mp hj;rw[show ((tbl (n+1) f).getD i []).getD j 0=f i j from aB5 hi hj,aM9 (yS _ f) hk]
 congr 2
 exact eS fun a b ha hb=>(aB5 (aOh ha) (aOh hb)).symm
theorem aM2 {n:Nat}(hn:n<5)(f:Nat->Nat->Int){i k:Nat}(hi:i<n+1)(hk:k<n+1) :
 cY (Af (n+1)) (fun j=>(sgn (i+j)*aT n fun a b=>f (sk j a) (sk i b))*f j k)=if i=k then aT (n+1) f else 0:=by
 have h:=aDx hn (fun a b=>f b a) hk hi;rw[wH (by omega)]at h
 rw[show (if i=k then aT (n+1) f else 0)=if k=i then aT (n+1) f else 0 by by_cases z:i=k<;>simp[z,eq_comm],←h]
 refine cT fun j hj=>?_
 rw[Bg];congr 1
 rw[Nat.add_comm i j];congr 1
 exact(wH (by omega) fun a b=>f (sk j a) (sk i b)).symm
end Sm
namespace Be
open PySem L2 Mir Sm Hm
def su:Nat->(Nat->Int)->Int
 | 0,_=>0
 | n+1,g=>su n g+g n
theorem aIz {α:Type}(f:α->Int)(l m:List α):cY (l++m) f=cY l f+cY m f:=by
 induction l with
 | nil=>simp[cY]
 | cons x l ih=>simp only[Dt,cY,ih];omega
theorem aB6 (g:Nat->Int):∀ n,cY (Af n) g=su n g
 | 0=>rfl
 | n+1=>by rw[Ez,aIz,aB6 g n];simp[cY,su]
theorem aQ {f g:Nat->Int}:∀ {n:Nat},(∀ i,i<n->f i=g i)->su n f=su n g
 | 0,_=>rfl
 | n+1,h=>by simp only[su];rw[aQ fun i hi=>h i (by omega),h n (by omega)]
theorem lC (f g:Nat->Int):∀ n,su n f+su n g=su n fun i=>f i+g i
 | 0=>rfl
 | n+1=>by simp only[su];rw[←lC f g n];omega
theorem cP (c:Int)(f:Nat->Int):∀ n,c*su n f=su n fun i=>c*f i
 | 0=>by simp[su]
 | n+1=>by simp only[su];rw[Ik,cP c f n]
theorem lQ:∀ n,su n (fun _=>0)=0
 | 0=>rfl
 | n+1=>by simp only[su];rw[lQ n];rfl
theorem rE (F:Nat->Nat->Int)(m:Nat):∀ n,su n (fun i=>su m (F i))=su m fun j=>su n fun i=>F i j
 | 0=>by simp only[su];exact(lQ m).symm
 | n+1=>by simp only[su];rw[rE F m n,lC]
theorem xE (f:Nat->Int){v:Nat}:∀ {n:Nat},v<n->su n (fun i=>if i=v then f i else 0)=f v
 | n+1,h=>by
  simp only[su];by_cases z:v=n
  · subst z
    rw[if_pos rfl,aQ (g:=fun _=>0) fun i hi=>if_neg (by omega),lQ];omega
  · rw[xE f (by omega),if_neg (by omega)];omega
def adj (n:Nat)(f:Nat->Nat->Int)(t s:Nat):Int:=sgn (t+s)*aT n fun a b=>f (sk s a) (sk t b)
theorem aKh {n:Nat}(hn:n<5)(f:Nat->Nat->Int){i k:Nat}(hi:i<n+1)(hk:k<n+1):su (n+1) (fun j=>adj n f i j*f j k)=if i=k then aT (n+1) f else 0:=by
 rw[←aB6];exact aM2 hn f hi hk
theorem aUp {n:Nat}(hn:n<5)(f:Nat->Nat->Int){i k:Nat}(hi:i<n+1)(hk:k<n+1):su (n+1) (fun j=>f i j*adj n f j k)=if i=k then aT (n+1) f else 0:=by
 rw[←aB6];exact aDx hn f hi hk
theorem aRl (n:Nat)(f:Nat->Nat->Int):adj n f n n=aT n f:=by
 unfold adj;rw[show sgn (n+n)=1 by unfold sgn;omega,Gk]
 exact eS fun a b ha hb=>by unfold sk;rw[if_pos ha,if_pos hb]
theorem aK5 {n:Nat}(hn:n<=5)(f:Nat->Nat->Int)(h0:aT n f≠0){γ:Nat->Int}(h:∀ u,u<n->su n (fun s=>γ s*f s u)=0):∀ s,s<n->γ s=0:=by
 cases n with
 | zero=>intro s hs;omega
 | succ n =>
  intro v hv
  have e:su (n+1) (fun u=>su (n+1) (fun s=>γ s*f s u)*adj n f u v)=γ v*aT (n+1) f:=by
   have:su (n+1) (fun u=>su (n+1) (fun s=>γ s*f s u)*adj n f u v)=su (n+1) fun s=>if s=v then γ s*aT (n+1) f else 0:=by
    rw[aQ (g:=fun u=>su (n+1) fun s=>γ s*(f s u*adj n f u v)) fun u _=>by rw[Bg,cP];exact aQ fun s _=>by rw[Bg,Bi],rE]
    refine aQ fun s hs=>?_
    rw[←cP,aUp (by omega) f hs hv]
    split<;>simp
   rw[this,xE (fun s=>γ s*aT (n+1) f) hv]
  rw[aQ (g:=fun _=>0) fun u hu=>by rw[h u hu,Dx],lQ]at e
  rcases Int.mul_eq_zero.mp e.symm with q | q
  · exact q
  · exact absurd q h0
section
variable {k:Nat}{r:Nat->Nat->Int}{h:Nat->Nat}{A c:Nat->Nat->Int}{b:Int}{X:Nat->Int}
theorem aFd (a:Nat->Int)(hA:∀ t,t<k->∀ j,A t j=su k fun s=>c t s*r s j)(j:Nat):su k (fun t=>a t*A t j)=su k fun s=>su k (fun t=>a t*c t s)*r s j:=by
 rw[aQ (g:=fun t=>su k fun s=>a t*c t s*r s j) fun t ht=>by rw[hA t ht j,cP];exact aQ fun s _=>(Bi ..).symm,rE]
 exact aQ fun s _=>by rw[Bg,cP];exact aQ fun t _=>by rw[Bg]
theorem step (h5:k<5)(hb:b=aT k fun s u=>r s (h u))(b0:b≠0)(hA:∀ t,t<k->∀ j,A t j=su k fun s=>c t s*r s j)(hH:∀ t,t<k->∀ u,u<k->A t (h u)=if t=u then b else 0)
 (hX:∀ j,X j=b*r k j-su k fun t=>r k (h t)*A t j) (e0:X (h k)≠0) :
 ∃ F:Nat->Nat->Int,X (h k)=aT (k+1) (fun s u=>r s (h u))/\(∀ j,F k j=X j)/\(∀ t,t<k+1->∀ j,F t j=su (k+1) fun s=>adj k (fun s u=>r s (h u)) t s*r s j) /\
  (∀ t,t<k+1->∀ u,u<k+1->F t (h u)=if t=u then X (h k) else 0)/\∀ t,t<k->∀ j,X (h k)*A t j-A t (h k)*X j=F t j*b:=by
 let f:Nat->Nat->Int:=fun s u=>r s (h u)
 let F:Nat->Nat->Int:=fun t j=>su (k+1) fun s=>adj k f t s*r s j
 have FH:∀ t,t<k+1->∀ u,u<k+1->F t (h u)=if t=u then aT (k+1) f else 0:=fun t ht u hu=>aKh h5 f ht hu
 have XH:∀ u,u<k->X (h u)=0:=fun u hu=>by
  rw[hX,aQ (g:=fun t=>if t=u then r k (h t)*b else 0) fun t ht=>by rw[hH t ht u hu];split<;>simp,xE (fun t=>r k (h t)*b) hu,Bg]
  omega
 have XF:∀ j,F k j=X j:=by
  let γ:Nat->Int:=fun s=>- su k (fun t=>r k (h t)*c t s)-adj k f k s
  have dif:∀ j,X j-F k j=su k fun s=>γ s*r s j:=fun j=>by
   have q1:=aFd (fun t=>r k (h t)) hA j;have q2:F k j=su k (fun s=>adj k f k s*r s j)+adj k f k k*r k j:=rfl;rw[hX,q1,q2,aRl,←hb]
   have q3:su k (fun s=>γ s*r s j)=- su k (fun s=>su k (fun t=>r k (h t)*c t s)*r s j)-su k (fun s=>adj k f k s*r s j):=by
    have m1:=cP (-1) (fun s=>su k (fun t=>r k (h t)*c t s)*r s j) k;have m2:=cP (-1) (fun s=>adj k f k s*r s j) k;have m3:=lC (fun s=>-1*(su k (fun t=>r k (h t)*c t s)*r s j)) (fun s=>-1*(adj k f k s*r s j)) k;rw[←m1,←m2]at m3
    have m4:su k (fun s=>γ s*r s j)=su k fun s=>-1*(su k (fun t=>r k (h t)*c t s)*r s j)+-1*(adj k f k s*r s j):=aQ fun s _=>by
     show (- su k (fun t=>r k (h t)*c t s)-adj k f k s)*r s j=_
     rw[Fg,Em];omega
    rw[m4,←m3];omega
   rw[q3];omega
  have z:=aK5 (n:=k) (by omega) f (by rw[←hb];exact b0) (γ:=γ) fun u hu=>by
   rw[←dif (h u),XH u hu,FH k (by omega) u (by omega),if_neg (by omega)];rfl
  intro j;have:=dif j
  rw[aQ (g:=fun _=>0) fun s hs=>by rw[z s hs,Dx],lQ]at this
  omega
 have D:X (h k)=aT (k+1) f:=by rw[←XF,FH k (by omega) k (by omega),if_pos rfl]
 refine⟨F,D,XF,fun t _ j=>rfl,fun t ht u hu=>by rw[FH t ht u hu,←D],fun t ht j=>?_⟩
 let e:=X (h k)
 let ε:Nat->Int:=fun s=>if s=k then-(A t (h k)*b)-adj k f t s*b else e*c t s+A t (h k)*su k (fun t=>r k (h t)*c t s)-adj k f t s*b
 have dif:∀ j,e*A t j-A t (h k)*X j-F t j*b=su (k+1) fun s=>ε s*r s j:=fun j=>by
  have q1:=aFd (fun t=>r k (h t)) hA j;have q2:F t j=su k (fun s=>adj k f t s*r s j)+adj k f t k*r k j:=rfl
  have q3:su (k+1) (fun s=>ε s*r s j)=su k (fun s=>(e*c t s+A t (h k)*su k (fun t=>r k (h t)*c t s)-adj k f t s*b)*r s j)+(- (A t (h k)*b)-adj k f t k*b)*r k j:=by
   show su k (fun s=>ε s*r s j)+ε k*r k j=_
   rw[show ε k=- (A t (h k)*b)-adj k f t k*b from if_pos rfl]
   congr 1
   exact aQ fun s hs=>by rw[show ε s=e*c t s+A t (h k)*su k (fun t=>r k (h t)*c t s)-adj k f t s*b from if_neg (by omega)]
  have q4:su k (fun s=>(e*c t s+A t (h k)*su k (fun t=>r k (h t)*c t s)-adj k f t s*b)*r s j)=e*su k (fun s=>c t s*r s j)+A t (h k)*su k (fun s=>su k (fun t=>r k (h t)*c t s)*r s j)-b*su k (fun s=>adj k f t s*r s j):=by
   have m1:=cP e (fun s=>c t s*r s j) k;have m2:=cP (A t (h k)) (fun s=>su k (fun t=>r k (h t)*c t s)*r s j) k;have m3:=cP (-b) (fun s=>adj k f t s*r s j) k;have a1:=lC (fun s=>e*(c t s*r s j)) (fun s=>A t (h k)*(su k (fun t=>r k (h t)*c t s)*r s j)) k;have a2:=lC (fun s=>e*(c t s*r s j)+A t (h k)*(su k (fun t=>r k (h t)*c t s)*r s j)) (fun s=>-b*(adj k f t s*r s j)) k;rw[←a1,←m1,←m2,←m3]at a2
   have a3:su k (fun s=>(e*c t s+A t (h k)*su k (fun t=>r k (h t)*c t s)-adj k f t s*b)*r s j)=su k fun s=>e*(c t s*r s j)+A t (h k)*(su k (fun t=>r k (h t)*c t s)*r s j)+-b*(adj k f t s*r s j):=aQ fun s _=>by
    rw[Fg,Hg,Bi e,Bi (A t (h k)),Bg (adj k f t s) b,Bi b,Em];omega
   rw[a3,←a2,Em];omega
  rw[q3,q4,←hA t ht j,hX j,q1,q2];rw[Int.mul_sub,Fg,Em,Hg,Bi (A t (h k)) b,Bg (adj k f t k*b) (r k j),Bg (su k _) b,Bg (adj k f t k*r k j) b,show b*(adj k f t k*r k j)=r k j*(adj k f t k*b) by rw[Bg (r k j),Bg (adj k f t k) b,Bi]]
  omega
 have z:=aK5 (n:=k+1) (by omega) f (by rw[←D];exact e0) (γ:=ε) fun u hu=>by
  rw[←dif (h u),FH t (by omega) u hu]
  by_cases q:u=k
  · subst q
    rw[if_neg (by omega)]
    show e*A t (h u)-A t (h u)*e-0*b=0
    rw[Bg];omega
  · rw[hH t ht u (by omega),XH u (by omega),←D]
    split
    · show e*b-A t (h k)*0-e*b=0;omega
    · omega
 have:=dif j
 rw[aQ (g:=fun _=>0) fun s hs=>by rw[z s hs,Dx],lQ]at this
 show e*A t j-A t (h k)*X j=F t j*b
 omega
theorem rest {F:Nat->Nat->Int}{e:Int}(hX:∀ j,F k j=X j)(hF:∀ t,t<k->∀ j,e*A t j-A t (h k)*X j=F t j*b){Y y:Nat->Int}(hY:∀ j,Y j=b*y j-su k fun t=>y (h t)*A t j)(j:Nat) :
 e*Y j-Y (h k)*X j=(e*y j-su (k+1) fun t=>y (h t)*F t j)*b:=by
 have q:su k (fun t=>y (h t)*(F t j*b))=e*su k (fun t=>y (h t)*A t j)-su k (fun t=>y (h t)*A t (h k))*X j:=by
  have m1:=cP e (fun t=>y (h t)*A t j) k;have m2:=cP (-(X j)) (fun t=>y (h t)*A t (h k)) k;have a1:=lC (fun t=>e*(y (h t)*A t j)) (fun t=>-(X j)*(y (h t)*A t (h k))) k;rw[←m1,←m2]at a1
  have a2:su k (fun t=>y (h t)*(F t j*b))=su k fun t=>e*(y (h t)*A t j)+-(X j)*(y (h t)*A t (h k)):=aQ fun t ht=>by
   rw[←hF t ht j,Int.mul_sub,Em,←Bi,Bg (y (h t)) e,Bi,←Bi (y (h t)) (A t (h k)),Bg (X j)];omega
  rw[a2,←a1,Em,Bg (X j)];omega
 have q2:su k (fun t=>y (h t)*(F t j*b))=su k (fun t=>y (h t)*F t j)*b:=by
  rw[Bg _ b,cP];exact aQ fun t _=>by rw[←Bi,Bg]
 have q3:su (k+1) (fun t=>y (h t)*F t j)=su k (fun t=>y (h t)*F t j)+y (h k)*X j:=by simp only[su];rw[hX]
 have m1:e*(b*y j)=e*y j*b:=by ac_rfl
 have m2:b*y (h k)*X j=y (h k)*X j*b:=by ac_rfl
 rw[q3,hY j,hY (h k)];rw[q2]at q;simp only[Int.mul_sub,Fg,Hg];omega
end
end Be
namespace Be
open PySem L2 Mir Sm Hm
abbrev Pr:=List Int×List Int
def lA (P:List Pr)(t j:Nat):Int:=(P.getD t ([],[])).1.getD j 0
def oA (P:List Pr)(t j:Nat):Int:=(P.getD t ([],[])).2.getD j 0
theorem eZ {α:Type}{P:List α}{x d:α}{t:Nat}(h:t<P.length):(P++[x]).getD t d=P.getD t d:=by
 rw[Aa,Bm h,Aa]
theorem iW {α:Type}{P:List α}{x d:α}:(P++[x]).getD P.length d=x:=by simp[Aa]
theorem oU {α β:Type}{P:List α}{g:α->β}{d:α}{d':β}{t:Nat}(h:t<P.length):(P.map g).getD t d'=g (P.getD t d):=by
 simp[Aa,h]
structure Bz (L:Nat)(t0:List (List Int))(s:Cs)(PA PB:List Pr):Prop where
 eq:s.t=PA.map (·.1)++PB.map (·.1)
 len:PA.length=s.hs.length
 mem:∀ p∈PA++PB,p.2∈t0/\p.1.length=L
 b0:s.b≠0
 bd:s.b=aT s.hs.length fun a u=>oA PA a (s.hs.getD u 0)
 tp:∃ c:Nat->Nat->Int,∀ t,t<s.hs.length->∀ j,lA PA t j=su s.hs.length fun a=>c t a*oA PA a j
 hd:∀ t,t<s.hs.length->∀ u,u<s.hs.length->lA PA t (s.hs.getD u 0)=if t=u then s.b else 0
 ot:∀ p∈PB,∀ j,p.1.getD j 0=s.b*p.2.getD j 0-su s.hs.length fun t=>p.2.getD (s.hs.getD t 0) 0*lA PA t j
theorem aAj (a b:Int)(h:b≠0):(a*b).fdiv b=a:=iH a b h
theorem Bz.step {L:Nat}{t0:List (List Int)}{s:Cs}{PA PB:List Pr}(Z:Bz L t0 s PA PB){w:Nat}(h5:s.hs.length<5):∃ PA' PB',Bz L t0 (eR s w) PA' PB':=by
 rcases mN s w (PA.map (·.1)) (PB.map (·.1)) Z.eq (by rw[Ad];exact Z.len) with ⟨_,e⟩ | ⟨B1',x',B2',hB,h0,e⟩
 · rw[e];exact⟨PA,PB,Z⟩
 · obtain⟨B1,B3,eB,e1,e3⟩:=List.map_eq_append_iff.mp hB
   obtain⟨x,B2,eB3,ex,e2⟩:=List.map_eq_cons_iff.mp e3;subst eB3;subst eB;subst e1;subst ex;subst e2;have ln:=Z.len;have mx:=Z.mem x (by simp)
   obtain⟨c,tp⟩:=Z.tp;let h:Nat->Nat:=fun u=>(s.hs++[w]).getD u 0
   let r:Nat->Nat->Int:=oA (PA++[x])
   have hlt:∀ u,u<s.hs.length->h u=s.hs.getD u 0:=fun u hu=>eZ hu;have hk:h s.hs.length=w:=iW;have rlt:∀ a,a<s.hs.length->∀ j,r a j=oA PA a j:=fun a ha j=>by show ((PA++[x]).getD a ([],[])).2.getD j 0=_;rw[eZ (by omega)];rfl
   have rk:∀ j,r s.hs.length j=x.2.getD j 0:=fun j=>by show ((PA++[x]).getD s.hs.length ([],[])).2.getD j 0=_;rw[←ln,iW]
   have bd:s.b=aT s.hs.length fun a u=>r a (h u):=by
    rw[Z.bd];exact eS fun a u ha hu=>by rw[rlt a ha,hlt u hu]
   have hA:∀ t,t<s.hs.length->∀ j,lA PA t j=su s.hs.length fun a=>c t a*r a j:=fun t ht j=>by
    rw[tp t ht j];exact aQ fun a ha=>by rw[rlt a ha]
   have hH:∀ t,t<s.hs.length->∀ u,u<s.hs.length->lA PA t (h u)=if t=u then s.b else 0:=fun t ht u hu=>by rw[hlt u hu];exact Z.hd t ht u hu
   have hX:∀ j,x.1.getD j 0=s.b*r s.hs.length j-su s.hs.length fun t=>r s.hs.length (h t)*lA PA t j:=fun j=>by
    rw[Z.ot x (by simp) j,rk]
    congr 1
    exact aQ fun t ht=>by rw[rk,hlt t ht]
   obtain⟨F,f1,f2,f3,f4,f5⟩:=Be.step (k:=s.hs.length) (r:=r) (h:=h) (A:=lA PA) (c:=c) (b:=s.b) (X:=fun j=>x.1.getD j 0) h5 bd Z.b0 hA hH hX (by show x.1.getD (h s.hs.length) 0≠0;rw[hk];exact h0)
   have f1:x.1.getD w 0=aT (s.hs.length+1) (fun s u=>r s (h u)):=by rw[←f1];show _=x.1.getD (h s.hs.length) 0;rw[hk]
   have f4:∀ t,t<s.hs.length+1->∀ u,u<s.hs.length+1->F t (h u)=if t=u then x.1.getD w 0 else 0:=fun t ht u hu=>by rw[f4 t ht u hu];show (if t=u then x.1.getD (h s.hs.length) 0 else 0)=_;rw[hk]
   have f5:∀ t,t<s.hs.length->∀ j,x.1.getD w 0*lA PA t j-lA PA t w*x.1.getD j 0=F t j*s.b:=fun t ht j=>by
    have:=f5 t ht j
    rw[hk]at this;exact this
   let sw:Pr->Pr:=fun p=>(swr x.1 p.1 w s.b,p.2)
   have swl:∀ p:Pr,p∈PA++(B1++x :: B2)->(sw p).1.length=L/\∀ j,(sw p).1.getD j 0=(x.1.getD w 0*p.1.getD j 0-p.1.getD w 0*x.1.getD j 0).fdiv s.b:=fun p hp=>by
    have l:=(Z.mem p hp).2;refine⟨by show (swr x.1 p.1 w s.b).length=L;rw[aEr,l,mx.2,Nat.min_self],fun j=>xP (by rw[l,mx.2]) j⟩
   have PAm:∀ t,t<s.hs.length->PA.getD t ([],[])∈PA++(B1++x :: B2):=fun t ht=>Dl _ (Mir.bJ (by omega))
   have lN:∀ t,t<s.hs.length+1->∀ j,lA (PA.map sw++[x]) t j=F t j:=fun t ht j=>by
    show ((PA.map sw++[x]).getD t ([],[])).1.getD j 0=F t j
    by_cases q:t<s.hs.length
    · rw[eZ (by rw[Ad];omega),oU (d:=([],[])) (by omega),(swl _ (PAm t q)).2 j]
      show (x.1.getD w 0*lA PA t j-lA PA t w*x.1.getD j 0).fdiv s.b=_
      rw[f5 t q j,aAj _ _ Z.b0]
    · have:t=(PA.map sw).length:=by rw[Ad];omega
      rw[this,iW,Ad,ln];exact(f2 j).symm
   have oN:∀ t,t<s.hs.length+1->∀ j,oA (PA.map sw++[x]) t j=r t j:=fun t ht j=>by
    show ((PA.map sw++[x]).getD t ([],[])).2.getD j 0=((PA++[x]).getD t ([],[])).2.getD j 0
    by_cases q:t<s.hs.length
    · rw[eZ (by rw[Ad];omega),oU (d:=([],[])) (by omega),eZ (by omega)]
    · rw[show t=(PA.map sw).length by rw[Ad];omega,iW,Ad,iW]
   have hl:(s.hs++[w]).length=s.hs.length+1:=by rw[Ak,Ar]
   rw[e];refine⟨PA.map sw++[x],(B1++B2).map sw,⟨?_,?_,fun p hp=>?_,h0,?_,⟨adj s.hs.length fun s u=>r s (h u),fun t ht j=>?_⟩,fun t ht u hu=>?_,fun p hp j=>?_⟩⟩
   · simp[Bt,Function.comp_def,sw]
   · show (PA.map sw++[x]).length=(s.hs++[w]).length
     rw[Ak,Ad,Ar,hl,ln]
   · have big:∀ q,q∈PA++(B1++x :: B2)->(sw q).2∈t0/\(sw q).1.length=L:=fun q hq=>⟨(Z.mem q hq).1,(swl q hq).1⟩
     rcases Av.mp hp with hp | hp
     · rcases Av.mp hp with hp | hp
       · obtain⟨q,hq,rfl⟩:=Ah.mp hp
         exact big q (Dl _ hq)
       · rw[As.mp hp];exact mx
     · obtain⟨q,hq,rfl⟩:=Ah.mp hp
       refine big q (Az _ ?_)
       simp only[Av,Aj]at hq ⊢;exact hq.imp id .inr
   · show x.1.getD w 0=aT (s.hs++[w]).length fun a u=>oA (PA.map sw++[x]) a ((s.hs++[w]).getD u 0)
     rw[hl,f1];exact eS fun a u ha hu=>(oN a ha _).symm
   · have ht:t<s.hs.length+1:=by rw[←hl];exact ht
     show lA (PA.map sw++[x]) t j=su (s.hs++[w]).length fun a=>adj s.hs.length (fun s u=>r s (h u)) t a*oA (PA.map sw++[x]) a j
     rw[lN t ht,f3 t ht j,hl];exact aQ fun a ha=>by rw[oN a ha]
   · have ht:t<s.hs.length+1:=by rw[←hl];exact ht
     have hu:u<s.hs.length+1:=by rw[←hl];exact hu
     rw[lN t ht];exact f4 t ht u hu
   · obtain⟨q,hq,rfl⟩:=Ah.mp hp
     have qm:q∈B1++x :: B2:=by
      simp only[Av,Aj]at hq ⊢;exact hq.imp id .inr
     have rs:=rest (k:=s.hs.length) (h:=h) (A:=lA PA) (b:=s.b) (X:=fun j=>x.1.getD j 0) (F:=F) (e:=x.1.getD w 0) f2 (fun t ht j=>by rw[hk];exact f5 t ht j) (Y:=fun j=>q.1.getD j 0) (y:=fun j=>q.2.getD j 0) (fun j=>by
      rw[Z.ot q qm j];congr 1
      exact aQ fun t ht=>by rw[hlt t ht]) j
     simp only[hk]at rs;rw[(swl q (Az _ qm)).2 j,rs,aAj _ _ Z.b0];show x.1.getD w 0*q.2.getD j 0-_=x.1.getD w 0*q.2.getD j 0-_
     rw[show (Cs.mk (((PA.map (·.1)).map fun r=>swr x.1 r w s.b)++x.1 :: ((B1.map (·.1))++(B2.map (·.1))).map fun r=>swr x.1 r w s.b) (s.hs++[w]) (x.1.getD w 0)).hs.length=s.hs.length+1 from hl]
     congr 1
     exact aQ fun t ht=>by rw[lN t ht]
def Zr (w:Nat)(s:Cs):Prop:=∀ l∈s.t.drop s.hs.length,∀ j,j<w->l.getD j 0=0
theorem Zr.step {L w:Nat}{s:Cs}(Z:Zr w s)(hl:s.hs.length<=s.t.length)(hr:∀ r∈s.t,r.length=L):Zr (w+1) (eR s w):=by
 have sp:s.t=s.t.take s.hs.length++s.t.drop s.hs.length:=(Ej _ _).symm;have tl:(s.t.take s.hs.length).length=s.hs.length:=by rw[Ax];omega
 rcases mN s w _ _ sp tl with ⟨h,e⟩ | ⟨B1,x,B2,hB,h0,e⟩
 · rw[e]
   intro l hm j hj;by_cases q:j=w
   · rw[q];exact h l hm
   · exact Z l hm j (by omega)
 · rw[e]
   intro l hm j hj
   have dr:(⟨(s.t.take s.hs.length).map (fun r=>swr x r w s.b)++x :: (B1++B2).map (fun r=>swr x r w s.b),s.hs++[w],x.getD w 0⟩:Cs).t.drop (s.hs++[w]).length=(B1++B2).map (fun r=>swr x r w s.b):=by
    show ((s.t.take s.hs.length).map (fun r=>swr x r w s.b)++x :: (B1++B2).map (fun r=>swr x r w s.b)).drop (s.hs++[w]).length=_
    rw[Ak,Ar,Hy,Ey (by rw[Ad,tl];omega),Ad,tl,Nat.add_sub_cancel_left]
    rfl
   rw[show (⟨(s.t.take s.hs.length).map (fun r=>swr x r w s.b)++x :: (B1++B2).map (fun r=>swr x r w s.b),s.hs++[w],x.getD w 0⟩:Cs).hs.length=(s.hs++[w]).length from rfl,dr]at hm
   obtain⟨q,hq,rfl⟩:=Ah.mp hm
   have inB:∀ q,q∈B1++B2\/q=x->q∈s.t.drop s.hs.length:=fun q hq=>by
    rw[hB];simp only[Av,Aj]at hq ⊢;rcases hq with (h | h) | h
    · exact .inl h
    · exact .inr (.inr h)
    · exact .inr (.inl h)
   have lq:=hr q (Ce (inB q (.inl hq)));have lx:=hr x (Ce (inB x (.inr rfl)));rw[xP (by rw[lq,lx])]
   by_cases z:j=w
   · rw[z,Bg,Int.sub_self];simp
   · rw[Z q (inB q (.inl hq)) j (by omega),Z x (inB x (.inr rfl)) j (by omega)];simp
def Up (w:Nat)(s:Cs):Prop:=s.hs.Pairwise (·<·)/\∀ h∈s.hs,h<w
theorem Up.step {w:Nat}{s:Cs}(U:Up w s):Up (w+1) (eR s w):=by
 unfold eR;cases fnd s.t s.hs.length w with
 | nil=>exact⟨U.1,fun h hh=>by have:=U.2 h hh;omega⟩
 | cons p r =>
  refine⟨Go.mpr ⟨U.1,List.pairwise_singleton _ _,fun a ha b hb=>by rw[As.mp hb];exact U.2 a ha⟩,fun h hh=>?_⟩
  rcases Av.mp hh with q | q
  · have:=U.2 h q;omega
  · rw[As.mp q];omega
theorem zM {m L N:Nat}(hL:L<=L){t0:List (List Int)}:∀ (j k:Nat) (s:Cs),Ok m L N k s->k+j<=L->k+j<=5->(∃ PA PB,Bz L t0 s PA PB)->Zr k s->Up k s ->
 (∃ PA PB,Bz L t0 ((Bo k j).foldl eR s) PA PB)/\Zr (k+j) ((Bo k j).foldl eR s)/\Up (k+j) ((Bo k j).foldl eR s)
 | 0,k,s,_,_,_,b,z,u=>⟨b,z,u⟩
 | j+1,k,s,o,h,h5,⟨PA,PB,b⟩,z,u=>by
  rw[Dj,Dd,show k+(j+1)=k+1+j by omega]
  have hk:=o.hk;exact zM hL j (k+1) _ (o.step (by omega)) (by omega) (by omega) (b.step (by omega)) (z.step (by rw[o.len];exact o.hm) o.row) u.step
theorem aLn {L N n:Nat}{t:List (List Int)}(hr:∀ r∈t,r.length=L)(hn:n<=L)(n5:n<=5)(hN:0<N)(hB:BN N t):(∃ PA PB,Bz L t (clr t n) PA PB)/\Zr n (clr t n)/\Up n (clr t n):=by
 have o0:Ok t.length L N 0 ⟨t,[],1⟩:=⟨rfl,hr,Am _,Cc _,fun h q=>absurd q (by simp),(show (1:Int)≠0 by decide),by
  show (1:Nat)<2^N
  exact An (by decide) (zH (show 1<=N from hN)),hB⟩
 have b0:Bz L t ⟨t,[],1⟩ [] (t.map fun r=>(r,r)):=by
  refine⟨by simp[Function.comp_def],rfl,fun p hp=>?_,show (1:Int)≠0 by decide,rfl,⟨fun _ _=>0,fun t ht=>absurd ht (by simp)⟩,fun t ht=>absurd ht (by simp),fun p hp j=>?_⟩
  · rw[Dq]at hp
    obtain⟨q,hq,rfl⟩:=Ah.mp hp;exact⟨hq,hr q hq⟩
  · obtain⟨q,hq,rfl⟩:=Ah.mp hp
    show q.getD j 0=1*q.getD j 0-0
    omega
 have:=zM (Am L) n 0 ⟨t,[],1⟩ o0 (by omega) (by omega) ⟨_,_,b0⟩ (fun l _ j hj=>absurd hj (by omega)) ⟨Do,fun h hh=>absurd hh (by simp)⟩
 rw[Dw]at this;unfold clr;rw[Cr];exact this
end Be
namespace Hm
open PySem L2 Mir Sm
theorem yW:∀ (rs:List (List Int)) (es:List Int) (us:List (List Int)) (j:Nat) (r:List Int),(eqL rs es us)[j]?=some r->∃ a e u,rs[j]?=some a/\es[j]?=some e/\us[j]?=some u/\r=a++[e]++u
 | [],es,us,j,r,h=>by simp[eqL]at h
 | _ :: _,[],us,j,r,h=>by simp[eqL]at h
 | _ :: _,_ :: _,[],j,r,h=>by simp[eqL]at h
 | a :: rs,e :: es,u :: us,0,r,h=>⟨a,e,u,rfl,rfl,rfl,by simpa[eqL] using h.symm⟩
 | a :: rs,e :: es,u :: us,j+1,r,h=>yW rs es us j r (by simpa[eqL] using h)
section
variable {m N:Nat}{rows:List (List Int)}{ends:List Int}
theorem oH (E:Eqn m N rows ends){j:Nat}{r:List Int}(h:(eqT rows ends)[j]?=some r){i:Nat}(hi:i<rows.length):r.getD (m+1+i) 0=if i=j then 1 else 0:=by
 obtain⟨a,e,u,h1,_,h3,rfl⟩:=yW _ _ _ _ _ h;have la:a.length=m:=E.sz a (Ea h1)
 have:(a++[e]++u).getD (m+1+i) 0=u.getD i 0:=by
  rw[Aa,Au (by simp;omega),Aa]
  congr 2
  simp;omega
 rw[this];unfold fY at h3;rw[Ao]at h3;cases q:(Af rows.length)[j]? with
 | none=>rw[q]at h3;cases h3
 | some p =>
  rw[q]at h3;cases h3;obtain⟨_,q⟩:=Bl.mp q;simp only[List.getElem_range]at q;subst q;simp[Aa,hi]
theorem aQr (E:Eqn m N rows ends)(L:Nat):tD (m+1) L ⟨eqT rows ends,[],1⟩:=by
 have el:=(mZ E).1;refine⟨[],(eqT rows ends).zipIdx,by simp,rfl,fun x h=>by simp at h,?_,fun y hy=>?_,show (1:Int)≠0 by decide⟩
 · rw[Ek]
   intro i j hi hj hij;have hi':i<(eqT rows ends).length:=by simpa using hi
   have hj':j<(eqT rows ends).length:=by simpa using hj
   simp only[List.getElem_zipIdx,Dw];constructor
   · rw[oH E (Ae hi') (by omega),if_neg (by omega)]
   · rw[oH E (Ae hj') (by omega),if_neg (by omega)]
 · obtain⟨i,hi,e⟩:=Co.mp hy
   have hi':i<(eqT rows ends).length:=by simpa using hi
   rw[←e];simp only[List.getElem_zipIdx,Dw];rw[oH E (Ae hi') (by omega),if_pos rfl]
theorem aAs (E:Eqn m N rows ends){l:List Int}(h:l∈(bS (eqT rows ends) m).t.drop (bS (eqT rows ends) m).hs.length):(bS (eqT rows ends) m).b∈l.drop (m+1):=by
 obtain⟨t1,t2,t3⟩:=mZ E
 have o0:Ok rows.length (m+1+rows.length) N 0 ⟨eqT rows ends,[],1⟩:=⟨t1,t2,Am _,Cc _,fun h q=>absurd q (by simp),(show (1:Int)≠0 by decide),by
  show (1:Nat)<2^N
  exact An (by decide) (zH (show 1<=N from E.n0)),t3⟩
 have M:tD (m+1) (m+1+rows.length) (clr (eqT rows ends) m):=by
  unfold clr;rw[Cr];exact rF m 0 _ o0 (by omega) (aQr E _)
 obtain⟨A,B,ht,hA,_,_,m3,b0⟩:=M
 have key:∀ l∈(clr (eqT rows ends) m).t.drop (clr (eqT rows ends) m).hs.length,∃ j,l.getD (m+1+j) 0=(clr (eqT rows ends) m).b:=fun l hl=>by
  rw[ht,←hA,List.drop_left' (by rw[Ad])]at hl
  obtain⟨y,hy,rfl⟩:=Ah.mp hl;exact⟨y.2,m3 y hy⟩
 have fin:∀ (l:List Int) (j:Nat) (v:Int),v≠0->l.getD (m+1+j) 0=v->v∈l.drop (m+1):=fun l j v v0 e=>by
  have hl:m+1+j<l.length:=by
   by_cases z:m+1+j<l.length
   · exact z
   · rw[Aa,Bk (by omega)]at e
     exact absurd e.symm v0
  rw[Aa,Ae hl]at e;rw[←show l[m+1+j]=v from e]
  exact Co.mpr ⟨j,by rw[By];omega,by rw[Hk]⟩
 unfold bS at h ⊢;split
 · rename_i z
   rw[if_pos z]at h;simp only[sY,←Fc]at h;obtain⟨q,hq,rfl⟩:=Ah.mp h;obtain⟨j,e⟩:=key q hq;refine fin _ j _ (by show -_≠0;omega) ?_
   rw[Aa,Ao];rw[Aa]at e;cases w:q[m+1+j]? with
   | none=>rw[w]at e;exact absurd e.symm b0
   | some v=>rw[w]at e;show -v=-_;rw[show v=_ from e]
 · rename_i z
   rw[if_neg z]at h;obtain⟨j,e⟩:=key l h;exact fin l j _ b0 e
end
def brd (m:Nat)(s:Cs):List (List Int):=(s.t.drop s.hs.length).filter fun l=>!decide (l.getD m 0=0)
abbrev aO4:FS:=(bI (aW (cN (eI (jF 1 2 (vE 1)) (soO (cB (jF 1 1 (vE 1)))) (noO))) 1 [0] (.nm 0) (Mir.bIf (bT (neE (bG (vE 0) (vE 1)) (cE (.int 0)))) (vE 0))))
theorem aUr {m k L n M:Nat}{s:Cs}(C:Cl k L n M s)(hm:m<L)(hk:k<=1000):∃ fr,cJ 2 2 aO4 [.int m,bZ s]=.ok ⟨.tmp,fr,.lst (lil (brd m s))⟩:=by
 have len:=C.len;have f2:jF 1 2 (vE 1) [some ⟨.shr,false,.int m⟩,some ⟨.shr,false,bZ s⟩]=.ok ⟨.shr,(false||(bZ s).imm)||(D.lst (lil s.t)).imm,.lst (lil s.t)⟩:=rfl
 have f1:cB (jF 1 1 (vE 1)) [some ⟨.shr,false,.int m⟩,some ⟨.shr,false,bZ s⟩]=.ok ⟨.shr,true,.int (s.hs.length:Nat)⟩:=by
  refine(gO (k:=.shr) (fr:=(false||(bZ s).imm)||(D.lst (hsD s.hs)).imm) (ds:=hsD s.hs) rfl).trans ?_
  rw[yY];rfl
 have sl:=jU (lo:=soO (cB (jF 1 1 (vE 1)))) (hi:=noO) f2 (mH f1) (b:=none) rfl;rw[aD6]at sl;obtain⟨g,sl⟩:∃ g,eI (jF 1 2 (vE 1)) (soO (cB (jF 1 1 (vE 1)))) noO [some ⟨.shr,false,.int m⟩,some ⟨.shr,false,bZ s⟩]=.ok ⟨.tmp,g,.lst ((s.t.drop s.hs.length).map fun l=>.lst (li l))⟩:=⟨_,by rw[Fc];exact sl⟩
 obtain⟨f',e⟩:=aKo (k:=1) (fs:=[0]) (tg:=.nm 0) (b:=Mir.bIf (bT (neE (bG (vE 0) (vE 1)) (cE (.int 0)))) (vE 0)) (inj:=fun l=>D.lst (li l)) (out:=fun l=>D.lst (li l)) (c:=fun l:List Int=>!decide (l.getD m 0=0)) (xs:=s.t.drop s.hs.length) (lJ sl) (fun l hl=>by
  have ll:=C.row l (Ce hl);refine⟨[some ⟨.shr,g,.lst (li l)⟩,some ⟨.shr,false,.int m⟩],.shr,g||(D.lst (li l)).imm,rfl,?_,by decide⟩
  exact uC (eJ (kT (gK (k:=.shr) (fr:=g||(D.lst (li l)).imm) (ds:=li l) rfl (k':=.shr) (fr':=true) (i:=m) rfl (jS (by omega))) (k':=.shr) (fr':=true) (j:=0) rfl)) fun _=>rfl) (by rw[By,sizeLine_eq];omega)
 exact⟨_,(cO (np:=2) (n:=2) (s:=aO4) (ds:=[.int m,bZ s]) rfl (rC e)).trans rfl⟩
abbrev aEg (φq φb φl:Φ):FS :=
 (aJ (aF 3 (aL φq [vE 0,vE 1,vE 2]))
 (aJ (ifS (nG (aL φb [vE 0,vE 3]))
  (bI (cE .non))
  cI)
 (aJ (aF 4 (aFl (dF [cE (.int 0)]) (vE 0)))
 (aJ (dR (nN (jF 1 1 (vE 3)) (jF 1 2 (vE 3))) (.tp [.nm 5,.nm 6])
  (xZ 4 (vE 5) (bG (vE 6) (vE 0))))
 (bI (aL φl [jF 1 0 (vE 3),vE 4]))))))
abbrev qE7 (m:Int)(rows:List (List Int))(ends:List Int)(x3 x4 x5 x6:Option Res):Mir.Env:=[some ⟨.shr,false,.int m⟩,some ⟨.shr,false,.lst (lil rows)⟩,some ⟨.shr,false,.lst (li ends)⟩,x3,x4,x5,x6]
def qA (m:Nat)(ps:List (Nat×List Int))(acc:List Int):List Int:=ps.foldl (fun a p=>a.set p.1 (p.2.getD m 0)) acc
theorem pS {f:FE}{ρ:Mir.Env}{k:Kd}{fr:Bool}{ds:List D}(h:f ρ=.ok ⟨k,fr,.lst ds⟩):nG f ρ=.ok (!ds.isEmpty):=by simp only[nG,h,R.ok_bind,asS]
theorem vD {m:Nat}{rows:List (List Int)}{ends:List Int}{x3:Option Res}(g:Bool):∀ (ps:List (Nat×List Int)) (acc:List Int) (x5 x6:Option Res),acc.length=m->(∀ p∈ps,p.1<m/\m<p.2.length) ->
 ∃ y5 y6,fG (.tp [.nm 5,.nm 6]) (xZ 4 (vE 5) (bG (vE 6) (vE 0))) g (ps.map fun p=>.tup [.int (p.1:Nat),.lst (li p.2)]) (qE7 m rows ends x3 (some ⟨.own,true,.lst (li acc)⟩) x5 x6)=.nx (qE7 m rows ends x3 (some ⟨.own,true,.lst (li (qA m ps acc))⟩) y5 y6)
 | [],acc,x5,x6,_,_=>⟨x5,x6,rfl⟩
 | p :: ps,acc,x5,x6,hl,h=>by
  obtain⟨h1,h2⟩:=h p Ab;have bd:Tg.bind g (.tp [.nm 5,.nm 6]) (.tup [.int (p.1:Nat),.lst (li p.2)]) (qE7 m rows ends x3 (some ⟨.own,true,.lst (li acc)⟩) x5 x6)=.ok (qE7 m rows ends x3 (some ⟨.own,true,.lst (li acc)⟩) (some ⟨.shr,g,.int (p.1:Nat)⟩) (some ⟨.shr,g,.lst (li p.2)⟩)):=rfl;have v:bG (vE 6) (vE 0) (qE7 m rows ends x3 (some ⟨.own,true,.lst (li acc)⟩) (some ⟨.shr,g,.int (p.1:Nat)⟩) (some ⟨.shr,g,.lst (li p.2)⟩))=.ok ⟨.shr,true,.int (p.2.getD m 0)⟩:=gK (k:=.shr) (fr:=g||(D.lst (li p.2)).imm) (ds:=li p.2) rfl (k':=.shr) (fr':=true) (i:=m) rfl (jS h2)
  have ix:L2.ixN (li acc).length (p.1:Nat)=some p.1:=by
   unfold L2.ixN;rw[Ad,hl,if_pos (by omega),if_pos (by omega)]
   congr 1
  have e:xZ 4 (vE 5) (bG (vE 6) (vE 0)) (qE7 m rows ends x3 (some ⟨.own,true,.lst (li acc)⟩) (some ⟨.shr,g,.int (p.1:Nat)⟩) (some ⟨.shr,g,.lst (li p.2)⟩))=.nx (qE7 m rows ends x3 (some ⟨.own,true,.lst (li (acc.set p.1 (p.2.getD m 0)))⟩) (some ⟨.shr,g,.int (p.1:Nat)⟩) (some ⟨.shr,g,.lst (li p.2)⟩)):=by
   refine(aPh (i:=4) (j:=vE 5) (fr:=true) (ds:=li acc) (k':=.shr) (f':=g||true) (z:=(p.1:Nat)) v (by decide) rfl rfl ix).trans ?_
   rw[show li (acc.set p.1 (p.2.getD m 0))=(li acc).set p.1 (.int (p.2.getD m 0)) from List.map_set]
   rfl
  obtain⟨y5,y6,ih⟩:=vD (rows:=rows) (ends:=ends) (x3:=x3) g ps (acc.set p.1 (p.2.getD m 0)) (some ⟨.shr,g,.int (p.1:Nat)⟩) (some ⟨.shr,g,.lst (li p.2)⟩) (by rw[Cb];exact hl) fun q hq=>h q (Ac _ hq)
  exact⟨y5,y6,(kL bd e).trans ih⟩
theorem wY {M m:Nat}:∀ (ps:List (Nat×List Int)) (acc:List Int),BR M acc->(∀ p∈ps,(p.2.getD m 0).natAbs<2^M)->BR M (qA m ps acc)/\(qA m ps acc).length=acc.length
 | [],acc,h,_=>⟨h,rfl⟩
 | p :: ps,acc,h,hp=>by
  obtain⟨a,b⟩:=wY (m:=m) ps (acc.set p.1 (p.2.getD m 0)) (fun x hx=>(List.mem_or_eq_of_mem_set hx).elim (h x) fun e=>by rw[e];exact hp p Ab) fun q hq=>hp q (Ac _ hq)
  exact⟨a,by rw[Cb]at b;exact b⟩
section
variable {m N:Nat}{rows:List (List Int)}{ends:List Int}{φq φb φl φg:Φ}
def nF (φq:Φ):Prop:=∀ {m N:Nat} {rows:List (List Int)} {ends:List Int},Eqn m N rows ends->Cl rows.length (m+1+rows.length) m 6500 (bS (eqT rows ends) m)/\∃ fr,φq [.int m,.lst (lil rows),.lst (li ends)]=.ok ⟨.shr,fr,bZ (bS (eqT rows ends) m)⟩
def lP (φb:Φ):Prop:=∀ {m k L n M:Nat} {s:Cs},Cl k L n M s->m<L->k<=1000->∃ fr,φb [.int m,bZ s]=.ok ⟨.tmp,fr,.lst (lil (brd m s))⟩
theorem aD1 (hq:nF φq)(E:Eqn m N rows ends)(x4 x5 x6:Option Res):∃ g,aF 3 (aL φq [vE 0,vE 1,vE 2]) (qE7 m rows ends none x4 x5 x6)=.nx (qE7 m rows ends (some ⟨.shr,g,bZ (bS (eqT rows ends) m)⟩) x4 x5 x6):=by
 obtain⟨_,fr,e⟩:=hq E;obtain⟨f',c⟩:=sM (φ:=φq) (fs:=[vE 0,vE 1,vE 2]) (ρ:=qE7 m rows ends none x4 x5 x6) (rs:=[⟨.shr,true,.int m⟩,⟨.shr,false||(D.lst (lil rows)).imm,.lst (lil rows)⟩,⟨.shr,false||(D.lst (li ends)).imm,.lst (li ends)⟩]) (aG rfl (aG rfl (aG rfl bO))) e rfl;exact⟨f',set_shr c⟩
theorem yO (hq:nF φq)(hb:lP φb)(E:Eqn m N rows ends)(g:Bool)(x4 x5 x6:Option Res):∃ f,aL φb [vE 0,vE 3] (qE7 m rows ends (some ⟨.shr,g,bZ (bS (eqT rows ends) m)⟩) x4 x5 x6)=.ok ⟨.tmp,f,.lst (lil (brd m (bS (eqT rows ends) m)))⟩:=by
 obtain⟨C,_⟩:=hq E;have ln:=E.ln;obtain⟨fr,e⟩:=hb (m:=m) C (by omega) (by omega)
 exact sM (φ:=φb) (fs:=[vE 0,vE 3]) (rs:=[⟨.shr,true,.int m⟩,⟨.shr,g||(bZ (bS (eqT rows ends) m)).imm,bZ (bS (eqT rows ends) m)⟩]) (aG rfl (aG rfl bO)) e rfl
abbrev fH (m:Nat)(s:Cs):List Int:=qA m (s.hs.zip s.t) (Aw m 0)
theorem aRa (hq:nF φq)(hb:lP φb)(E:Eqn m N rows ends)(h:brd m (bS (eqT rows ends) m)≠[]):cJ 3 7 (aEg φq φb φl) [.int m,.lst (lil rows),.lst (li ends)]=.ok (sc .non):=by
 obtain⟨g,e1⟩:=aD1 hq E none none none;obtain⟨f,c⟩:=yO hq hb E g none none none;have t:=pS c;rw[show (lil (brd m (bS (eqT rows ends) m))).isEmpty=false by cases q:brd m (bS (eqT rows ends) m) with | nil=>exact absurd q h | cons=>rfl]at t
 have e2:ifS (nG (aL φb [vE 0,vE 3])) (bI (cE .non)) cI (qE7 m rows ends (some ⟨.shr,g,bZ (bS (eqT rows ends) m)⟩) none none none)=.rt (sc .non):=(fF t).trans rfl;exact(cO (np:=3) (n:=7) (s:=aEg φq φb φl) (ds:=[.int m,.lst (lil rows),.lst (li ends)]) rfl ((aB e1).trans (mY e2))).trans rfl
theorem aQ8 (hq:nF φq)(hb:lP φb)(hg:zA φg)(hl:φl=cJ 2 3 (aI0 φg))(E:Eqn m N rows ends)(h:brd m (bS (eqT rows ends) m)=[]):cJ 3 7 (aEg φq φb φl) [.int m,.lst (lil rows),.lst (li ends)] =
 .ok ⟨.shr,true,.tup [.int ((bS (eqT rows ends) m).b/(bV ((bS (eqT rows ends) m).b :: fH m (bS (eqT rows ends) m)):Nat)),.lst (li ((fH m (bS (eqT rows ends) m)).map (·/(bV ((bS (eqT rows ends) m).b :: fH m (bS (eqT rows ends) m)):Int))))]⟩:=by
 obtain⟨C,_⟩:=hq E;obtain⟨g,e1⟩:=aD1 hq E none none none;obtain⟨f,c⟩:=yO hq hb E g none none none;have ln:=E.ln;have m5:=E.m5;generalize bS (eqT rows ends) m=s at *
 have t:=pS c;rw[h]at t;have e2:ifS (nG (aL φb [vE 0,vE 3])) (bI (cE .non)) cI (qE7 m rows ends (some ⟨.shr,g,bZ s⟩) none none none)=.nx (qE7 m rows ends (some ⟨.shr,g,bZ s⟩) none none none):=(fF t).trans rfl
 have e3:aF 4 (aFl (dF [cE (.int 0)]) (vE 0)) (qE7 m rows ends (some ⟨.shr,g,bZ s⟩) none none none)=.nx (qE7 m rows ends (some ⟨.shr,g,bZ s⟩) (some ⟨.own,true,.lst (li (Aw m 0))⟩) none none):=by
  have:=aMw (f:=dF [cE (.int 0)]) (g:=vE 0) (ρ:=qE7 m rows ends (some ⟨.shr,g,bZ s⟩) none none none) (kd:=.tmp) (fr:=true) (ds:=[.int 0]) (kd':=.shr) (fr':=true) (k:=(m:Int)) rfl rfl ⟨by decide,by omega,by omega,by rw[sizeLine_eq];simp;omega⟩
  refine(cV this).trans ?_
  rw[show (Aw (m:Int).toNat [D.int 0]).flatten=li (Aw m 0) by simp[li]]
  rfl
 have zd:xD (hsD s.hs) (lil s.t)=(s.hs.zip s.t).map fun p=>.tup [.int (p.1:Nat),.lst (li p.2)]:=rT (fun (h:Nat)=>D.int (h:Int)) (fun r=>D.lst (li r)) s.hs s.t
 have zp:∀ p∈s.hs.zip s.t,p.1<m/\p.2∈s.t:=fun p hp=>by
  obtain⟨a,b⟩:=Di (a:=p.1) (b:=p.2) hp;exact⟨C.lt _ a,b⟩
 obtain⟨y5,y6,el⟩:=vD (m:=m) (rows:=rows) (ends:=ends) (x3:=some ⟨.shr,g,bZ s⟩) (((g||(bZ s).imm)||(D.lst (hsD s.hs)).imm)&&((g||(bZ s).imm)||(D.lst (lil s.t)).imm)) (s.hs.zip s.t) (Aw m 0) none none (Cy ..) fun p hp=>⟨(zp p hp).1,by rw[C.row _ (zp p hp).2];omega⟩
 have e4:dR (nN (jF 1 1 (vE 3)) (jF 1 2 (vE 3))) (.tp [.nm 5,.nm 6]) (xZ 4 (vE 5) (bG (vE 6) (vE 0))) (qE7 m rows ends (some ⟨.shr,g,bZ s⟩) (some ⟨.own,true,.lst (li (Aw m 0))⟩) none none)=.nx (qE7 m rows ends (some ⟨.shr,g,bZ s⟩) (some ⟨.own,true,.lst (li (fH m s))⟩) y5 y6):=by
  refine(gU (fr:=((g||(bZ s).imm)||(D.lst (hsD s.hs)).imm)&&((g||(bZ s).imm)||(D.lst (lil s.t)).imm)) (ds:=xD (hsD s.hs) (lil s.t)) rfl).trans ?_
  rw[zd];exact el
 have tb:=wY (M:=6500) (m:=m) (s.hs.zip s.t) (Aw m 0) (fun x hx=>by rw[(List.mem_replicate.mp hx).2];exact Nat.two_pow_pos _) fun p hp=>by
  have r:=(zp p hp).2;exact C.tn _ r _ (Mir.bJ (by rw[C.row _ r];omega))
 have f0:jF 1 0 (vE 3) (qE7 m rows ends (some ⟨.shr,g,bZ s⟩) (some ⟨.own,true,.lst (li (fH m s))⟩) y5 y6)=.ok ⟨.shr,(g||(bZ s).imm)||true,.int s.b⟩:=rfl;have lw:=aS9 (φ:=φg) hg (N:=6500) (by decide) (by decide) C.b0 C.bn tb.1 (by show (qA m _ _).length<=1000;rw[tb.2,Cy];omega)
 have e5:bI (aL φl [jF 1 0 (vE 3),vE 4]) (qE7 m rows ends (some ⟨.shr,g,bZ s⟩) (some ⟨.own,true,.lst (li (fH m s))⟩) y5 y6)=.rt ⟨.shr,true,.tup [.int (s.b/(bV (s.b :: fH m s):Nat)),.lst (li ((fH m s).map (·/(bV (s.b :: fH m s):Int))))]⟩:=by
  subst hl;exact fS (eG (rs:=[⟨.shr,(g||(bZ s).imm)||true,.int s.b⟩,⟨.own,true,.lst (li (fH m s))⟩]) (aG f0 (aG rfl bO)) lw)
 exact(cO (np:=3) (n:=7) (s:=aEg φq φb φl) (ds:=[.int m,.lst (lil rows),.lst (li ends)]) rfl ((aB e1).trans ((aB e2).trans ((aB e3).trans ((aB e4).trans e5))))).trans rfl
abbrev vV (φq φb φg:Φ):FS :=
 (aJ (aF 3 (aL φq [vE 0,vE 1,vE 2]))
 (aJ (aF 4 (aL φb [vE 0,vE 3]))
 (aJ (ifS (aCn (nG (vE 4)))
  (bI (cE .non))
  cI)
 (aJ (aF 5 (eI (bG (vE 4) (cE (.int 0))) (soO (cR (vE 0) (cE (.int 1)))) (noO)))
 (aJ (aF 6 (aL φg [vE 5]))
 (bI (aW (cN (vE 5)) 1 [6] (.nm 0) (bE (kI (vE 0) (vE 1))))))))))
theorem aR3 (hq:nF φq)(hb:lP φb)(E:Eqn m N rows ends)(h:brd m (bS (eqT rows ends) m)=[]):cJ 3 7 (vV φq φb φg) [.int m,.lst (lil rows),.lst (li ends)]=.ok (sc .non):=by
 obtain⟨g,e1⟩:=aD1 hq E none none none;obtain⟨f,c⟩:=yO hq hb E g none none none;rw[h]at c;have e2:aF 4 (aL φb [vE 0,vE 3]) (qE7 m rows ends (some ⟨.shr,g,bZ (bS (eqT rows ends) m)⟩) none none none)=.nx (qE7 m rows ends (some ⟨.shr,g,bZ (bS (eqT rows ends) m)⟩) (some ⟨.own,f,.lst (lil [])⟩) none none):=cV c;have v4:vE 4 (qE7 m rows ends (some ⟨.shr,g,bZ (bS (eqT rows ends) m)⟩) (some ⟨.own,f,.lst (lil [])⟩) none none)=.ok ⟨.own,f||(D.lst (lil [])).imm,.lst (lil [])⟩:=rfl;have e3:ifS (aCn (nG (vE 4))) (bI (cE .non)) cI (qE7 m rows ends (some ⟨.shr,g,bZ (bS (eqT rows ends) m)⟩) (some ⟨.own,f,.lst (lil [])⟩) none none)=.rt (sc .non):=(fF (aDg (pS v4))).trans rfl
 exact(cO (np:=3) (n:=7) (s:=vV φq φb φg) (ds:=[.int m,.lst (lil rows),.lst (li ends)]) rfl ((aB e1).trans ((aB e2).trans (mY e3)))).trans rfl
theorem aQg (hq:nF φq)(hb:lP φb)(hg:zA φg)(E:Eqn m N rows ends){l:List Int}{r:List (List Int)}(h:brd m (bS (eqT rows ends) m)=l :: r):cJ 3 7 (vV φq φb φg) [.int m,.lst (lil rows),.lst (li ends)] =
 .ok ⟨.tmp,true,.lst (li ((l.drop (m+1)).map (·/(bV (l.drop (m+1)):Int))))⟩:=by
 obtain⟨C,_⟩:=hq E;obtain⟨g,e1⟩:=aD1 hq E none none none;obtain⟨f,c⟩:=yO hq hb E g none none none;have ln:=E.ln;have m5:=E.m5;have lm:l∈(bS (eqT rows ends) m).t.drop (bS (eqT rows ends) m).hs.length:=(Ck.mp (show l∈brd m (bS (eqT rows ends) m) by rw[h];exact Ab)).1
 have mk:=aAs E lm;have lt:=Ce lm;have ll:=C.row l lt;have br:BR 6500 (l.drop (m+1)):=fun x hx=>C.tn l lt x (Ce hx);have gp:=kQ mk (by have:=C.b0;omega)
 have gb:=C.bn;generalize bS (eqT rows ends) m=s at *
 rw[h]at c;have e2:aF 4 (aL φb [vE 0,vE 3]) (qE7 m rows ends (some ⟨.shr,g,bZ s⟩) none none none)=.nx (qE7 m rows ends (some ⟨.shr,g,bZ s⟩) (some ⟨.own,f,.lst (lil (l :: r))⟩) none none):=cV c;have v4:∀ x5 x6,vE 4 (qE7 m rows ends (some ⟨.shr,g,bZ s⟩) (some ⟨.own,f,.lst (lil (l :: r))⟩) x5 x6)=.ok ⟨.own,f||(D.lst (lil (l :: r))).imm,.lst (lil (l :: r))⟩:=fun _ _=>rfl;have e3:ifS (aCn (nG (vE 4))) (bI (cE .non)) cI (qE7 m rows ends (some ⟨.shr,g,bZ s⟩) (some ⟨.own,f,.lst (lil (l :: r))⟩) none none)=.nx (qE7 m rows ends (some ⟨.shr,g,bZ s⟩) (some ⟨.own,f,.lst (lil (l :: r))⟩) none none):=(fF (aDg (pS (v4 none none)))).trans rfl
 have i0:=iA (g:=cE (.int 0)) (i:=0) (d:=.lst (li l)) (v4 none none) (k':=.shr) (fr':=true) rfl rfl;have a1:cR (vE 0) (cE (.int 1)) (qE7 m rows ends (some ⟨.shr,g,bZ s⟩) (some ⟨.own,f,.lst (lil (l :: r))⟩) none none)=.ok (sc (.int ((m:Int)+1))):=bM (C:=C0) (G:=fun i j=>i+j) (k:=.shr) (fr:=true) (i:=(m:Int)) (k':=.shr) (fr':=true) (j:=1) rfl rfl rfl;have sl:=jU (lo:=soO (cR (vE 0) (cE (.int 1)))) (hi:=noO) i0 (mH a1) (b:=none) rfl;rw[show ((m:Int)+1)=((m+1:Nat):Int) by omega,aD6,show (li l).drop (m+1)=li (l.drop (m+1)) from Fc.symm]at sl
 obtain⟨f5,sl⟩:∃ f5,eI (bG (vE 4) (cE (.int 0))) (soO (cR (vE 0) (cE (.int 1)))) noO (qE7 m rows ends (some ⟨.shr,g,bZ s⟩) (some ⟨.own,f,.lst (lil (l :: r))⟩) none none)=.ok ⟨.tmp,f5,.lst (li (l.drop (m+1)))⟩:=⟨_,sl⟩;have e4:aF 5 (eI (bG (vE 4) (cE (.int 0))) (soO (cR (vE 0) (cE (.int 1)))) (noO)) (qE7 m rows ends (some ⟨.shr,g,bZ s⟩) (some ⟨.own,f,.lst (lil (l :: r))⟩) none none)=.nx (qE7 m rows ends (some ⟨.shr,g,bZ s⟩) (some ⟨.own,f,.lst (lil (l :: r))⟩) (some ⟨.own,f5,.lst (li (l.drop (m+1)))⟩) none):=cV sl;have e5:aF 6 (aL φg [vE 5]) (qE7 m rows ends (some ⟨.shr,g,bZ s⟩) (some ⟨.own,f,.lst (lil (l :: r))⟩) (some ⟨.own,f5,.lst (li (l.drop (m+1)))⟩) none)=.nx (qE7 m rows ends (some ⟨.shr,g,bZ s⟩) (some ⟨.own,f,.lst (lil (l :: r))⟩) (some ⟨.own,f5,.lst (li (l.drop (m+1)))⟩) (nR (bV (l.drop (m+1)):Nat))):=set_shr (eG (rs:=[⟨.own,f5||(D.lst (li (l.drop (m+1)))).imm,.lst (li (l.drop (m+1)))⟩]) (aG rfl bO) (hg (N:=6500) (by decide) br))
 have e6:=fP (it:=cN (vE 5)) (ρ:=qE7 m rows ends (some ⟨.shr,g,bZ s⟩) (some ⟨.own,f,.lst (lil (l :: r))⟩) (some ⟨.own,f5,.lst (li (l.drop (m+1)))⟩) (nR (bV (l.drop (m+1)):Nat))) (k:=1) (fs:=[6]) (tg:=.nm 0) (b:=bE (kI (vE 0) (vE 1))) (inj:=D.int) (out:=fun x=>.int (x/(bV (l.drop (m+1)):Nat))) (xs:=l.drop (m+1)) (lJ (k:=.own) (fr:=f5||(D.lst (li (l.drop (m+1)))).imm) (ds:=li (l.drop (m+1))) rfl)
  (fun x hx=>⟨[some ⟨.shr,f5||(D.lst (li (l.drop (m+1)))).imm,.int x⟩,nR (bV (l.drop (m+1)):Nat)],.shr,rfl,iM (bM (C:=CD) (G:=fun i j=>i/j) (k:=.shr) (i:=x) (k':=.shr) (fr':=true) (j:=(bV (l.drop (m+1)):Nat)) rfl rfl (aQo (by omega) (N:=6500) (by omega) (by decide) (by decide))),by decide⟩) (by rw[By,ll,sizeLine_eq];omega)
 have e7:bI (aW (cN (vE 5)) 1 [6] (.nm 0) (bE (kI (vE 0) (vE 1)))) (qE7 m rows ends (some ⟨.shr,g,bZ s⟩) (some ⟨.own,f,.lst (lil (l :: r))⟩) (some ⟨.own,f5,.lst (li (l.drop (m+1)))⟩) (nR (bV (l.drop (m+1)):Nat)))=.rt ⟨.tmp,true,.lst (li ((l.drop (m+1)).map (·/(bV (l.drop (m+1)):Int))))⟩:=by
  rw[show li ((l.drop (m+1)).map (·/(bV (l.drop (m+1)):Int)))=(l.drop (m+1)).map fun x=>.int (x/(bV (l.drop (m+1)):Nat)) by simp[li,Function.comp_def]]
  exact rC e6
 exact(cO (np:=3) (n:=7) (s:=vV φq φb φg) (ds:=[.int m,.lst (lil rows),.lst (li ends)]) rfl ((aB e1).trans ((aB e2).trans ((aB e3).trans ((aB e4).trans ((aB e5).trans e7)))))).trans rfl
end
end Hm
namespace Be
open PySem L2 Mir Sm Hm
def Rl (ρ:Nat->Nat->Int)(m n:Nat)(v:Nat->Int):Prop:=∀ j,j<=m->v j=su n fun i=>v (m+1+i)*ρ i j
section
variable {ρ:Nat->Nat->Int}{m n:Nat}
theorem Rl.sum {k:Nat}{c:Nat->Int}{o:Nat->Nat->Int}(h:∀ a,a<k->Rl ρ m n (o a)):Rl ρ m n fun j=>su k fun a=>c a*o a j:=fun j hj=>by
 show su k (fun a=>c a*o a j)=su n fun i=>su k (fun a=>c a*o a (m+1+i))*ρ i j
 refine(aQ (g:=fun a=>su n fun i=>c a*o a (m+1+i)*ρ i j) fun a ha=>?_).trans ((rE _ _ _).trans (aQ fun i _=>?_))
 · rw[h a ha j hj,cP]
   exact aQ fun i _=>(Bi ..).symm
 · rw[Bg (su k _),cP]
   exact aQ fun a _=>by ac_rfl
theorem Rl.dif {x:Int}{u v:Nat->Int}(hu:Rl ρ m n u)(hv:Rl ρ m n v):Rl ρ m n fun j=>x*u j-v j:=fun j hj=>by
 show x*u j-v j=su n fun i=>(x*u (m+1+i)-v (m+1+i))*ρ i j
 have a:=cP x (fun i=>u (m+1+i)*ρ i j) n;have b:=cP (-1) (fun i=>v (m+1+i)*ρ i j) n;have c:=lC (fun i=>x*(u (m+1+i)*ρ i j)) (fun i=>-1*(v (m+1+i)*ρ i j)) n;have d:su n (fun i=>(x*u (m+1+i)-v (m+1+i))*ρ i j)=su n fun i=>x*(u (m+1+i)*ρ i j)+-1*(v (m+1+i)*ρ i j):=aQ fun i _=>by rw[Fg,Bi];omega
 rw[d,←c,←a,←b,←hu j hj,←hv j hj];omega
theorem Rl.neg {v:Nat->Int}(hv:Rl ρ m n v):Rl ρ m n fun j=>- v j:=fun j hj=>by
 show-v j=su n fun i=>- v (m+1+i)*ρ i j
 have b:=cP (-1) (fun i=>v (m+1+i)*ρ i j) n;have d:su n (fun i=>- v (m+1+i)*ρ i j)=su n fun i=>-1*(v (m+1+i)*ρ i j):=aQ fun i _=>by rw[Em];omega
 rw[d,←b,←hv j hj];omega
theorem Rl.congr {u v:Nat->Int}(h:∀ j,u j=v j)(hv:Rl ρ m n v):Rl ρ m n u:=by
 have:u=v:=funext h
 rw[this];exact hv
end
theorem aSk {L m n:Nat}{t0:List (List Int)}{s:Cs}{PA PB:List Pr}(Z:Bz L t0 s PA PB){ρ:Nat->Nat->Int}(h0:∀ r∈t0,Rl ρ m n fun j=>r.getD j 0):∀ l∈s.t,Rl ρ m n fun j=>l.getD j 0:=by
 obtain⟨c,tp⟩:=Z.tp;have ln:=Z.len;have oR:∀ a,a<s.hs.length->Rl ρ m n (oA PA a):=fun a ha=>h0 _ (Z.mem _ (Dl _ (Mir.bJ (by omega)))).1
 have lR:∀ t,t<s.hs.length->Rl ρ m n (lA PA t):=fun t ht=>Rl.congr (tp t ht) (Rl.sum oR);intro l hl;rw[Z.eq]at hl;rcases Av.mp hl with q | q
 · obtain⟨p,hp,rfl⟩:=Ah.mp q
   obtain⟨i,hi,rfl⟩:=Co.mp hp;refine Rl.congr (fun j=>?_) (lR i (by omega))
   have e:PA.getD i ([],[])=PA[i]:=by rw[Aa,Ae hi];rfl
   show PA[i].1.getD j 0=((PA.getD i ([],[])).1).getD j 0
   rw[e]
 · obtain⟨p,hp,rfl⟩:=Ah.mp q
   exact Rl.congr (Z.ot p hp) (Rl.dif (h0 _ (Z.mem p (Az _ hp)).1) (Rl.sum lR))
section
variable {m N:Nat}{rows:List (List Int)}{ends:List Int}
abbrev eqA (rows:List (List Int))(ends:List Int)(i j:Nat):Int:=((eqT rows ends).getD i []).getD j 0
theorem aL4 (E:Eqn m N rows ends):∀ r∈eqT rows ends,Rl (eqA rows ends) m rows.length fun j=>r.getD j 0:=fun r hr j hj=>by
 obtain⟨p,hp,rfl⟩:=Co.mp hr;have el:=(mZ E).1;have e:(eqT rows ends).getD p []=(eqT rows ends)[p]:=by rw[Aa,Ae hp];rfl
 show (eqT rows ends)[p].getD j 0=su rows.length fun i=>(eqT rows ends)[p].getD (m+1+i) 0*eqA rows ends i j
 rw[aQ (g:=fun i=>if i=p then eqA rows ends i j else 0) fun i hi=>by
  rw[oH E (Ae hp) hi]
  split<;>simp,xE (fun i=>eqA rows ends i j) (by omega)]
 show _=((eqT rows ends).getD p []).getD j 0
 rw[e]
structure Fin (m:Nat)(rows:List (List Int))(ends:List Int)(s:Cs):Prop where
 rel:∀ l∈s.t,Rl (eqA rows ends) m rows.length fun j=>l.getD j 0
 zr:Zr m s
 up:Up m s
 hd:∀ t,t<s.hs.length->∀ u,u<s.hs.length->(s.t.getD t []).getD (s.hs.getD u 0) 0=if t=u then s.b else 0
theorem aHd (E:Eqn m N rows ends):Fin m rows ends (bS (eqT rows ends) m):=by
 obtain⟨t1,t2,t3⟩:=mZ E;obtain⟨⟨PA,PB,Z⟩,zr,up⟩:=aLn (n:=m) t2 (by omega) E.m5 E.n0 t3
 have rel:=aSk Z (aL4 E);have ln:=Z.len
 have hd:∀ t,t<(clr (eqT rows ends) m).hs.length->∀ u,u<(clr (eqT rows ends) m).hs.length->((clr (eqT rows ends) m).t.getD t []).getD ((clr (eqT rows ends) m).hs.getD u 0) 0=if t=u then (clr (eqT rows ends) m).b else 0:=fun t ht u hu=>by
  rw[←Z.hd t ht u hu];show _=((PA.getD t ([],[])).1).getD _ 0
  congr 1
  rw[Z.eq,Aa,Bm (by rw[Ad];omega),Ao,Aa,Ae (by omega)]
  rfl
 unfold bS;split
 · rename_i z
   have ng:∀ (l:List Int) (j:Nat),(l.map fun x=>-x).getD j 0=- l.getD j 0:=fun l j=>by
    simp only[Aa,Ao];cases l[j]?<;>rfl
   refine⟨fun l hl=>?_,fun l hl j hj=>?_,up,fun t ht u hu=>?_⟩
   · obtain⟨q,hq,rfl⟩:=yF hl
     exact Rl.congr (ng q) (rel q hq).neg
   · have hl':l∈(sY (clr (eqT rows ends) m).t).drop (clr (eqT rows ends) m).hs.length:=hl
     simp only[sY,←Fc]at hl';obtain⟨q,hq,rfl⟩:=Ah.mp hl';rw[ng,zr q hq j hj];rfl
   · have ht':t<(clr (eqT rows ends) m).t.length:=by rw[Z.eq,Ak,Ad];have:t<(clr (eqT rows ends) m).hs.length:=ht;omega
     show ((sY (clr (eqT rows ends) m).t).getD t []).getD ((clr (eqT rows ends) m).hs.getD u 0) 0=if t=u then -(clr (eqT rows ends) m).b else 0
     rw[show (sY (clr (eqT rows ends) m).t).getD t []=((clr (eqT rows ends) m).t.getD t []).map fun x=>-x from oU ht',ng,hd t ht u hu]
     split<;>simp
 · exact⟨rel,zr,up,hd⟩
end
theorem aAc:∀ (l:List Nat) (k:Nat),l.Pairwise (·<·)->(∀ x∈l,k<=x/\x<k+l.length)->l=Bo k l.length
 | [],_,_,_=>rfl
 | x :: l,k,h,hb=>by
  obtain⟨h1,h2⟩:=Eu.mp h;have hx:=hb x Ab;rw[Al]at hx
  have xk:x=k:=by
   have:l.length<=k+l.length-x:=by
    have nd:(l.map fun y=>y-x-1).Nodup:=by
     rw[List.nodup_iff_pairwise_ne,Cj];refine(Ii.mp h2).imp fun {a b} ⟨ha,hb',hab⟩=>?_
     have:=h1 a ha
     have:=h1 b hb'
     omega
    have sb:∀ y∈l.map fun y=>y-x-1,y<k+l.length-x:=fun y hy=>by
     obtain⟨z,hz,rfl⟩:=Ah.mp hy;have:=h1 z hz
     have:=(hb z (Ac _ hz)).2
     rw[Al]at this;omega
    have:=(Fk.mp nd)
    have:=List.Nodup.length_le_of_subset nd (l₂:=Af (k+l.length-x)) fun y hy=>Bp.mpr (sb y hy)
    rw[Ad,Cq]at this;exact this
   omega
  subst xk;rw[Al,Dj];congr 1
  refine aAc l (x+1) h2 fun y hy=>⟨h1 y hy,?_⟩
  have:=(hb y (Ac _ hy)).2
  rw[Al]at this;omega
section
variable {m N:Nat}{rows:List (List Int)}{ends:List Int}
abbrev fR (rows:List (List Int))(i u:Nat):Int:=(rows.getD i []).getD u 0
theorem aEb (E:Eqn m N rows ends){i:Nat}(hi:i<rows.length){u:Nat}(hu:u<m):eqA rows ends i u=fR rows i u:=by
 have el:=(mZ E).1;have h:(eqT rows ends)[i]?=some ((eqT rows ends).getD i []):=by rw[Aa,Ae (by omega)];rfl
 obtain⟨a,e,w,h1,_,_,q⟩:=yW _ _ _ _ _ h;have la:a.length=m:=E.sz a (Ea h1);show ((eqT rows ends).getD i []).getD u 0=(rows.getD i []).getD u 0
 rw[q,Aa,Bn,Bm (by omega),Aa (l:=rows),h1]
 rw[←Aa];rfl
theorem aNn (E:Eqn m N rows ends){i:Nat}(hi:i<rows.length):eqA rows ends i m=ends.getD i 0:=by
 have el:=(mZ E).1;have h:(eqT rows ends)[i]?=some ((eqT rows ends).getD i []):=by rw[Aa,Ae (by omega)];rfl
 obtain⟨a,e,w,h1,h2,_,q⟩:=yW _ _ _ _ _ h;have la:a.length=m:=E.sz a (Ea h1);show ((eqT rows ends).getD i []).getD m 0=ends.getD i 0
 rw[q,Aa,Bn,Au (by omega),Aa,h2,la,Ia]
 rfl
theorem aGj (E:Eqn m N rows ends)(hm:rows.length=m)(h0:aT m (fR rows)≠0)(C:Cl rows.length (m+1+rows.length) m 6500 (bS (eqT rows ends) m)):(bS (eqT rows ends) m).hs=Af m:=by
 have F:=aHd E;have mk:=fun l=>aAs (l:=l) E;have m5:=E.m5;generalize hs:bS (eqT rows ends) m=s at *
 have aGj:s.hs.length=m:=by
  by_cases z:s.hs.length=m
  · exact z
  · exfalso
    have hl:s.hs.length<s.t.length:=by have:=C.hm;rw[C.len];omega
    have lm:s.t[s.hs.length]∈s.t.drop s.hs.length:=Co.mpr ⟨0,by rw[By];omega,by rw[Hk];rfl⟩
    have lt:=Ce lm
    have q:=aK5 (n:=m) m5 (fR rows) h0 (γ:=fun i=>(s.t[s.hs.length]).getD (m+1+i) 0) fun u hu=>by
     have r:(s.t[s.hs.length]).getD u 0=su rows.length fun i=>(s.t[s.hs.length]).getD (m+1+i) 0*eqA rows ends i u:=F.rel _ lt u (by omega)
     rw[F.zr _ lm u hu,hm]at r;refine Eq.trans (aQ fun i hi=>?_) r.symm
     rw[aEb E (by omega) hu]
    obtain⟨j,hj,e⟩:=Co.mp (mk _ lm);rw[By,C.row _ lt]at hj;rw[Hk]at e
    have v:(s.t[s.hs.length]).getD (m+1+j) 0=s.b:=by
     rw[Aa,Ae (by rw[C.row _ lt];omega)]
     exact e
    have w:=q j (by omega)
    have b0:=C.b0;rw[v]at w;omega
 have:=aAc s.hs 0 F.up.1 fun x hx=>⟨Cc _,by rw[aGj,Dw];exact F.up.2 x hx⟩
 rw[aGj]at this;rw[this,Cr]
def fC (rows:List (List Int))(ends:List Int)(w i u:Nat):Int:=if u=w then ends.getD i 0 else fR rows i u
theorem aQz (E:Eqn m N rows ends)(hm:rows.length=m)(h0:aT m (fR rows)≠0)(C:Cl rows.length (m+1+rows.length) m 6500 (bS (eqT rows ends) m)){w:Nat}(hw:w<m) :
 aT m (fR rows)*((bS (eqT rows ends) m).t.getD w []).getD m 0=(bS (eqT rows ends) m).b*aT m (fC rows ends w):=by
 have F:=aHd E;have hs:=aGj E hm h0 C;have m5:=E.m5;generalize bS (eqT rows ends) m=s at *
 have sl:s.hs.length=m:=by rw[hs,Cq]
 have lm:s.t.getD w []∈s.t:=Mir.bJ (by rw[C.len];omega)
 have rel:∀ j,j<=m->(s.t.getD w []).getD j 0=su rows.length fun i=>(s.t.getD w []).getD (m+1+i) 0*eqA rows ends i j:=F.rel _ lm
 have hd:∀ u,u<m->(s.t.getD w []).getD u 0=if w=u then s.b else 0:=fun u hu=>by
  have:=F.hd w (by omega) u (by omega)
  rw[hs,show (Af m).getD u 0=u by simp[Aa,hu]]at this
  exact this
 obtain⟨n,rfl⟩:∃ n,m=n+1:=⟨m-1,by omega⟩
 have q:=aK5 (n:=n+1) m5 (fR rows) h0 (γ:=fun i=>aT (n+1) (fR rows)*(s.t.getD w []).getD (n+1+1+i) 0-s.b*adj n (fR rows) w i) fun u hu=>by
  have r1:=rel u (by omega)
  rw[hd u hu,hm,aQ (g:=fun i=>(s.t.getD w []).getD (n+1+1+i) 0*fR rows i u) fun i hi=>by rw[aEb E (by omega) hu]]at r1
  have r2:=aKh (n:=n) (by omega) (fR rows) hw hu
  have a:=cP (aT (n+1) (fR rows)) (fun i=>(s.t.getD w []).getD (n+1+1+i) 0*fR rows i u) (n+1);have b:=cP (- s.b) (fun i=>adj n (fR rows) w i*fR rows i u) (n+1);have c:=lC (fun i=>aT (n+1) (fR rows)*((s.t.getD w []).getD (n+1+1+i) 0*fR rows i u)) (fun i=>- s.b*(adj n (fR rows) w i*fR rows i u)) (n+1);rw[←a,←b,←r1,r2]at c;rw[aQ (g:=fun i=>aT (n+1) (fR rows)*((s.t.getD w []).getD (n+1+1+i) 0*fR rows i u)+- s.b*(adj n (fR rows) w i*fR rows i u)) fun i _=>by rw[Fg,Bi,Bi,Em];omega,←c]
  split
  · rw[Em,Bg s.b];omega
  · omega
 have e1:=rel (n+1) (Am _);rw[hm,aQ (g:=fun i=>(s.t.getD w []).getD (n+1+1+i) 0*ends.getD i 0) fun i hi=>by rw[aNn E (by omega)]]at e1
 rw[e1,cP];have e2:=aKh (n:=n) (by omega) (fC rows ends w) hw hw
 rw[if_pos rfl]at e2;rw[←e2,cP];refine aQ fun i hi=>?_
 have g:=q i hi
 have ad:adj n (fC rows ends w) w i=adj n (fR rows) w i:=by
  unfold adj;congr 1
  exact eS fun a b _ _=>by unfold fC;rw[if_neg (by unfold sk;split<;>omega)]
 rw[ad,show fC rows ends w i w=ends.getD i 0 from if_pos rfl,←Bi,←Bi]
 congr 1
 omega
end
end Be
namespace Be
open PySem L2 Mir Sm Hm
theorem wM (c:Int):∀ (xs:List Int) (g:Nat),(xs.map (c*·)).foldl (fun g x=>Ee g x.natAbs) (c.natAbs*g)=c.natAbs*xs.foldl (fun g x=>Ee g x.natAbs) g
 | [],g=>rfl
 | x :: xs,g=>by
  rw[Ai,Dd,Dd,Fj,Nat.gcd_mul_left];exact wM c xs _
theorem tX (c:Int)(xs:List Int):bV (xs.map (c*·))=c.natAbs*bV xs:=wM c xs 0
theorem aFt {b D by':Int}{g:Nat}{τ δ:List Int}(hb:0<b)(hg:0<g)(gb:(g:Int) ∣ b)(gt:∀ x∈τ,(g:Int) ∣ x)(y0:by'≠0)(yD:by' ∣ D)(yd:∀ x∈δ,by' ∣ x)(D0:D≠0)(e:D*g=b*by')(hl:τ.length=δ.length)(h:∀ w,w<τ.length->D*τ.getD w 0=b*δ.getD w 0) :
 b/g=D.fdiv by'/\τ.map (·/(g:Int))=δ.map fun x=>x.fdiv by':=by
 obtain⟨b',rfl⟩:=gb;obtain⟨D1,rfl⟩:=yD;have g0:(g:Int)≠0:=by omega
 have q:D1=b':=by
  have e':(by'*g)*D1=(by'*g)*b':=by
   have a1:by'*D1*g=(by'*g)*D1:=by ac_rfl
   have a2:g*b'*by'=(by'*g)*b':=by ac_rfl
   rw[←a1,←a2];exact e
  exact Int.eq_of_mul_eq_mul_left (Ig y0 g0) e'
 subst q;have fd:∀ z:Int,(by'*z).fdiv by'=z:=fun z=>by rw[Bg];exact iH z by' y0
 have ed:∀ z:Int,((g:Int)*z)/(g:Int)=z:=fun z=>Int.mul_ediv_cancel_left z g0;refine⟨by rw[fd,ed],List.ext_getElem? fun w=>?_⟩
 rw[Ao,Ao];by_cases hw:w<τ.length
 · have hw':w<δ.length:=by omega
   rw[Ae hw,Ae hw'];obtain⟨t,ht⟩:=gt _ (Eg hw);obtain⟨s,hs⟩:=yd _ (Eg hw');have r:=h w hw;rw[Aa,Ae hw,Aa,Ae hw']at r;have r':by'*D1*τ[w]=g*D1*δ[w]:=r
   rw[ht,hs]at r';have D1':D1≠0:=fun z=>D0 (by rw[z,Eo])
   have ts:t=s:=by
    have a1:by'*D1*(g*t)=(by'*D1*g)*t:=by ac_rfl
    have a2:g*D1*(by'*s)=(by'*D1*g)*s:=by ac_rfl
    rw[a1,a2]at r';exact Int.eq_of_mul_eq_mul_left (Ig (Ig y0 D1') g0) r'
   show some (τ[w]/(g:Int))=some (δ[w].fdiv by')
   rw[ht,hs,ed,fd,ts]
 · rw[Bk (by omega),Bk (by omega)];rfl
theorem aBz {b D:Int}{τ δ:List Int}(hb:0<b)(D0:D≠0)(hl:τ.length=δ.length)(h:∀ w,w<τ.length->D*τ.getD w 0=b*δ.getD w 0) :
 b/(bV (b :: τ):Nat)=D.fdiv (if D<0 then -(bV (D :: δ):Int) else (bV (D :: δ):Int))/\τ.map (·/(bV (b :: τ):Int))=δ.map fun x=>x.fdiv (if D<0 then -(bV (D :: δ):Int) else (bV (D :: δ):Int)):=by
 have g1:=kQ (xs:=b :: τ) Ab (by omega)
 have g2:=kQ (xs:=D :: δ) Ab D0
 have sc:(b :: τ).map (D*·)=(D :: δ).map (b*·):=by
  rw[Ai,Ai,Bg D b];congr 1
  refine List.ext_getElem? fun w=>?_
  rw[Ao,Ao];by_cases hw:w<τ.length
  · have r:=h w hw
    rw[Aa,Ae hw,Aa,Ae (by omega)]at r
    rw[Ae hw,Ae (show w<δ.length by omega)]
    exact congrArg some r
  · rw[Bk (by omega),Bk (by omega)];rfl
 have e:=congrArg bV sc;rw[tX,tX]at e
 have e':(D.natAbs:Int)*(bV (b :: τ):Int)=b*(bV (D :: δ):Int):=by
  have:((D.natAbs*bV (b :: τ):Nat):Int)=((b.natAbs*bV (D :: δ):Nat):Int):=by rw[e]
  rw[Gq,Gq,show (b.natAbs:Int)=b by omega]at this
  exact this
 have dv:∀ x∈D :: δ,(if D<0 then -(bV (D :: δ):Int) else (bV (D :: δ):Int)) ∣ x:=fun x hx=>by
  split
  · exact Int.neg_dvd.mpr (oX hx)
  · exact oX hx
 refine aFt hb g1.1 (oX Ab) (fun x hx=>oX (Ac _ hx)) (by split<;>omega) (dv D Ab) (fun x hx=>dv x (Ac _ hx)) D0 ?_ hl h
 split
 · rename_i z
   rw[show (D.natAbs:Int)=-D by omega,Em]at e'
   rw[Int.mul_neg];omega
 · rename_i z
   rw[show (D.natAbs:Int)=D by omega]at e'
   exact e'
theorem aDc (a:Int){b:Int}(h:b≠0):(a.fmod b).natAbs<b.natAbs:=by
 have e:=Int.fmod_eq_emod (a:=a) (b:=b);have h0:=Ih a h;have h1:a%b<(b.natAbs:Int):=by first | exact Int.emod_lt a h | exact Int.emod_lt_natAbs a h | (rcases Int.lt_or_lt_of_ne h with q | q;{ have:=Fw a (show 0 < -b by omega);rw[Int.emod_neg]at this;omega };{ have:=Fw a q;omega })
 have h2:b ∣ a↔a%b=0:=Int.dvd_iff_emod_eq_zero ..;rw[e];split
 · omega
 · rename_i z
   have z1:¬ 0<=b:=fun q=>z (.inl q);have z2:¬ (a%b=0):=fun q=>z (.inr (h2.mpr q));omega
theorem aJ9 (a b:Int):Ee b.natAbs (a.fmod b).natAbs=Ee a.natAbs b.natAbs:=by
 have e:a.fmod b=a-b*a.fdiv b:=Int.fmod_def a b;have d1:∀ d:Nat,(d:Int) ∣ a->(d:Int) ∣ b->(d:Int) ∣ a.fmod b:=fun d h1 h2=>by rw[e];exact Int.dvd_sub h1 (Int.dvd_mul_of_dvd_left h2)
 have d2:∀ d:Nat,(d:Int) ∣ a.fmod b->(d:Int) ∣ b->(d:Int) ∣ a:=fun d h1 h2=>by
  have:a=a.fmod b+b*a.fdiv b:=by rw[e];omega
  rw[this];exact Int.dvd_add h1 (Int.dvd_mul_of_dvd_left h2)
 refine Nat.dvd_antisymm (Nat.dvd_gcd ?_ (Gh _ _)) (Nat.dvd_gcd (Fz _ _) ?_)
 · exact Du.mp (d2 _ (Du.mpr (Fz _ _)) (Du.mpr (Gh _ _)))
 · exact Du.mp (d1 _ (Du.mpr (Gh _ _)) (Du.mpr (Fz _ _)))
abbrev aOe:FS:=(aJ (aB1 (bT (neE (vE 1) (cE (.int 0)))) (aB4 0 1 (vE 1) (sJ (vE 0) (vE 1)))) (bI (sU (vE 0))))
theorem aEz:∀ (n f:Nat) (a b:Int) (x0 x1:Bool),b.natAbs<=n->n+1<=f->∃ (c:Int) (y0 y1:Bool),c.natAbs=Ee a.natAbs b.natAbs/\mU (bT (neE (vE 1) (cE (.int 0)))) (aB4 0 1 (vE 1) (sJ (vE 0) (vE 1))) f [some ⟨.shr,x0,.int a⟩,some ⟨.shr,x1,.int b⟩]=.nx [some ⟨.shr,y0,.int c⟩,some ⟨.shr,y1,.int 0⟩]
 | _,0,_,_,_,_,_,hf=>absurd hf (by omega)
 | n,f+1,a,b,x0,x1,hb,hf=>by
  have t:bT (neE (vE 1) (cE (.int 0))) [some ⟨.shr,x0,.int a⟩,some ⟨.shr,x1,.int b⟩]=.ok (!decide (b=0)):=eJ (kT (k:=.shr) (fr:=x1||true) (i:=b) (k':=.shr) (fr':=true) (j:=0) rfl rfl);by_cases z:b=0
  · subst z
    refine⟨a,x0,x1,by simp,?_⟩
    simp only[mU,t,R.at];rfl
  · rw[decide_eq_false z]at t
    have m:sJ (vE 0) (vE 1) [some ⟨.shr,x0,.int a⟩,some ⟨.shr,x1,.int b⟩]=.ok (sc (.int (a.fmod b))):=bM (C:=CN) (G:=fun i j=>i.fmod j) (k:=.shr) (fr:=x0||true) (i:=a) (k':=.shr) (fr':=x1||true) (j:=b) rfl rfl (decide_eq_true z);have ev:evs [vE 1,sJ (vE 0) (vE 1)] [some ⟨.shr,x0,.int a⟩,some ⟨.shr,x1,.int b⟩]=.ok [⟨.shr,x1||true,.int b⟩,sc (.int (a.fmod b))]:=aG rfl (aG m bO)
    have p:aB4 0 1 (vE 1) (sJ (vE 0) (vE 1)) [some ⟨.shr,x0,.int a⟩,some ⟨.shr,x1,.int b⟩]=.nx [some ⟨.shr,true,.int b⟩,some ⟨.shr,true,.int (a.fmod b)⟩]:=by
     simp only[aB4,ev,R.at];rfl
    have sm:=aDc a z;obtain⟨n',rfl⟩:∃ n',n=n'+1:=⟨n-1,by omega⟩
    obtain⟨c,y0,y1,h1,h2⟩:=aEz n' f b (a.fmod b) true true (by omega) (by omega)
    refine⟨c,y0,y1,h1.trans (aJ9 a b),?_⟩
    simp only[mU,t,R.at,p];exact h2
theorem aTb {a b:Int}(hb:b.natAbs<2^60):cJ 2 2 aOe [.int a,.int b]=.ok (sc (.int (Ee a.natAbs b.natAbs:Nat))):=by
 obtain⟨c,y0,y1,h1,h2⟩:=aEz b.natAbs (2^64) a b false false (Am _) (Bj hb (Cn (by decide) (by decide)))
 have ab:(if c<0 then -c else c)=((c.natAbs:Nat):Int):=by split<;>omega
 have e:sU (vE 0) [some ⟨.shr,y0,.int c⟩,some ⟨.shr,y1,.int 0⟩]=.ok (sc (.int (Ee a.natAbs b.natAbs:Nat))):=by
  have:sU (vE 0) [some ⟨.shr,y0,.int c⟩,some ⟨.shr,y1,.int 0⟩]=.ok (sc (.int (if c<0 then -c else c))):=rfl
  rw[this,ab,h1]
 exact(cO (np:=2) (n:=2) (s:=aOe) (ds:=[.int a,.int b]) rfl ((aB h2).trans (fS e))).trans rfl
end Be
namespace Sm
open PySem L2 Mir Srt
def aA0 (k:List Int):Nat:=k.count 0+2*k.count 1+4*k.count 2+8*k.count 3+16*k.count 4
def aI1 (n:Nat):Nat:=n%2+n/2%2+n/4%2+n/8%2+n/16%2
theorem aB3:∀ T,T<=5->((Af 32).filter fun n=>aI1 n==T).length<=10:=by decide +kernel
theorem aCq:∀ a,a<2->∀ b,b<2->∀ c,c<2->∀ d,d<2->∀ e,e<2->aI1 (a+2*b+4*c+8*d+16*e)=a+b+c+d+e:=by decide +kernel
theorem aVu {ks:List (List Int)}{T:Nat}(nd:ks.Nodup)(hs:∀ k∈ks,k=srt ix k)(rg:∀ k∈ks,∀ x∈k,0<=x/\x<5)(n1:∀ k∈ks,k.Nodup)(ln:∀ k∈ks,k.length=T):ks.length<=10:=by
 have c1:∀ k∈ks,∀ x,k.count x<=1:=fun k hk x=>Fk.mp (n1 k hk) x;by_cases hT:T<=5
 · have inj:(ks.map aA0).Nodup:=by
    show List.Pairwise (fun a b=>a≠b) (ks.map aA0)
    rw[Cj];refine Er (fun {a b} ha hb n e=>n ?_) nd
    have a0:=c1 a ha 0;have a1:=c1 a ha 1;have a2:=c1 a ha 2;have a3:=c1 a ha 3;have a4:=c1 a ha 4;have b0:=c1 b hb 0;have b1:=c1 b hb 1;have b2:=c1 b hb 2;have b3:=c1 b hb 3;have b4:=c1 b hb 4;unfold aA0 at e;have q0:a.count 0=b.count 0:=by omega
    have q1:a.count 1=b.count 1:=by omega
    have q2:a.count 2=b.count 2:=by omega
    have q3:a.count 3=b.count 3:=by omega
    have q4:a.count 4=b.count 4:=by omega
    have pm:a.Perm b:=by
     rw[List.perm_iff_count];intro x;by_cases hx:0<=x/\x<5
     · have hx:x=0\/x=1\/x=2\/x=3\/x=4:=by omega
       rcases hx with e | e | e | e | e<;>subst e<;>assumption
     · rw[Eb fun m=>hx (rg a ha x m),Eb fun m=>hx (rg b hb x m)]
    rw[hs a ha,hs b hb];exact jI iK ((dZ a).trans pm) (lD iK a)
   have sub:∀ n∈ks.map aA0,n∈(Af 32).filter fun n=>aI1 n==T:=by
    intro n hn;obtain⟨k,hk,rfl⟩:=Ah.mp hn;have a0:=c1 k hk 0;have a1:=c1 k hk 1;have a2:=c1 k hk 2;have a3:=c1 k hk 3;have a4:=c1 k hk 4;have s:=pE k (rg k hk);rw[ln k hk]at s;rw[Ck,Bp,beq_iff_eq];unfold aA0;rw[aCq _ (by omega) _ (by omega) _ (by omega) _ (by omega) _ (by omega)]
    omega
   have:=aAm inj sub
   rw[Ad]at this;exact Bj this (aB3 T hT)
 · cases ks with
   | nil=>exact Cc _
   | cons k r =>
    have a0:=c1 k Ab 0;have a1:=c1 k Ab 1;have a2:=c1 k Ab 2;have a3:=c1 k Ab 3;have a4:=c1 k Ab 4;have s:=pE k (rg k Ab);rw[ln k Ab]at s;omega
def Nb (B:Nat)(ts:List Tm):Prop:=∀ t∈ts,t.2.natAbs<=2^B
structure Five (T:Nat)(ts:List Tm):Prop where
 sz:∀ t∈ts,t.1.length=T
 rg:∀ t∈ts,∀ x∈t.1,0<=x/\x<5
theorem aE3 {ts:List Tm}:∀ p∈cD ts,∃ t∈ts,key t=p.1/\t.1.Nodup:=fun p hp=>by
 obtain⟨h1,h2⟩:=(iL ts p).mp hp;exact rW (h1▸h2)
theorem Five.sum {T:Nat}{ts:List Tm}(h:Five T ts):Five T (cD ts)/\(cD ts).length<=10:=by
 have f:Five T (cD ts):=⟨fun p hp=>by
  obtain⟨t,ht,e,_⟩:=aE3 p hp;rw[←e,yM];exact h.sz t ht,fun p hp x hx=>by
  obtain⟨t,ht,e,_⟩:=aE3 p hp;rw[←e]at hx
  exact h.rg t ht x ((iV t).mem_iff.mp hx)⟩
 refine⟨f,?_⟩
 have told:=nM ts
 have:=aVu (ks:=(cD ts).map (·.1)) (T:=T) told.ks (fun k hk=>by
  obtain⟨p,hp,rfl⟩:=Ah.mp hk;exact jI iK (Dy _) (told.up p hp)) (fun k hk=>by
  obtain⟨p,hp,rfl⟩:=Ah.mp hk;exact f.rg p hp) (fun k hk=>by
  obtain⟨p,hp,rfl⟩:=Ah.mp hk;exact told.nd p hp) (fun k hk=>by
  obtain⟨p,hp,rfl⟩:=Ah.mp hk
  exact f.sz p hp)
 rw[Ad]at this;exact this
theorem aPk {ts:List Tm}{B c:Nat}(ln:ts.length<=2^c)(nb:Nb B ts):Nb (B+c) (cD ts):=fun p hp=>by
 have:=aIc ts [] (M:=0) (fun _ h=>nomatch h) nb p (sO hp).1
 rw[Dw]at this;refine Bj this ?_
 rw[Hc,Nat.mul_comm];exact Gs _ ln
theorem Five.big {T:Nat}{ts:List Tm}(h:Five T ts)(hT:5<T):cD ts=[]:=by
 refine List.eq_nil_iff_forall_not_mem.mpr fun p hp=>?_
 have f:=h.sum.1;have nd:=(nM ts).nd p hp;have:=lW (l:=p.1) (m:=bL 5) nd fun x hx=>dM.mpr (f.rg p hp x hx)
 rw[f.sz p hp,show (bL 5).length=5 from rfl]at this
 omega
theorem aK4 {a b:List Tm}{B C:Nat}(ha:Nb B a)(hb:Nb C b):Nb (B+C) (aY a b):=fun t ht=>by
 obtain⟨u,hu,h⟩:=Ds.mp ht;obtain⟨v,hv,e⟩:=Ah.mp h;rw[←e];show (u.2*v.2).natAbs<=_
 rw[Fj,Hc];exact Fi (ha u hu) (hb v hv)
structure Rows (m:Nat)(rows:List (List Int)):Prop where
 m1:1<=m
 m5:m<=5
 ln:rows.length<=12
 sz:∀ r∈rows,r.length=m
 nb:∀ r∈rows,∀ x∈r,x.natAbs<=2^34
theorem aJ6 {r:List Int}(h:r.length<=5):Five 1 (dG r):=by
 refine⟨oJ r,fun t ht x hx=>?_⟩
 rw[jD]at ht;obtain⟨i,hi,rfl⟩:=Ah.mp ht;have:=dM.mp hi
 rw[As.mp hx];omega
theorem aEa (r:List Int):(dG r).length=r.length:=by rw[jD,Ad];simp[bL]
theorem aEf {r:List Int}{B:Nat}(h:∀ x∈r,x.natAbs<=2^B):Nb B (dG r):=fun t ht=>by
 rw[jD]at ht;obtain⟨i,hi,rfl⟩:=Ah.mp ht;have:=dM.mp hi
 exact h _ (Mir.bJ (by omega))
theorem sA {m:Nat}(h5:m<=5){rows:List (List Int)}(hm:∀ r∈rows,r.length=m):Five rows.length (raw rows):=by
 rw[aCf rows.length rows rfl hm];refine⟨fun t ht=>?_,fun t ht x hx=>?_⟩
 · obtain⟨w,hw,rfl⟩:=Ah.mp ht
   exact tL hw
 · obtain⟨w,hw,rfl⟩:=Ah.mp ht
   have:=(kR.mp hw).2 x hx
   omega
theorem aJf (rows:List (List Int))(r:List Int):cD (aY (box rows) (dG r))=box (rows++[r]):=by
 unfold box;rw[aIk,fZ]
end Sm
namespace Sm
open PySem L2 Mir Srt
abbrev aLy (φc:Φ):FS :=
 (aJ (kC (aL φc [vE 0]))
 (dR (pH (vE 1)) (.tp [.nm 2,.nm 3])
  (ifS (bT (neE (cB (vE 3)) (vE 0)))
   (zW)
   cI)))
theorem aHr (t:List (List Int)):qQ (lil t)=(t.zipIdx).map fun p=>.tup [.int p.2,.lst (li p.1)]:=xI (fun xs=>.lst (li xs)) t
theorem aIh {φc:Φ}(hc:∀ {m:Int},(decide (m<1)||decide (5<m))=false->φc [.int m]=.ok (sc .non)){m:Nat}{rows:List (List Int)}(m1:1<=m)(m5:m<=5)(sz:∀ r∈rows,r.length=m):cJ 2 4 (aLy φc) [.int m,.lst (lil rows)]=.ok (sc .non):=by
 have e1:kC (aL φc [vE 0]) [some ⟨.shr,false,.int m⟩,some ⟨.shr,false,.lst (lil rows)⟩,none,none]=.nx [some ⟨.shr,false,.int m⟩,some ⟨.shr,false,.lst (lil rows)⟩,none,none]:=xF (eG (rs:=[⟨.shr,true,.int m⟩]) (aG rfl bO) (hc (by rw[decide_eq_false (by omega),decide_eq_false (by omega)];rfl)))
 obtain⟨ρ',l1,x2,x3,l2⟩:=aBp (β:=Unit) (tg:=.tp [.nm 2,.nm 3]) (b:=ifS (bT (neE (cB (vE 3)) (vE 0))) zW cI) (fr:=false) (inj:=fun (p:List Int×Nat)=>.tup [.int p.2,.lst (li p.1)]) (step:=fun _ _=>())
  (Q:=fun _ ρ=>∃ x2 x3,ρ=[some ⟨.shr,false,.int m⟩,some ⟨.shr,false,.lst (lil rows)⟩,x2,x3]) rows.zipIdx () [some ⟨.shr,false,.int m⟩,some ⟨.shr,false,.lst (lil rows)⟩,none,none] ⟨none,none,rfl⟩ fun p hp _ ρ ⟨x2,x3,e⟩=>by
   subst e
   have hr:p.1∈rows:=by
    obtain⟨i,hi,e⟩:=Co.mp hp;rw[←e];simp
   have el:cB (vE 3) [some ⟨.shr,false,.int m⟩,some ⟨.shr,false,.lst (lil rows)⟩,some ⟨.shr,false,.int p.2⟩,some ⟨.shr,false,.lst (li p.1)⟩]=.ok ⟨.shr,true,.int (p.1.length:Nat)⟩:=aR0 (k:=.shr) (fr:=false) rfl
   have ei:ifS (bT (neE (cB (vE 3)) (vE 0))) zW cI [some ⟨.shr,false,.int m⟩,some ⟨.shr,false,.lst (lil rows)⟩,some ⟨.shr,false,.int p.2⟩,some ⟨.shr,false,.lst (li p.1)⟩]=.nx [some ⟨.shr,false,.int m⟩,some ⟨.shr,false,.lst (lil rows)⟩,some ⟨.shr,false,.int p.2⟩,some ⟨.shr,false,.lst (li p.1)⟩]:=by
    refine(fF (eJ (kT el (k':=.shr) (fr':=true) (j:=m) rfl))).trans ?_
    rw[decide_eq_true (by have:=sz _ hr;omega)];rfl
   exact⟨_,_,rfl,ei,_,_,rfl⟩
 have e2:dR (pH (vE 1)) (.tp [.nm 2,.nm 3]) (ifS (bT (neE (cB (vE 3)) (vE 0))) zW cI) [some ⟨.shr,false,.int m⟩,some ⟨.shr,false,.lst (lil rows)⟩,none,none]=.nx [some ⟨.shr,false,.int m⟩,some ⟨.shr,false,.lst (lil rows)⟩,x2,x3]:=by
  refine(gU (fr:=false) (ds:=qQ (lil rows)) rfl).trans ?_
  rw[aHr,l1,l2]
 exact aCk rfl ((aB e1).trans e2)
end Sm
namespace Sm
open PySem L2 Mir Srt
theorem pQ (u v:List (List Int))(r:List Int):(lil (u++r :: v))[u.length]?=some (.lst (li r)):=by simp
structure Drw (m:Nat)(x y:List (List Int)):Prop where
 m1:1<=m
 m5:m<=5
 lx:x.length<=4
 ly:y.length<=3
 y1:0<y.length
 sz:∀ r∈x++y,r.length=m
 nb:∀ r∈x++y,∀ v∈r,v.natAbs<=2^30
theorem Drw.rows {m:Nat}{x y:List (List Int)}(d:Drw m x y){rs:List (List Int)}(h:∀ r∈rs,r∈x++y)(hl:rs.length<=12):Rows m rs :=
 ⟨d.m1,d.m5,hl,fun r hr=>d.sz r (h r hr),fun r hr v hv=>Bj (d.nb r (h r hr) v hv) (Cn (by decide) (by decide))⟩
end Sm
namespace Sm
open Srt
def aJ5:Nat->List (List Int)
 | 0=>[[]]
 | m+1=>aJ5 m++(aJ5 m).map (·++[(m:Int)])
theorem aJs:∀ k∈aJ5 5,trn k=1/\srt ix k=k:=by decide +kernel
def hc (x:Nat)(k:List Int):Int:=if (x:Int)∈k then sgn (und (x:Int) k) else 0
def hw (x:Nat)(k:List Int):List Int:=k.filter fun y=>!(y==(x:Int))
def In5 (S:List Tm):Prop:=∀ t∈S,t.1∈aJ5 5
theorem In5.vk {S:List Tm}(h:In5 S){t:Tm}(ht:t∈S):val t=t.2/\key t=t.1:=by
 have q:=aJs t.1 (h t ht);exact⟨by rw[mV,q.1,Gk],q.2⟩
theorem aK6:∀ k∈aJ5 5,∀ x∈k,0<=x/\x<(5:Int):=by decide +kernel
theorem In5.rg {S:List Tm}(h:In5 S):∀ t∈S,∀ x∈t.1,0<=x/\x<(5:Int):=fun t ht=>aK6 t.1 (h t ht)
end Sm
namespace Sm
open Srt
def pB (B:Nat->Nat->Int):List Int->List Int->Int
 | j :: o,x :: w=>B j.toNat x.toNat*pB B o w
 | _,_=>1
def zp:List Int->List Int->List (Nat×Nat)
 | j :: o,x :: w=>(j.toNat,x.toNat) :: zp o w
 | _,_=>[]
end Sm
namespace Sm
open PySem L2 Mir Srt
structure Shp (L:Nat)(ts:List Tm):Prop where
 ln:ts.length<=20
 hL:L<=20
 sz:∀ t∈ts,t.1.length=L
 rg:∀ t∈ts,∀ x∈t.1,0<=x/\x<5
 nd:∀ t∈ts,t.1.Nodup
structure RowsB (m B:Nat)(rows:List (List Int)):Prop where
 m1:1<=m
 m5:m<=5
 ln:rows.length<=12
 sz:∀ r∈rows,r.length=m
 nb:∀ r∈rows,∀ x∈r,x.natAbs<=2^B
theorem RowsB.sub {m B:Nat}{rows rs:List (List Int)}(R:RowsB m B rows)(h:∀ r∈rs,r∈rows)(hl:rs.length<=12):RowsB m B rs:=⟨R.m1,R.m5,hl,fun r hr=>R.sz r (h r hr),fun r hr=>R.nb r (h r hr)⟩
theorem wA {m B:Nat}:∀ n,∀ rows:List (List Int),rows.length=n->RowsB m B rows->Shp n (box rows)/\Nb ((B+6)*min n 5) (box rows):=by
 intro n;induction n with
 | zero =>
  intro rows h _;rw[Cp.mp h,aFa];refine⟨⟨by decide,by decide,?_,?_,?_⟩,?_⟩<;>intro t ht<;>rw[As.mp ht]
  · rfl
  · intro x hx;cases hx
  · exact Dh
  · exact Nat.one_le_two_pow
 | succ n ih =>
  intro rows h R;have hy:rows≠[]:=fun z=>by rw[z]at h;simp at h
  have hc:=Cm hy;have hl:rows.dropLast.length=n:=by rw[Dm];omega
  have mr:=Gi hy;have lr:=R.ln;have R':RowsB m B rows.dropLast:=R.sub (fun r hr=>Fl _ hr) (by omega)
  obtain⟨i1,i2⟩:=ih _ hl R';have rl:=R.sz _ mr;have m5:=R.m5;obtain⟨g1,g2⟩:=(sA m5 R.sz).sum;rw[h]at g1;have shp:Shp (n+1) (box rows):=⟨by show (cD (raw rows)).length<=20;omega,by omega,g1.sz,g1.rg,(nM _).nd⟩
  refine⟨shp,?_⟩
  by_cases z:n+1<=5
  · have e:=aJf rows.dropLast (rows.getLast hy)
    rw[hc]at e;have f:=(sA m5 R'.sz).sum
    have pl:(aY (box rows.dropLast) (dG (rows.getLast hy))).length<=2^6:=by
     rw[zD,aEa];exact Bj (Fi f.2 (show _<=5 by omega)) (by decide)
    have nb:=aPk pl (aK4 i2 (aEf (R.nb _ mr)));rw[e,show min n 5=n by omega]at nb
    rw[show min (n+1) 5=n+1 by omega,show (B+6)*(n+1)=(B+6)*n+B+6 by rw[Nat.mul_succ];omega]
    exact nb
  · have e:box rows=[]:=(sA m5 R.sz).big (by omega)
    rw[e];exact fun t ht=>by cases ht
end Sm
namespace Od
open PySem L2 Mir Srt Sm
def aWd (n:Int)(o:Tm)(k:Nat):Tm:=(o.1.take k++[n]++o.1.drop k,o.2*sgn (o.1.length-k))
theorem aGv (n:Nat):gC (n+1)=(gC n).flatMap fun o=>(Af (o.1.length+1)).map (aWd (n:Int) o):=rfl
theorem aBj:∀ n,∀ o∈gC n,o.1.length=n/\o.2.natAbs<=1:=by
 intro n;induction n with
 | zero=>intro o h;rw[As.mp h];exact⟨rfl,by decide⟩
 | succ n ih =>
  intro o h;rw[aGv]at h;obtain⟨u,hu,h⟩:=Ds.mp h;obtain⟨k,hk,rfl⟩:=Ah.mp h;have hk:=Bp.mp hk;obtain⟨i1,i2⟩:=ih u hu;refine⟨?_,?_⟩
  · show (u.1.take k++[(n:Int)]++u.1.drop k).length=n+1
    rw[Ak,Ak,Ax,By,Ar];omega
  · show (u.2*sgn (u.1.length-k)).natAbs<=1
    rw[Fj];have:(sgn (u.1.length-k)).natAbs=1:=by unfold sgn;omega
    rw[this];omega
theorem nZ:∀ n,n<=5->(gC n).length<=120:=by decide +kernel
abbrev ob:FS:=kJ 3 (eW [aHq (aHq (aI7 (vE 4) (noO) (soO (vE 6))) (eW [vE 2])) (aI7 (vE 4) (soO (vE 6)) (noO)),cX (vE 5) (mK (cE (.int 1)) (cX (cE (.int 2)) (gZ (mK (cB (vE 4)) (vE 6)) (cE (.int 2)))))])
end Od
namespace Od
open PySem L2 Mir Srt Sm
theorem aVr {f g:FE}{ρ:Mir.Env}{k k':Kd}{fr fr':Bool}{ds:List D}{i:Nat}{d:D}(h1:f ρ=.ok ⟨k,fr,.tup ds⟩)(h2:g ρ=.ok ⟨k',fr',.int i⟩)(h:ds[i]?=some d):bG f g ρ=.ok ⟨.shr,fr||d.imm,d⟩:=by
 simp only[bG,h1,h2,R.ok_bind,asS,asI,Mir.yZ h]
theorem aTx {p:List Int}{i:Nat}(h:i<p.length):(li p)[i]?=some (.int (p.getD i 0)):=jS h
theorem pQ {rows:List (List Int)}{i:Nat}(h:i<rows.length):(lil rows)[i]?=some (.lst (li (rows.getD i []))):=by
 simp[lil,h,Aa]
structure Mn (m B:Nat)(rows:List (List Int))(p:List Int):Prop where
 ln:rows.length=p.length
 l5:p.length<=5
 sz:∀ r∈rows,r.length=m
 nb:∀ r∈rows,∀ x∈r,x.natAbs<=2^B
 rg:∀ x∈p,0<=x/\x<m
 hB:B*p.length<=900
def pk (rows:List (List Int))(p:List Int)(o:Tm)(j:Nat):Int:=o.2*prd (rows.take j) ((cK p o.1).take j)
def vk (rows:List (List Int))(p:List Int)(o:Tm)(j:Nat):Int:=(rows.getD j []).getD (p.getD (o.1.getD j 0).toNat 0).toNat 0
structure Oo (n:Nat)(o:Tm):Prop where
 ln:o.1.length=n
 rg:∀ x∈o.1,0<=x/\x<(n:Int)
 nb:o.2.natAbs<=1
theorem aOd {n:Nat}{o:Tm}(h:o∈gC n):Oo n o:=⟨(aBj n o h).1,fun x hx=>dM.mp ((fD h).1.mem_iff.mp hx),(aBj n o h).2⟩
theorem aEj {α:Type}{l:List α}{j:Nat}{d:α}(h:j<l.length):l.take (j+1)=l.take j++[l.getD j d]:=by
 rw[List.take_add_one,Ae h,Aa,Ae h];rfl
theorem aU3 {m B:Nat}{rows:List (List Int)}{p:List Int}(M:Mn m B rows p){o:Tm}(O:Oo p.length o){j:Nat}(h:j<p.length):pk rows p o (j+1)=pk rows p o j*vk rows p o j:=by
 have lw:(cK p o.1).length=p.length:=by unfold cK;rw[Ad,O.ln]
 have hr:=M.ln;unfold pk vk;rw[aEj (d:=[]) (show j<rows.length by omega),aEj (d:=0) (show j<(cK p o.1).length by omega),rP _ _ _ _ (by rw[Ax,Ax,lw,hr]),Bi]
 congr 3
 have hj:j<o.1.length:=by rw[O.ln];exact h
 simp[cK,Aa,hj]
theorem aU1 {m B:Nat}{rows:List (List Int)}{p:List Int}(M:Mn m B rows p){o:Tm}(O:Oo p.length o){j:Nat}(h:j<p.length):(rows.getD j []).length=m/\(p.getD (o.1.getD j 0).toNat 0).toNat<m/\0<=p.getD (o.1.getD j 0).toNat 0/\(o.1.getD j 0).toNat<p.length/\0<=o.1.getD j 0/\(vk rows p o j).natAbs<=2^B:=by
 have hr:=M.ln;have mr:rows.getD j []∈rows:=Mir.bJ (by omega)
 have rl:=M.sz _ mr;have oj:=O.rg _ (Mir.bJ (d:=0) (show j<o.1.length by rw[O.ln];exact h))
 have lt:(o.1.getD j 0).toNat<p.length:=by omega
 have pj:=M.rg _ (Mir.bJ (d:=0) lt);refine⟨rl,by omega,pj.1,lt,oj.1,M.nb _ mr _ (Mir.bJ (by omega))⟩
theorem aUj {m B:Nat}{rows:List (List Int)}{p:List Int}(M:Mn m B rows p){o:Tm}(O:Oo p.length o):∀ j,j<=p.length->(pk rows p o j).natAbs<=2^(B*j):=by
 intro j;induction j with
 | zero=>intro _;unfold pk;simp[prd];exact O.nb
 | succ j ih =>
  intro h;rw[aU3 M O (by omega),Fj,Nat.mul_succ,Hc]
  exact Fi (ih (by omega)) (aU1 M O (by omega)).2.2.2.2.2
end Od
namespace Od
open PySem L2 Mir Srt Sm
abbrev ab:FS:=(aJ (aF 6 (cR (aVd (aI7 (vE 5) (soO (nA (cE (.int 1)))) (noO))) (aVk (gtE (cB (vE 5)) (cE (.int 0))))))
 (aF 4 (eN (vE 4) (aW (nJ (vE 6) (vE 0)) 1 [5] (.nm 0) (bE (aHq (vE 1) (eW [vE 0])))))))
end Od
namespace Od
open PySem L2 Mir Srt Sm
abbrev hd (t:List (List Int))(s:Int)(x2:Option Res):Mir.Env:=[some ⟨.shr,false,.lst (lil t)⟩,some ⟨.shr,false,.int s⟩,x2,none,none,none,none]
end Od
namespace Od
open PySem L2 Mir Srt Sm
theorem aE9 {α:Type}{M:Nat}(f:α->Int):∀ l:List α,(∀ x∈l,(f x).natAbs<=M)->(cY l f).natAbs<=l.length*M
 | [],_=>by simp[cY]
 | x :: l,h=>by
  have h1:=h x Ab;have h2:=aE9 f l fun y hy=>h y (Ac _ hy);simp only[cY,Al,Gw];have:=Int.natAbs_add_le (f x) (cY l f)
  omega
theorem aHy:∀ n,n<6->(gC n).length<=120:=by decide +kernel
theorem aKr {m B:Nat}{rows:List (List Int)}{p:List Int}(M:Mn m B rows p):(eA rows p).natAbs<=120*2^(B*p.length):=by
 unfold eA;refine Bj (aE9 (M:=2^(B*p.length)) _ _ fun o ho=>?_) (Gn _ (aHy _ (by have:=M.l5;omega)))
 have h:=aUj M (aOd ho) p.length (Am _)
 have e:pk rows p o p.length=o.2*prd rows (cK p o.1):=by
  unfold pk;rw[Ew (by rw[M.ln];exact Am _),Ew (by unfold cK;rw[Ad,(aOd ho).ln];exact Am _)]
 rw[e]at h;exact h
structure Sq (m B:Nat)(t:List (List Int)):Prop where
 m5:m<=5
 ln:t.length=m
 sz:∀ r∈t,r.length=m
 nb:∀ r∈t,∀ x∈r,x.natAbs<=2^B
 hB:(B+6)*m<=893
 hb:B<=887
section
variable {m B:Nat}{t:List (List Int)}
theorem Sq.e9 (T:Sq m B t){r:List Int}(hr:r∈t){x:Int}(hx:x∈r):x.natAbs<2^1000:=by
 have h:=T.hb;exact aDa (Bj (T.nb r hr x hx) (Cn (by decide) (by omega)))
end
theorem aFx {m:Nat}{w:List Int}(nd:w.Nodup)(hl:w.length=m)(rg:∀ x∈w,0<=x/\x<(m:Int)):w.Perm (bL m):=by
 refine jM nd (jV _) fun x=>⟨fun h=>dM.mpr (rg x h),fun hx=>?_⟩
 by_cases z:x∈w
 · exact z
 · exfalso
   have:=lW (l:=x :: w) (m:=bL m) (Br.mpr ⟨z,nd⟩) fun y hy=>(Aj.mp hy).elim (fun q=>q▸hx) (fun h=>dM.mpr (rg y h))
   rw[Al,hl,eL]at this;omega
theorem aRg {m:Nat}{rows:List (List Int)}(hm:∀ r∈rows,r.length=m){t:Tm}(h:t∈raw rows):t.1.length=rows.length/\∀ x∈t.1,0<=x/\x<(m:Int):=by
 rw[aCf rows.length rows rfl hm]at h;obtain⟨w,hw,e⟩:=Ah.mp h;rw[←e];exact kR.mp hw
section
variable {m:Nat}{rows:List (List Int)}
theorem wJ (h5:m<6)(hl:rows.length=m)(hm:∀ r∈rows,r.length=m):kN (raw rows) (bL m)=eA rows (bL m):=mM hm (yT m h5) (by rw[eL,hl]) fun x hx=>dM.mp hx
theorem aHb (h5:m<6)(hl:rows.length=m)(hm:∀ r∈rows,r.length=m){p:Tm}(h:p∈box rows):p.2=eA rows (bL m):=by
 obtain⟨h1,h2⟩:=(iL (raw rows) p).mp h;obtain⟨t,ht,k,nd⟩:=rW (ts:=raw rows) (k:=p.1) (by rw[←h1];exact h2)
 obtain⟨l,rg⟩:=aRg hm ht
 have e:p.1=bL m:=by
  rw[←k];exact(oP (aH6 (yT m h5))).mpr (aFx nd (by rw[l,hl]) rg)
 rw[h1,e];exact wJ h5 hl hm
theorem aHm (h5:m<6)(hl:rows.length=m)(hm:∀ r∈rows,r.length=m)(h:box rows=[]):eA rows (bL m)=0:=by
 rw[←wJ h5 hl hm];by_cases z:kN (raw rows) (bL m)=0
 · exact z
 · have:(bL m,kN (raw rows) (bL m))∈box rows:=(iL _ _).mpr ⟨rfl,z⟩
   rw[h]at this;cases this
end
theorem aGt (ds:List D)(j:Nat)(h:j<=ds.length):mQ ds none (some (j:Int))=ds.take j:=by
 unfold mQ;rw[HT.rG,HT.jK];simp[Fs h]
end Od
namespace Od
open PySem L2 Mir Srt Sm
abbrev sgE (f:FE):FE:=mK (cE (.int 1)) (cX (cE (.int 2)) (gZ f (cE (.int 2))))
theorem aU2 {f:FE}{ρ:Mir.Env}{k:Kd}{fr:Bool}{x:Nat}(h:f ρ=.ok ⟨k,fr,.int (x:Nat)⟩):sgE f ρ=.ok ⟨.shr,true,.int (sgn x)⟩:=by
 have h1:gZ f (cE (.int 2)) ρ=.ok ⟨.shr,true,.int ((x:Int)%2)⟩:=bM h (k':=.shr) (fr':=true) (j:=2) rfl (wL (by decide))
 have h2:cX (cE (.int 2)) (gZ f (cE (.int 2))) ρ=.ok ⟨.shr,true,.int (2*((x:Int)%2))⟩:=bM (k:=.shr) (fr:=true) (i:=2) rfl h1 (qN (by decide) (Cv (show ((x:Int)%2).natAbs<=2 by omega) (by decide)))
 exact bM (C:=C0) (G:=fun i j=>i-j) (k:=.shr) (fr:=true) (i:=1) rfl h2 rfl
theorem aUm (x:Nat):(sgn x).natAbs<2^1000:=by
 have:(sgn x).natAbs<=1:=by rcases aB2 x with z | z<;>rw[z]<;>decide
 exact Cv this (by decide)
theorem aUs {f g:FE}{ρ:Mir.Env}{k k':Kd}{fr fr':Bool}{a b:Nat}(h1:f ρ=.ok ⟨k,fr,.int a⟩)(h2:g ρ=.ok ⟨k',fr',.int b⟩):cR f g ρ=.ok ⟨.shr,true,.int ((a+b:Nat):Int)⟩ :=
 (bM (C:=C0) (G:=fun i j=>i+j) h1 h2 rfl).trans (by rw[Int.natCast_add];rfl)
end Od
namespace Od
open PySem L2 Mir Srt Sm
structure L9 (m:Nat)(b:List (List Int)):Prop where
 m1:1<=m
 m5:m<=10
 ln:b.length=m
 sz:∀ r∈b,r.length=m
 nb:∀ r∈b,∀ x∈r,x.natAbs<2^1000
theorem Sq.l9 {m B:Nat}{t:List (List Int)}(T:Sq m B t)(m1:1<=m):L9 m t:=⟨m1,by have:=T.m5;omega,T.ln,T.sz,fun r hr x hx=>T.e9 hr hx⟩
end Od
namespace Od
open PySem L2 Mir Srt Sm
section
variable {m L K B C:Nat}{a b S:List Tm}
structure Rw (m:Nat)(r:List Int):Prop where
 ln:r.length=m
 nb:∀ x∈r,x.natAbs<=9
theorem Rw.at {r:List Int}(h:Rw m r)(k:Nat):(r.getD k 0).natAbs<=2^4:=by
 by_cases z:k<r.length
 · exact Bj (h.nb _ (Mir.bJ z)) (by decide)
 · rw[Aa,Bk (by omega)];decide
end
end Od
namespace Od
open PySem L2 Mir Srt Sm
theorem aM0 {f:FE}{ρ:Mir.Env}{k:Kd}{fr:Bool}{p:List Int}(h:f ρ=.ok ⟨k,fr,.lst (li p)⟩)(hz:p.length<64):vI f ρ=.ok ⟨.tmp,true,.lst (li (srt ix p))⟩:=by
 simp only[vI,h,R.ok_bind,asS,jG,if_pos hz]
theorem aEd {f:FE}{ρ:Mir.Env}{k:Kd}{fr:Bool}{ds:List D}(h:f ρ=.ok ⟨k,fr,.tup ds⟩):mT f ρ=.ok ⟨.tmp,fr,.lst ds⟩:=by simp only[mT,h,R.ok_bind,asS]
theorem aJn {f:FE}{ρ:Mir.Env}{k:Kd}{fr:Bool}{p:List Int}(h:f ρ=.ok ⟨k,fr,.lst (li p)⟩)(hz:p.length<1000):wN f ρ=.ok (sc (.int (pF p))):=by
 simp only[wN,h,R.ok_bind,asL,jG,if_pos hz]
theorem aHx {a k:FE}{ρ:Mir.Env}{A:List Tm}{q:List Int}{kd kd':Kd}{fr fr':Bool}(h1:a ρ=.ok ⟨kd,fr,dK A⟩)(h2:k ρ=.ok ⟨kd',fr',.tup (li q)⟩)(hq:q∈A.map (·.1)):mE a k ρ=.ok ⟨.shr,true,.int (look A q)⟩:=by
 simp only[mE,h1,R.ok_bind,dK,h2,asK,jG,rL,if_pos hq,D.imm,Fx]
abbrev qE (A B:D)(T:List Tm)(x3 x4 x5 x6 x7 x8 x9 x10:Option Res):Mir.Env:=[some ⟨.shr,false,A⟩,some ⟨.shr,false,B⟩,some ⟨.own,true,dK T⟩,x3,x4,x5,x6,x7,x8,x9,x10]
abbrev ivb:FS:=aF 8 (cR (vE 8) (cB (aW (cN (eI (vE 7) (noO) (soO (vE 9)))) 1 [7,9] (.nm 0) (Mir.bIf (bT (gtE (vE 0) (bG (vE 1) (vE 2)))) (vE 0)))))
abbrev pin:FS:=(aJ (aF 8 (cE (.int 0)))
 (aJ (dR (dX (cB (vE 7))) (.nm 9) ivb)
 (aJ (aF 10 (aGl (vI (vE 7))))
 (wS 2 (vE 10) (cR (aCo (vE 2) (vE 10) (cE (.int 0))) (cX (cX (vE 4) (vE 6)) (sgE (vE 8))))))))
abbrev pbd:FS:=(aJ (aF 7 (eN (mT (vE 3)) (mT (vE 5))))
 (ifS (bT (eqE (wN (vE 7)) (cB (vE 7)))) pin cI))
abbrev xR:FS :=
 (aJ (aF 2 (aEk))
 (aJ (dR (cN (vE 0)) (.tp [.nm 3,.nm 4]) (dR (cN (vE 1)) (.tp [.nm 5,.nm 6]) pbd))
 (gJ 7 (bI (wT (aC1 2 1 (.nm 0) (Mir.bIf (bT (neE (mE (vE 1) (vE 0)) (cE (.int 0)))) (eW [vE 0,mE (vE 1) (vE 0)]))))))))
abbrev wR (f:Bool)(w:List Int):Option Res:=some ⟨.own,f,.lst (li w)⟩
theorem aNa (A B:D)(T:List Tm)(x3 x4 x5 x6 x10:Option Res){w:List Int}(hw:w.length<64)(f7:Bool){j:Nat}(hj:j<w.length) :
 ivb (qE A B T x3 x4 x5 x6 (wR f7 w) (iR (gW w j:Nat)) (iR j) x10)=.nx (qE A B T x3 x4 x5 x6 (wR f7 w) (iR (gW w (j+1):Nat)) (iR j) x10):=by
 have s:eI (vE 7) noO (soO (vE 9)) (qE A B T x3 x4 x5 x6 (wR f7 w) (iR (gW w j:Nat)) (iR j) x10)=.ok ⟨.tmp,f7||(D.lst (li w)).imm,.lst (li (w.take j))⟩:=by
  refine(jU (k:=.own) (fr:=f7||(D.lst (li w)).imm) (ds:=li w) (a:=none) (b:=some (j:Int)) rfl rfl rfl).trans ?_
  rw[aGt _ _ (by rw[Ad];omega),show (li w).take j=li (w.take j) from Hs.symm]
 have c:aW (cN (eI (vE 7) noO (soO (vE 9)))) 1 [7,9] (.nm 0) (Mir.bIf (bT (gtE (vE 0) (bG (vE 1) (vE 2)))) (vE 0)) (qE A B T x3 x4 x5 x6 (wR f7 w) (iR (gW w j:Nat)) (iR j) x10)=.ok ⟨.tmp,true,.lst (((w.take j).filter fun b=>decide (w.getD j 0<b)).map .int)⟩:=by
  refine tZ (inj:=D.int) (out:=D.int) (xs:=w.take j) (lJ s) (fun v _=>⟨[some ⟨.shr,f7||(D.lst (li w)).imm,.int v⟩,wR f7 w,iR j],.shr,rfl,?_,by decide⟩) (by rw[Ax,sizeLine_eq];omega)
  have i1:bG (vE 1) (vE 2) [some ⟨.shr,f7||(D.lst (li w)).imm,.int v⟩,wR f7 w,iR j]=.ok ⟨.shr,_,.int (w.getD j 0)⟩:=iA (k:=.own) (fr:=f7||(D.lst (li w)).imm) (k':=.shr) (fr':=true) (i:=j) (ds:=li w) rfl rfl (aTx hj);refine uC (r:=⟨.shr,true,.int v⟩) (c:=decide (w.getD j 0<v)) (eJ (jL (G:=fun i j=>decide (j<i)) (k:=.shr) (fr:=(f7||(D.lst (li w)).imm)||true) (i:=v) rfl i1)) fun _=>?_
  show (R.ok (⟨.shr,(f7||(D.lst (li w)).imm)||true,.int v⟩:Res):R Res)=_
  rw[Fx]
 have l:cB (aW (cN (eI (vE 7) noO (soO (vE 9)))) 1 [7,9] (.nm 0) (Mir.bIf (bT (gtE (vE 0) (bG (vE 1) (vE 2)))) (vE 0))) (qE A B T x3 x4 x5 x6 (wR f7 w) (iR (gW w j:Nat)) (iR j) x10)=.ok ⟨.shr,true,.int (((w.take j).filter fun b=>decide (w.getD j 0<b)).length:Nat)⟩:=by
  refine(gO c).trans ?_
  rw[Ad];rfl
 refine(set_shr (i:=8) (aUs (k:=.shr) (fr:=true) (a:=gW w j) rfl l)).trans ?_
 rfl
theorem aLq (A B:D)(T:List Tm)(x3 x4 x5 x6 x10:Option Res){w:List Int}(hw:w.length<64)(f7:Bool):∀ (r j:Nat) (x9:Option Res),j+r=w.length ->
 ∃ y9,fG (.nm 9) ivb true ((Bo j r).map fun (i:Nat)=>.int (i:Int)) (qE A B T x3 x4 x5 x6 (wR f7 w) (iR (gW w j:Nat)) x9 x10)=.nx (qE A B T x3 x4 x5 x6 (wR f7 w) (iR (gW w (j+r):Nat)) y9 x10):=by
 intro r;induction r with
 | zero=>intro j x9 _;exact⟨x9,rfl⟩
 | succ r ih =>
  intro j x9 h;obtain⟨y9,e⟩:=ih (j+1) (iR j) (by omega)
  refine⟨y9,?_⟩
  have bd:Tg.bind true (.nm 9) (.int (j:Int)) (qE A B T x3 x4 x5 x6 (wR f7 w) (iR (gW w j:Nat)) x9 x10)=.ok (qE A B T x3 x4 x5 x6 (wR f7 w) (iR (gW w j:Nat)) (iR j) x10):=rfl;rw[Dj,Ai];refine(qY bd (aNa A B T x3 x4 x5 x6 x10 hw f7 (by omega))).trans (e.trans ?_)
  rw[show j+1+r=j+(r+1) by omega]
def stp (T:List Tm)(t:Tm):List Tm:=if t.1.Nodup then step T t else T
theorem aEm (T:List Tm)(t:Tm):(stp T t).length<=T.length+1:=by
 unfold stp;split
 · exact aLr _ _ _
 · omega
theorem wU:∀ (ts T:List Tm),ts.foldl stp T=acc T (ts.filter fun t=>decide t.1.Nodup)
 | [],T=>rfl
 | t :: ts,T=>by
  rw[Dd,wU ts];unfold stp;by_cases z:t.1.Nodup
  · rw[if_pos z,Bv (by simpa using z)];rfl
  · rw[if_neg z,Bx (by simpa using z)]
theorem aF5 (ts:List Tm):cD (ts.filter fun t=>decide t.1.Nodup)=cD ts:=oQ fun g=>by
 induction ts with
 | nil=>rfl
 | cons t ts ih =>
  by_cases z:t.1.Nodup
  · rw[Bv (by simpa using z)]
    simp only[lin,ih]
  · rw[Bx (by simpa using z),ih]
    simp only[lin];rw[zZ z,Dx,Int.zero_add]
structure Tk (t:Tm):Prop where
 ln:t.1.length<30
 nb:t.2.natAbs<=2^240
theorem aPx (A B:D)(T:List Tm)(hT:T.length<1000){s t:Tm}(hs:Tk s)(ht:Tk t)(f3 f4 f5 f6:Bool)(x7 x8 x9 x10:Option Res) :
 ∃ y7 y8 y9 y10,pbd (qE A B T (some ⟨.shr,f3,.tup (li s.1)⟩) (some ⟨.shr,f4,.int s.2⟩) (some ⟨.shr,f5,.tup (li t.1)⟩) (some ⟨.shr,f6,.int t.2⟩) x7 x8 x9 x10)=.nx (qE A B (stp T (s.1++t.1,s.2*t.2)) (some ⟨.shr,f3,.tup (li s.1)⟩) (some ⟨.shr,f4,.int s.2⟩) (some ⟨.shr,f5,.tup (li t.1)⟩) (some ⟨.shr,f6,.int t.2⟩) y7 y8 y9 y10):=by
 have l1:=hs.ln;have l2:=ht.ln;have hw:(s.1++t.1).length<64:=by rw[Ak];omega
 obtain⟨f7,e1⟩:∃ f7,aF 7 (eN (mT (vE 3)) (mT (vE 5))) (qE A B T (some ⟨.shr,f3,.tup (li s.1)⟩) (some ⟨.shr,f4,.int s.2⟩) (some ⟨.shr,f5,.tup (li t.1)⟩) (some ⟨.shr,f6,.int t.2⟩) x7 x8 x9 x10)=.nx (qE A B T (some ⟨.shr,f3,.tup (li s.1)⟩) (some ⟨.shr,f4,.int s.2⟩) (some ⟨.shr,f5,.tup (li t.1)⟩) (some ⟨.shr,f6,.int t.2⟩) (wR f7 (s.1++t.1)) x8 x9 x10):=by
  have g1:=aEd (f:=vE 3) (ρ:=qE A B T (some ⟨.shr,f3,.tup (li s.1)⟩) (some ⟨.shr,f4,.int s.2⟩) (some ⟨.shr,f5,.tup (li t.1)⟩) (some ⟨.shr,f6,.int t.2⟩) x7 x8 x9 x10) (k:=.shr) (fr:=f3||(D.tup (li s.1)).imm) (ds:=li s.1) rfl;have g2:=aEd (f:=vE 5) (ρ:=qE A B T (some ⟨.shr,f3,.tup (li s.1)⟩) (some ⟨.shr,f4,.int s.2⟩) (some ⟨.shr,f5,.tup (li t.1)⟩) (some ⟨.shr,f6,.int t.2⟩) x7 x8 x9 x10) (k:=.shr) (fr:=f5||(D.tup (li t.1)).imm) (ds:=li t.1) rfl;have cz:(li s.1).length+(li t.1).length<=sizeLine:=by rw[Ad,Ad,sizeLine_eq];omega
  have c:eN (mT (vE 3)) (mT (vE 5)) (qE A B T (some ⟨.shr,f3,.tup (li s.1)⟩) (some ⟨.shr,f4,.int s.2⟩) (some ⟨.shr,f5,.tup (li t.1)⟩) (some ⟨.shr,f6,.int t.2⟩) x7 x8 x9 x10)=.ok ⟨.tmp,(f3||(D.tup (li s.1)).imm)&&(f5||(D.tup (li t.1)).imm),.lst (li (s.1++t.1))⟩:=by
   simp only[eN,g1,g2,R.ok_bind,asL,if_pos cz,li,Ca]
  exact⟨_,cV c⟩
 generalize hW:s.1++t.1=w at *
 have ln:∀ x8 x9 x10,cB (vE 7) (qE A B T (some ⟨.shr,f3,.tup (li s.1)⟩) (some ⟨.shr,f4,.int s.2⟩) (some ⟨.shr,f5,.tup (li t.1)⟩) (some ⟨.shr,f6,.int t.2⟩) (wR f7 w) x8 x9 x10)=.ok ⟨.shr,true,.int (w.length:Nat)⟩:=fun x8 x9 x10=>by
  refine(gO (k:=.own) (fr:=f7||(D.lst (li w)).imm) (ds:=li w) rfl).trans ?_
  rw[Ad];rfl
 have c:=eJ (uE (aJn (f:=vE 7) (ρ:=qE A B T (some ⟨.shr,f3,.tup (li s.1)⟩) (some ⟨.shr,f4,.int s.2⟩) (some ⟨.shr,f5,.tup (li t.1)⟩) (some ⟨.shr,f6,.int t.2⟩) (wR f7 w) x8 x9 x10) (k:=.own) (fr:=f7||(D.lst (li w)).imm) rfl (by omega)) (ln x8 x9 x10))
 by_cases nd:w.Nodup
 · have q:(pF w:Int)=(w.length:Int):=by
    have h1:=aD5 w;have h2:¬ pF w<w.length:=fun z=>(aD3 w).mp z nd;omega
   rw[decide_eq_true q]at c;obtain⟨y9,lp⟩:=aLq A B T (some ⟨.shr,f3,.tup (li s.1)⟩) (some ⟨.shr,f4,.int s.2⟩) (some ⟨.shr,f5,.tup (li t.1)⟩) (some ⟨.shr,f6,.int t.2⟩) x10 hw f7 w.length 0 x9 (by omega)
   rw[Dw]at lp;have e2:aF 8 (cE (.int 0)) (qE A B T (some ⟨.shr,f3,.tup (li s.1)⟩) (some ⟨.shr,f4,.int s.2⟩) (some ⟨.shr,f5,.tup (li t.1)⟩) (some ⟨.shr,f6,.int t.2⟩) (wR f7 w) x8 x9 x10)=.nx (qE A B T (some ⟨.shr,f3,.tup (li s.1)⟩) (some ⟨.shr,f4,.int s.2⟩) (some ⟨.shr,f5,.tup (li t.1)⟩) (some ⟨.shr,f6,.int t.2⟩) (wR f7 w) (iR (gW w 0:Nat)) x9 x10):=rfl
   have e3:dR (dX (cB (vE 7))) (.nm 9) ivb (qE A B T (some ⟨.shr,f3,.tup (li s.1)⟩) (some ⟨.shr,f4,.int s.2⟩) (some ⟨.shr,f5,.tup (li t.1)⟩) (some ⟨.shr,f6,.int t.2⟩) (wR f7 w) (iR (gW w 0:Nat)) x9 x10)=.nx (qE A B T (some ⟨.shr,f3,.tup (li s.1)⟩) (some ⟨.shr,f4,.int s.2⟩) (some ⟨.shr,f5,.tup (li t.1)⟩) (some ⟨.shr,f6,.int t.2⟩) (wR f7 w) (iR (inv w:Nat)) y9 x10):=by
    refine(gU (jW (ln _ _ _) (by omega))).trans ?_
    rw[Cr];exact lp
   have e4:aF 10 (aGl (vI (vE 7))) (qE A B T (some ⟨.shr,f3,.tup (li s.1)⟩) (some ⟨.shr,f4,.int s.2⟩) (some ⟨.shr,f5,.tup (li t.1)⟩) (some ⟨.shr,f6,.int t.2⟩) (wR f7 w) (iR (inv w:Nat)) y9 x10)=.nx (qE A B T (some ⟨.shr,f3,.tup (li s.1)⟩) (some ⟨.shr,f4,.int s.2⟩) (some ⟨.shr,f5,.tup (li t.1)⟩) (some ⟨.shr,f6,.int t.2⟩) (wR f7 w) (iR (inv w:Nat)) y9 (some ⟨.shr,true,.tup (li (srt ix w))⟩)) :=
    set_shr (aQa (aM0 (k:=.own) (fr:=f7||(D.lst (li w)).imm) rfl hw))
   obtain⟨f8,e5⟩:=aPd (a:=vE 2) (k:=vE 10) (x:=cE (.int 0)) (ρ:=qE A B T (some ⟨.shr,f3,.tup (li s.1)⟩) (some ⟨.shr,f4,.int s.2⟩) (some ⟨.shr,f5,.tup (li t.1)⟩) (some ⟨.shr,f6,.int t.2⟩) (wR f7 w) (iR (inv w:Nat)) y9 (some ⟨.shr,true,.tup (li (srt ix w))⟩)) (A:=T) (q:=srt ix w) (kd:=.own) (kd':=.shr) (kd'':=.shr) (fr:=true) (fr':=true) (fr'':=true) rfl rfl rfl;have m1:cX (vE 4) (vE 6) (qE A B T (some ⟨.shr,f3,.tup (li s.1)⟩) (some ⟨.shr,f4,.int s.2⟩) (some ⟨.shr,f5,.tup (li t.1)⟩) (some ⟨.shr,f6,.int t.2⟩) (wR f7 w) (iR (inv w:Nat)) y9 (some ⟨.shr,true,.tup (li (srt ix w))⟩))=.ok ⟨.shr,true,.int (s.2*t.2)⟩:=bM (C:=CM) (G:=fun i j=>i*j) (k:=.shr) (fr:=f4||true) (i:=s.2) (k':=.shr) (fr':=f6||true) (j:=t.2) rfl rfl (qN (aO5 hs.nb) (aO5 ht.nb))
   have m2:=bM (C:=CM) (G:=fun i j=>i*j) m1 (Od.aU2 (f:=vE 8) (k:=.shr) (fr:=true) (x:=inv w) rfl) (qN (by
    rw[Fj]
    exact aDa (Bj (Fi hs.nb ht.nb) (by rw[←Hc];exact Cn (by decide) (by decide)))) (aUm _))
   have m3:=bM (C:=C0) (G:=fun i j=>i+j) e5 m2 rfl;have e6:=aL3 (fr:=true) (i:=2) (k:=vE 10) (f:=cR (aCo (vE 2) (vE 10) (cE (.int 0))) (cX (cX (vE 4) (vE 6)) (sgE (vE 8)))) (ρ:=qE A B T (some ⟨.shr,f3,.tup (li s.1)⟩) (some ⟨.shr,f4,.int s.2⟩) (some ⟨.shr,f5,.tup (li t.1)⟩) (some ⟨.shr,f6,.int t.2⟩) (wR f7 w) (iR (inv w:Nat)) y9 (some ⟨.shr,true,.tup (li (srt ix w))⟩)) (v:=look T (srt ix w)+s.2*t.2*sgn (inv w)) (kd:=.shr) (A:=T) (q:=srt ix w) (kd':=.shr) (fr':=true) rfl m3 (by decide) rfl (by rw[sizeLine_eq];omega)
   have v:val (w,s.2*t.2)=s.2*t.2*sgn (inv w):=by
    rw[mV];show trn w*_=_
    unfold trn;rw[if_pos nd,Bg]
   have z:stp T (w,s.2*t.2)=put T (srt ix w) (look T (srt ix w)+s.2*t.2*sgn (inv w)):=by
    unfold stp;rw[if_pos nd];show put T (key (w,s.2*t.2)) (look T (key (w,s.2*t.2))+val (w,s.2*t.2))=_
    rw[v];rfl
   have e7:ifS (bT (eqE (wN (vE 7)) (cB (vE 7)))) pin cI (qE A B T (some ⟨.shr,f3,.tup (li s.1)⟩) (some ⟨.shr,f4,.int s.2⟩) (some ⟨.shr,f5,.tup (li t.1)⟩) (some ⟨.shr,f6,.int t.2⟩) (wR f7 w) x8 x9 x10)=.nx (qE A B (stp T (w,s.2*t.2)) (some ⟨.shr,f3,.tup (li s.1)⟩) (some ⟨.shr,f4,.int s.2⟩) (some ⟨.shr,f5,.tup (li t.1)⟩) (some ⟨.shr,f6,.int t.2⟩) (wR f7 w) (iR (inv w:Nat)) y9 (some ⟨.shr,true,.tup (li (srt ix w))⟩)):=by
    rw[fF c,if_pos rfl,z];exact(aB e2).trans ((aB e3).trans ((aB e4).trans e6))
   exact⟨_,_,_,_,(aB e1).trans e7⟩
 · have q:(pF w:Int)≠(w.length:Int):=by
    have:=(aD3 w).mpr nd
    omega
   rw[decide_eq_false q]at c;have z:stp T (w,s.2*t.2)=T:=if_neg nd;rw[z];exact⟨_,_,_,_,(aB e1).trans ((fF c).trans rfl)⟩
end Od
namespace Od
open PySem L2 Mir Srt Sm
abbrev pT (f:Bool)(t:Tm):Option Res:=some ⟨.shr,f,.tup (li t.1)⟩
abbrev pN (f:Bool)(t:Tm):Option Res:=some ⟨.shr,f,.int t.2⟩
theorem aTu (A B:D){s:Tm}(hs:Tk s)(f3 f:Bool):∀ (ts T:List Tm) (x5 x6 x7 x8 x9 x10:Option Res),(∀ t∈ts,Tk t)->T.length+ts.length<=900 ->
 ∃ y5 y6 y7 y8 y9 y10,fG (.tp [.nm 5,.nm 6]) pbd f (ts.map mkP) (qE A B T (pT f3 s) (pN f3 s) x5 x6 x7 x8 x9 x10)=.nx (qE A B ((ts.map fun t=>(s.1++t.1,s.2*t.2)).foldl stp T) (pT f3 s) (pN f3 s) y5 y6 y7 y8 y9 y10)
 | [],T,x5,x6,x7,x8,x9,x10,_,_=>⟨x5,x6,x7,x8,x9,x10,rfl⟩
 | t :: ts,T,x5,x6,x7,x8,x9,x10,h,hz=>by
  rw[Al]at hz;obtain⟨y7,y8,y9,y10,e⟩:=aPx A B T (by omega) hs (h t Ab) f3 f3 f f x7 x8 x9 x10
  have sl:=aEm T (s.1++t.1,s.2*t.2);obtain⟨z5,z6,z7,z8,z9,z10,ih⟩:=aTu A B hs f3 f ts (stp T (s.1++t.1,s.2*t.2)) (pT f t) (pN f t) y7 y8 y9 y10 (fun u hu=>h u (Ac _ hu)) (by omega)
  have bd:Tg.bind f (.tp [.nm 5,.nm 6]) (mkP t) (qE A B T (pT f3 s) (pN f3 s) x5 x6 x7 x8 x9 x10)=.ok (qE A B T (pT f3 s) (pN f3 s) (pT f t) (pN f t) x7 x8 x9 x10):=rfl;exact⟨z5,z6,z7,z8,z9,z10,(qY (r:=ts.map mkP) bd e).trans ih⟩
theorem aBw (ts:List Tm):∀ T:List Tm,(ts.foldl stp T).length<=T.length+ts.length:=by
 induction ts with
 | nil=>intro T;exact Am _
 | cons t ts ih =>
  intro T;have h1:=ih (stp T t);have h2:=aEm T t;rw[Dd,Al];omega
theorem aOa (A:D){b:List Tm}(hb:∀ t∈b,Tk t)(f3:Bool):∀ (a T:List Tm) (x3 x4 x5 x6 x7 x8 x9 x10:Option Res),(∀ t∈a,Tk t)->T.length+a.length*b.length<=900 ->
 ∃ y3 y4 y5 y6 y7 y8 y9 y10,fG (.tp [.nm 3,.nm 4]) (dR (cN (vE 1)) (.tp [.nm 5,.nm 6]) pbd) f3 (a.map mkP) (qE A (cA b) T x3 x4 x5 x6 x7 x8 x9 x10)=.nx (qE A (cA b) ((aY a b).foldl stp T) y3 y4 y5 y6 y7 y8 y9 y10)
 | [],T,x3,x4,x5,x6,x7,x8,x9,x10,_,_=>⟨x3,x4,x5,x6,x7,x8,x9,x10,rfl⟩
 | s :: a,T,x3,x4,x5,x6,x7,x8,x9,x10,h,hz=>by
  rw[Al,Gw]at hz;obtain⟨y5,y6,y7,y8,y9,y10,e⟩:=aTu A (cA b) (h s Ab) f3 (false||(cA b).imm) b T x5 x6 x7 x8 x9 x10 hb (by omega)
  have fl:=aBw (b.map fun t=>(s.1++t.1,s.2*t.2)) T;rw[Ad]at fl;obtain⟨z3,z4,z5,z6,z7,z8,z9,z10,ih⟩:=aOa A hb f3 a ((b.map fun t=>(s.1++t.1,s.2*t.2)).foldl stp T) (pT f3 s) (pN f3 s) y5 y6 y7 y8 y9 y10 (fun u hu=>h u (Ac _ hu)) (by omega)
  have bd:Tg.bind f3 (.tp [.nm 3,.nm 4]) (mkP s) (qE A (cA b) T x3 x4 x5 x6 x7 x8 x9 x10)=.ok (qE A (cA b) T (pT f3 s) (pN f3 s) x5 x6 x7 x8 x9 x10):=rfl;have e':dR (cN (vE 1)) (.tp [.nm 5,.nm 6]) pbd (qE A (cA b) T (pT f3 s) (pN f3 s) x5 x6 x7 x8 x9 x10)=.nx (qE A (cA b) ((b.map fun t=>(s.1++t.1,s.2*t.2)).foldl stp T) (pT f3 s) (pN f3 s) y5 y6 y7 y8 y9 y10):=(gU (lJ (k:=.shr) (fr:=false||(cA b).imm) (ds:=b.map mkP) rfl)).trans e;refine⟨z3,z4,z5,z6,z7,z8,z9,z10,(qY (r:=a.map mkP) bd e').trans (ih.trans ?_)⟩
  rw[show aY (s :: a) b=(b.map fun t=>(s.1++t.1,s.2*t.2))++aY a b by unfold aY;rw[Hn],Hl]
abbrev kfb:FB:=Mir.bIf (bT (neE (mE (vE 1) (vE 0)) (cE (.int 0)))) (eW [vE 0,mE (vE 1) (vE 0)])
theorem vU:∀ T:List Tm,D.imms (T.map fun p=>D.int p.2)=true
 | []=>rfl
 | t :: T=>vU T
theorem aR7 {T:List Tm}(nd:(T.map (·.1)).Nodup)(hz:T.length<=1000)(A B:D)(x3 x4 x5 x6 x7 x8 x9 x10:Option Res):aC1 2 1 (.nm 0) kfb (qE A B T x3 x4 x5 x6 x7 x8 x9 x10)=.ok ⟨.tmp,true,.lst ((T.filter fun t=>t.2 != 0).map mkP)⟩:=by
 have c:fL (.nm 0) kfb false [none,some ⟨.shr,false,dK T⟩] (T.map fun t=>pW t.1)=.ok (true,(T.filter fun t=>t.2 != 0).map mkP):=by
  refine pG T fun t ht=>⟨[some ⟨.shr,false,.tup (li t.1)⟩,some ⟨.shr,false,dK T⟩],.shr,rfl,?_,by decide⟩
  have v0:vE 0 [some ⟨.shr,false,.tup (li t.1)⟩,some ⟨.shr,false,dK T⟩]=.ok ⟨.shr,true,.tup (li t.1)⟩:=aTs;have g:mE (vE 1) (vE 0) [some ⟨.shr,false,.tup (li t.1)⟩,some ⟨.shr,false,dK T⟩]=.ok ⟨.shr,true,.int (look T t.1)⟩:=aHx (kd:=.shr) (fr:=false||(dK T).imm) rfl v0 (Ah.mpr ⟨t,ht,rfl⟩);rw[zJ nd ht]at g;exact uC (r:=⟨.shr,true,mkP t⟩) (c:=t.2 != 0) (eJ (kT (k':=.shr) (fr':=true) (j:=0) g rfl)) fun _=>aD0 (k:=.shr) (fr:=true) (d:=.tup (li t.1)) v0 g (by decide) (by decide)
 have l:(T.map (·.1)).length<=sizeLine:=by rw[Ad,sizeLine_eq];omega
 show (fL (.nm 0) kfb false [none,some ⟨.shr,false,dK T⟩] ((T.map (·.1)).map pW) >>= fun y=>if D.imms (T.map fun p=>D.int p.2)=true/\(T.map (·.1)).length<=sizeLine/\y.1=true then R.ok (⟨.tmp,true,.lst y.2⟩:Res) else .stk)=_
 rw[Bt,show (pW∘fun (t:Tm)=>t.1)=fun t=>pW t.1 from rfl,c,R.ok_bind,if_pos ⟨vU T,l,rfl⟩]
theorem aLg {L K:Nat}{a b:List Tm}(ha:Sum L a)(hb:Sum K b)(h5:L+K<=20)(sm:(cD (aY a b)).length<64):cJ 2 11 xR [cA a,cA b]=.ok ⟨.tmp,true,cA (cD (aY a b))⟩:=by
 have hL:=ha.hL;have hK:=hb.hL;have ka:∀ t∈a,Tk t:=fun t ht=>⟨by rw[ha.sz t ht];omega,ha.nb t ht⟩
 have kb:∀ t∈b,Tk t:=fun t ht=>⟨by rw[hb.sz t ht];omega,hb.nb t ht⟩
 have mm:=Fi ha.ln hb.ln;have e1:aF 2 aEk [some ⟨.shr,false,cA a⟩,some ⟨.shr,false,cA b⟩,none,none,none,none,none,none,none,none,none]=.nx (qE (cA a) (cA b) [] none none none none none none none none):=rfl;obtain⟨y3,y4,y5,y6,y7,y8,y9,y10,l⟩:=aOa (cA a) kb (false||(cA a).imm) a [] none none none none none none none none ka (by rw[Dr];omega)
 have e2:dR (cN (vE 0)) (.tp [.nm 3,.nm 4]) (dR (cN (vE 1)) (.tp [.nm 5,.nm 6]) pbd) (qE (cA a) (cA b) [] none none none none none none none none)=.nx (qE (cA a) (cA b) ((aY a b).foldl stp []) y3 y4 y5 y6 y7 y8 y9 y10):=(gU (lJ (k:=.shr) (fr:=false||(cA a).imm) (ds:=a.map mkP) rfl)).trans l;have fl:=aBw (aY a b) [];rw[Dr,zD]at fl
 have so:cD (aY a b)=srt px (((aY a b).foldl stp []).filter fun t=>t.2 != 0):=by
  rw[←aF5,wU];rfl
 have nd:(((aY a b).foldl stp []).map (·.1)).Nodup:=by rw[wU];exact pJ _ [] Dh
 rw[so,aD7]at sm;rw[so];generalize (aY a b).foldl stp []=T at *
 have e3:∀ x7,bI (wT (aC1 2 1 (.nm 0) kfb)) (qE (cA a) (cA b) T y3 y4 y5 y6 x7 y8 y9 y10)=.rt ⟨.tmp,true,cA (srt px (T.filter fun t=>t.2 != 0))⟩:=fun x7=>by
  have k:=aR7 nd (by omega) (cA a) (cA b) y3 y4 y5 y6 x7 y8 y9 y10
  refine rC ?_
  simp only[wT,k,R.ok_bind,asL,aA6,if_pos sm]
 have e4:gJ 7 (bI (wT (aC1 2 1 (.nm 0) kfb))) (qE (cA a) (cA b) T y3 y4 y5 y6 y7 y8 y9 y10)=.rt ⟨.tmp,true,cA (srt px (T.filter fun t=>t.2 != 0))⟩:=by
  cases y7 with
  | none=>exact e3 none
  | some e=>exact e3 (some ⟨.shr,e.fr,e.d⟩)
 have g:xR (stE 11 [cA a,cA b])=.rt ⟨.tmp,true,cA (srt px (T.filter fun t=>t.2 != 0))⟩:=(aB e1).trans ((aB e2).trans e4);exact(cO (np:=2) (n:=11) (s:=xR) (ds:=[cA a,cA b]) rfl g).trans rfl
end Od
namespace Od
open PySem L2 Mir Srt Sm
def rO (m q:Nat)(L:List Int):List (List Int):=(Af q).map fun i=>aGw L (some ((i*m:Nat):Int)) (some ((i*m+m:Nat):Int))
theorem aMn {m q:Nat}{L:List Int}(l1:L.length=m*q):(rO m q L).length=q/\(∀ r∈rO m q L,r.length=m)/\∀ r∈rO m q L,∀ v∈r,v∈L:=by
 refine⟨by unfold rO;simp,fun r hr=>?_,fun r hr v hv=>?_⟩
 · obtain⟨i,hi,rfl⟩:=Ah.mp hr
   have hi:=Bp.mp hi
   have:i*m+m<=m*q:=by
    have:(i+1)*m<=q*m:=Gn _ hi
    rw[Gw,Nat.mul_comm q m]at this;exact this
   unfold aGw;rw[HT.jK,HT.jK,Ax,By,l1];omega
 · obtain⟨i,hi,rfl⟩:=Ah.mp hr
   exact Ce (Dz hv)
end Od
namespace Be
open PySem L2 Mir Srt Sm Hm
abbrev aMo:FS:=(aJ (aF 6 (cR (cX (vE 5) (vE 5)) (cX (cE (.int 3)) (vE 5))))
 (aJ (ifS (bT (ltE (vE 5) (cB (vE 0))))
  (aF 6 (bG (vE 0) (vE 5)))
  cI)
 (aJ (aF 7 (mK (gZ (vE 6) (cR (cX (cE (.int 2)) (vE 3)) (cE (.int 1)))) (vE 3)))
 (aJ (ifS (bT (eqE (gZ (kI (vE 6) (cR (cX (cE (.int 2)) (vE 3)) (cE (.int 1)))) (cE (.int 3))) (cE (.int 0))))
  (aF 7 (cE (.int 0)))
  cI)
 (kJ 4 (vE 7))))))
abbrev aD2:FS:=(aJ (aF 4 (dF []))
 (aJ (dR (nJ (vE 1) (cR (vE 1) (vE 2))) (.nm 5) aMo)
 (bI (vE 4))))
abbrev nE (ns:List Int)(b c:Option Res)(acc:List Int)(x5 x6 x7:Option Res):Mir.Env:=[some ⟨.shr,false,.lst (li ns)⟩,b,c,some ⟨.shr,false,.int 5⟩,some ⟨.own,true,.lst (li acc)⟩,x5,x6,x7]
theorem aI9 (ns:List Int)(b c x6 x7:Option Res)(acc:List Int)(k:Nat)(hk:k<=1000)(ha:acc.length<=1000):∃ (v:Int) (y6 y7:Option Res),v.natAbs<=5/\aMo (nE ns b c acc (nR k) x6 x7)=.nx (nE ns b c (acc++[v]) (nR k) y6 y7):=by
 have e1:aF 6 (cR (cX (vE 5) (vE 5)) (cX (cE (.int 3)) (vE 5))) (nE ns b c acc (nR k) x6 x7)=.nx (nE ns b c acc (nR k) (nR ((k:Int)*k+3*k)) x7) :=
  set_shr (bM (C:=C0) (bM (C:=CM) (k:=.shr) (fr:=true) (i:=(k:Int)) (k':=.shr) (fr':=true) (j:=k) rfl rfl (qN (sm9 (by omega)) (sm9 (by omega)))) (bM (C:=CM) (k:=.shr) (fr:=true) (i:=3) (k':=.shr) (fr':=true) (j:=k) rfl rfl (qN (sm9 (by decide)) (sm9 (by omega)))) rfl)
 obtain⟨r,e2⟩:∃ r:Int,ifS (bT (ltE (vE 5) (cB (vE 0)))) (aF 6 (bG (vE 0) (vE 5))) cI (nE ns b c acc (nR k) (nR ((k:Int)*k+3*k)) x7)=.nx (nE ns b c acc (nR k) (nR r) x7):=by
  have t:bT (ltE (vE 5) (cB (vE 0))) (nE ns b c acc (nR k) (nR ((k:Int)*k+3*k)) x7)=.ok (decide ((k:Int)<((li ns).length:Int))):=eJ (jL (G:=fun i j=>decide (i<j)) (k:=.shr) (fr:=true) (i:=(k:Int)) rfl (gO (k:=.shr) (fr:=false||(D.lst (li ns)).imm) (ds:=li ns) rfl));by_cases h:k<ns.length
  · rw[decide_eq_true (by rw[Ad];omega)]at t
    exact⟨ns.getD k 0,(fF t).trans (set_shr (gK (k:=.shr) (fr:=false||(D.lst (li ns)).imm) (ds:=li ns) rfl (k':=.shr) (fr':=true) (i:=k) rfl (jS h)))⟩
  · rw[decide_eq_false (by rw[Ad];omega)]at t
    exact⟨_,(fF t).trans rfl⟩
 have md:∀ x6 x7,cR (cX (cE (.int 2)) (vE 3)) (cE (.int 1)) (nE ns b c acc (nR k) x6 x7)=.ok ⟨.shr,true,.int 11⟩:=fun x6 x7=>bM (C:=C0) (G:=fun i j=>i+j) (bM (C:=CM) (G:=fun i j=>i*j) (f:=cE (.int 2)) (k:=.shr) (fr:=true) (i:=2) rfl (g:=vE 3) (k':=.shr) (fr':=true) (j:=5) rfl (qN (sm9 (by decide)) (sm9 (by decide)))) (g:=cE (.int 1)) (k':=.shr) (fr':=true) (j:=1) rfl rfl
 have e3:aF 7 (mK (gZ (vE 6) (cR (cX (cE (.int 2)) (vE 3)) (cE (.int 1)))) (vE 3)) (nE ns b c acc (nR k) (nR r) x7)=.nx (nE ns b c acc (nR k) (nR r) (nR (r%11-5))) :=
  set_shr (bM (C:=C0) (G:=fun i j=>i-j) (bM (C:=CP) (G:=fun i j=>i%j) (f:=vE 6) (k:=.shr) (fr:=true) (i:=r) rfl (md _ _) (wL (by decide))) (g:=vE 3) (k':=.shr) (fr':=true) (j:=5) rfl rfl)
 obtain⟨v,hv,e4⟩:∃ v:Int,v.natAbs<=5/\ifS (bT (eqE (gZ (kI (vE 6) (cR (cX (cE (.int 2)) (vE 3)) (cE (.int 1)))) (cE (.int 3))) (cE (.int 0)))) (aF 7 (cE (.int 0))) cI (nE ns b c acc (nR k) (nR r) (nR (r%11-5)))=.nx (nE ns b c acc (nR k) (nR r) (nR v)):=by
  have t:bT (eqE (gZ (kI (vE 6) (cR (cX (cE (.int 2)) (vE 3)) (cE (.int 1)))) (cE (.int 3))) (cE (.int 0))) (nE ns b c acc (nR k) (nR r) (nR (r%11-5)))=.ok (decide (r/11%3=0)) :=
   eJ (uE (bM (C:=CP) (G:=fun i j=>i%j) (bM (C:=CD) (G:=fun i j=>i/j) (f:=vE 6) (k:=.shr) (fr:=true) (i:=r) rfl (md _ _) (aUe (by decide) (by decide))) (g:=cE (.int 3)) (k':=.shr) (fr':=true) (j:=3) rfl (wL (by decide))) (g:=cE (.int 0)) (k':=.shr) (fr':=true) (j:=0) rfl)
  by_cases h:r/11%3=0
  · rw[decide_eq_true h]at t
    exact⟨0,by decide,(fF t).trans rfl⟩
  · rw[decide_eq_false h]at t
    exact⟨r%11-5,by omega,(fF t).trans rfl⟩
 have e5:kJ 4 (vE 7) (nE ns b c acc (nR k) (nR r) (nR v))=.nx (nE ns b c (acc++[v]) (nR k) (nR r) (nR v)):=by
  refine(rK (i:=4) (fr:=true) (ds:=li acc) (f:=vE 7) (k:=.shr) (fr':=true) (d:=.int v) rfl rfl (by decide) (by rw[Ad,sizeLine_eq];omega)).trans ?_
  show _=RS.nx [_,_,_,_,some (⟨.own,true,.lst (li (acc++[v]))⟩:Res),_,_,_]
  rw[show li (acc++[v])=li acc++[.int v] by simp[li]]
  rfl
 exact⟨v,_,_,hv,(aB e1).trans ((aB e2).trans ((aB e3).trans ((aB e4).trans e5)))⟩
theorem aAw (ns:List Int)(b c:Option Res):∀ (m k:Nat) (x5 x6 x7:Option Res) (acc:List Int),k+m<=1000->acc.length+m<=1000 ->
 ∃ (L:List Int) (y5 y6 y7:Option Res),L.length=m/\(∀ v∈L,v.natAbs<=5)/\fG (.nm 5) aMo true ((Bo k m).map fun (i:Nat)=>.int (i:Int)) (nE ns b c acc x5 x6 x7)=.nx (nE ns b c (acc++L) y5 y6 y7)
 | 0,k,x5,x6,x7,acc,_,_=>⟨[],x5,x6,x7,rfl,fun _ h=>by simp at h,by rw[De];rfl⟩
 | m+1,k,x5,x6,x7,acc,hk,ha=>by
  obtain⟨v,y6,y7,hv,e⟩:=aI9 ns b c x6 x7 acc k (by omega) (by omega)
  obtain⟨L,z5,z6,z7,l1,l2,e2⟩:=aAw ns b c m (k+1) (nR k) y6 y7 (acc++[v]) (by omega) (by simp;omega)
  have bd:Tg.bind true (.nm 5) (.int (k:Int)) (nE ns b c acc x5 x6 x7)=.ok (nE ns b c acc (nR k) x6 x7):=rfl;refine⟨v :: L,z5,z6,z7,by simp[l1],fun u hu=>?_,?_⟩
  · rcases Aj.mp hu with z | z
    · rw[z];exact hv
    · exact l2 u z
  · rw[Dj,Ai]
    refine(kL bd e).trans (e2.trans ?_)
    rw[Bn];rfl
theorem aL5 (ns:List Int)(st m:Nat)(h:st+m<=1000):∃ L:List Int,L.length=m/\(∀ v∈L,v.natAbs<=5)/\cJ 4 8 aD2 [.lst (li ns),.int st,.int m,.int 5]=.ok ⟨.tmp,true,.lst (li L)⟩:=by
 obtain⟨L,y5,y6,y7,l1,l2,e⟩:=aAw ns (some ⟨.shr,false,.int st⟩) (some ⟨.shr,false,.int m⟩) m st none none none [] (by omega) (by simp;omega)
 refine⟨L,l1,l2,?_⟩
 have e1:aF 4 (dF []) [some ⟨.shr,false,.lst (li ns)⟩,some ⟨.shr,false,.int st⟩,some ⟨.shr,false,.int m⟩,some ⟨.shr,false,.int 5⟩,none,none,none,none]=.nx (nE ns (some ⟨.shr,false,.int st⟩) (some ⟨.shr,false,.int m⟩) [] none none none):=rfl;have a:cR (vE 1) (vE 2) (nE ns (some ⟨.shr,false,.int st⟩) (some ⟨.shr,false,.int m⟩) [] none none none)=.ok (sc (.int ((st:Int)+(m:Int)))):=bM (C:=C0) (G:=fun i j=>i+j) (k:=.shr) (fr:=true) (i:=(st:Int)) (k':=.shr) (fr':=true) (j:=(m:Int)) rfl rfl rfl;have it:=aDp (a:=vE 1) (x:=⟨.shr,true,.int (st:Nat)⟩) (lo:=(st:Int)) (m:=m) (ρ:=nE ns (some ⟨.shr,false,.int st⟩) (some ⟨.shr,false,.int m⟩) [] none none none) rfl rfl a rfl (by omega) (by omega)
 rw[aGy]at it;have e2:=(gU (tg:=.nm 5) (b:=aMo) it).trans e;rw[Dq]at e2;exact(cO (np:=4) (n:=8) (s:=aD2) (ds:=[.lst (li ns),.int st,.int m,.int 5]) rfl ((aB e1).trans ((aB e2).trans (wV (f:=vE 4) (fr:=true) rfl)))).trans rfl
abbrev nz (t:Tm):Bool:=t.2 != 0
theorem aJq (g:List Int->Int):∀ ts:List Tm,lin (ts.filter nz) g=lin ts g
 | []=>rfl
 | t :: ts=>by
  rw[Eh];have ih:=aJq g ts;by_cases z:t.2=0
  · rw[if_neg (by simp[nz,z]),ih]
    have v:val t=0:=by unfold val;rw[z];split<;>simp
    show lin ts g=val t*g (key t)+lin ts g
    rw[v];omega
  · rw[if_pos (by simp[nz,z])]
    show val t*g (key t)+lin (ts.filter nz) g=val t*g (key t)+lin ts g
    rw[ih]
theorem aM5 (a ts:List Tm):cD (aY a (ts.filter nz))=cD (aY a ts):=by
 rw[←xV,←xV a ts,oQ (a:=ts.filter nz) (b:=ts) fun g=>aJq g ts]
abbrev vM (i:Nat):FE:=aW (pH (vE i)) 2 [] (.tp [.nm 0,.nm 1]) (Mir.bIf (bT (neE (vE 1) (cE (.int 0)))) (eW [eW [vE 0],vE 1]))
theorem aSf {i:Nat}{ρ:Mir.Env}{f:Bool}{k:Kd}{r:List Int}(h:vE i ρ=.ok ⟨k,f,.lst (li r)⟩)(hl:r.length<=1000):vM i ρ=.ok ⟨.tmp,true,cA ((dG r).filter nz)⟩:=by
 have rt:dG r=(Bo 0 r.length).map fun (j:Nat)=>(([(j:Int)],r.getD j 0):Tm):=by
  rw[jD,bL,Bt,Cr];apply Cg
  intro j _;simp only[Function.comp,Ec]
 have ht:cA ((dG r).filter nz)=.lst (((Bo 0 r.length).filter fun j=>r.getD j 0 != 0).map fun (j:Nat)=>mkP ([(j:Int)],r.getD j 0)):=by
  rw[rt,List.filter_map];show D.lst (List.map mkP (List.map _ _))=_
  rw[Bt];rfl
 rw[ht];refine tZ (st:=k != .own) (fr:=f) (inj:=fun (j:Nat)=>.tup [.int (j:Int),.int (r.getD j 0)]) (xs:=Bo 0 r.length) ?_ (fun j _=>?_) (by rw[List.length_range',sizeLine_eq];omega)
 · simp only[pH,h,R.ok_bind,asL,aK3]
 · refine⟨[some ⟨.shr,f,.int (j:Int)⟩,some ⟨.shr,f,.int (r.getD j 0)⟩],.shr,rfl,?_,by decide⟩
   have e1:eW [vE 0] [some ⟨.shr,f,.int (j:Int)⟩,some ⟨.shr,f,.int (r.getD j 0)⟩]=.ok ⟨.shr,true,.tup [.int (j:Int)]⟩:=by
    show R.ok (⟨.shr,(f||(D.int (j:Int)).imm)&&true,.tup [.int (j:Int)]⟩:Res)=_
    rw[show (D.int (j:Int)).imm=true from rfl,Fx];rfl
   have e2:vE 1 [some ⟨.shr,f,.int (j:Int)⟩,some ⟨.shr,f,.int (r.getD j 0)⟩]=.ok ⟨.shr,true,.int (r.getD j 0)⟩:=by
    show R.ok (⟨.shr,f||(D.int (r.getD j 0)).imm,.int (r.getD j 0)⟩:Res)=_
    rw[show (D.int (r.getD j 0)).imm=true from rfl,Fx]
   have b:=uC (t:=bT (neE (vE 1) (cE (.int 0)))) (f:=eW [eW [vE 0],vE 1]) (eJ (kT e2 (g:=cE (.int 0)) (k':=.shr) (fr':=true) (j:=0) rfl)) fun _=>aD0 e1 e2 (by decide) (by decide)
   rw[show (!decide (r.getD j 0=0))=(r.getD j 0 != 0) from rfl]at b
   exact b
abbrev aOq (φ:Φ):FS :=
 (aJ (aF 1 (dF [eW [eW [],cE (.int 1)]]))
 (aJ (dR (cN (vE 0)) (.nm 2)
  (aF 1 (aL φ [vE 1,vM 2])))
 (bI (vE 1))))
abbrev aC9 (φ:Φ):Prop:=∀ {L K:Nat} {a b:List Tm},Sum L a->Sum K b->L+K<=20->(cD (aY a b)).length<64->φ [cA a,cA b]=.ok ⟨.tmp,true,cA (cD (aY a b))⟩
theorem aBg {φ:Φ}(hφ:aC9 φ){m:Nat}(B:D):∀ (rs done:List (List Int)),RowsB m 4 (done++rs)->(done++rs).length<=5->∀ (x2:Option Res),
 ∃ y2,fG (.nm 2) (aF 1 (aL φ [vE 1,vM 2])) false (lil rs) [some ⟨.shr,false,B⟩,oR (box done),x2]=.nx [some ⟨.shr,false,B⟩,oR (box (done++rs)),y2]
 | [],done,_,_,x2=>⟨x2,by rw[De];rfl⟩
 | r :: rs,done,R,h5,x2=>by
  have h5':=h5;rw[Ak,Al]at h5';have R1:RowsB m 4 done:=R.sub (fun q hq=>Dl _ hq) (by omega)
  have mr:r∈done++r :: rs:=Az _ Ab;have r5:r.length<=5:=by rw[R.sz r mr];exact R.m5
  obtain⟨g1,g2⟩:=wA done.length done rfl R1;have rf:=aJ6 r5;have sa:Sum done.length (box done):=⟨g1.ln,g1.hL,g1.sz,g1.rg,g1.nd,fun t ht=>Bj (g2 t ht) (Cn (by decide) (by have:=Nat.min_le_right done.length 5;omega))⟩
  have rn:Nb 4 (dG r):=aEf (R.nb r mr)
  have rd:∀ t∈dG r,t.1.Nodup:=fun t ht=>by
   have:=rf.sz t ht
   match t.1,this with
   | [x],_=>exact Br.mpr ⟨by simp,Dh⟩
  have sb:Sum 1 ((dG r).filter nz):=⟨Bj (List.length_filter_le _ _) (by rw[aEa];omega),by decide,fun t ht=>rf.sz t (Ck.mp ht).1,fun t ht=>rf.rg t (Ck.mp ht).1,fun t ht=>rd t (Ck.mp ht).1,fun t ht=>Bj (rn t (Ck.mp ht).1) (Cn (by decide) (by decide))⟩
  have pe:cD (aY (box done) ((dG r).filter nz))=box (done++[r]):=by rw[aM5,←xV,aHf]
  have ln:(cD (aY (box done) ((dG r).filter nz))).length<64:=by
   rw[pe]
   have R2:RowsB m 4 (done++[r]):=R.sub (fun q hq=>by
    rcases Av.mp hq with q1 | q1
    · exact Dl _ q1
    · rw[As.mp q1];exact mr) (by rw[Ak,Ar];omega)
   have:=(wA _ (done++[r]) rfl R2).1.ln
   omega
  have e2:aF 1 (aL φ [vE 1,vM 2]) [some ⟨.shr,false,B⟩,oR (box done),some ⟨.shr,false,.lst (li r)⟩]=.nx [some ⟨.shr,false,B⟩,oR (box (done++[r])),some ⟨.shr,false,.lst (li r)⟩]:=by
   have:=cV (i:=1) (iP (φ:=φ) (fs:=[vE 1,vM 2]) (ρ:=[some ⟨.shr,false,B⟩,oR (box done),some ⟨.shr,false,.lst (li r)⟩]) (rs:=[⟨.own,true,cA (box done)⟩,⟨.tmp,true,cA ((dG r).filter nz)⟩]) (aG rfl (aG (aSf (k:=.shr) (f:=false||(D.lst (li r)).imm) rfl (by omega)) bO)) (hφ sa sb (by omega) ln))
   rw[pe]at this;exact this
  obtain⟨y2,ih⟩:=aBg hφ B rs (done++[r]) (by rw[Bn];exact R) (by rw[Bn];exact h5) (some ⟨.shr,false,.lst (li r)⟩)
  refine⟨y2,?_⟩
  have bd:Tg.bind false (.nm 2) (.lst (li r)) [some ⟨.shr,false,B⟩,oR (box done),x2]=.ok [some ⟨.shr,false,B⟩,oR (box done),some ⟨.shr,false,.lst (li r)⟩]:=rfl;refine(qY bd e2).trans (ih.trans ?_)
  rw[Bn];rfl
theorem aUt {φ:Φ}(hφ:aC9 φ){m:Nat}{rows:List (List Int)}(R:RowsB m 4 rows)(h5:rows.length<=5):cJ 1 3 (aOq φ) [.lst (lil rows)]=.ok ⟨.tmp,true,cA (box rows)⟩:=by
 have e1:aF 1 (dF [eW [eW [],cE (.int 1)]]) [some ⟨.shr,false,.lst (lil rows)⟩,none,none]=.nx [some ⟨.shr,false,.lst (lil rows)⟩,oR (box []),none]:=by rw[aFa];rfl
 obtain⟨y2,l⟩:=aBg hφ (.lst (lil rows)) rows [] R h5 none;have e2:dR (cN (vE 0)) (.nm 2) (aF 1 (aL φ [vE 1,vM 2])) [some ⟨.shr,false,.lst (lil rows)⟩,oR (box []),none]=.nx [some ⟨.shr,false,.lst (lil rows)⟩,oR (box rows),y2]:=(gU (fr:=false) (ds:=lil rows) rfl).trans l;exact(cO (np:=1) (n:=3) (s:=aOq φ) (ds:=[.lst (lil rows)]) rfl ((aB e1).trans ((aB e2).trans (wV (f:=vE 1) (fr:=true) rfl)))).trans rfl
abbrev aKq (φ:Φ):FS :=
 (aJ (aF 1 (aL φ [vE 0]))
 (aJ (ifS (bT (eqE (vE 1) (dF [])))
  (bI (cE (.int 0)))
  cI)
 (bI (bG (bG (vE 1) (cE (.int 0))) (cE (.int 1))))))
theorem aMb (p:Tm)(S:List Tm):lB (cA (p :: S)) (.lst [])=.ok false:=by
 obtain⟨p1,h1,h2,h3,h4⟩:=aIj (cA (p :: S)) 6 (aSc _)
 have sh:SeqAt.shaped p1=true:=by
  unfold SeqAt.shaped;rw[h3,decide_eq_true (Bj h2 (by decide))];rfl
 have ls:∃ a as,p1=.list (a :: as):=by
  have hh:gB (.lst (mkP p :: S.map mkP))=some p1:=h1;simp only[gB,mC]at hh;revert hh
  cases gB (mkP p)<;>cases mC (S.map mkP)<;>intro hh<;>simp at hh
  exact⟨_,_,hh.symm⟩
 obtain⟨a,as,rfl⟩:=ls;unfold lB;rw[h1];show (if SeqAt.shaped (.list (a :: as))&&SeqAt.shaped (.list []) then R.ok (PyData.eqv (.list (a :: as)) (.list [])) else .stk)=_
 rw[sh];rfl
theorem aTg {φ:Φ}{m:Nat}{rows:List (List Int)}(hφ:φ [.lst (lil rows)]=.ok ⟨.tmp,true,cA (box rows)⟩)(h6:m<6)(hl:rows.length=m)(hm:∀ r∈rows,r.length=m):cJ 1 2 (aKq φ) [.lst (lil rows)]=.ok (sc (.int (aT m (fR rows)))):=by
 have md:eA rows (bL m)=aT m (fR rows):=jR hl;have e1:aF 1 (aL φ [vE 0]) [some ⟨.shr,false,.lst (lil rows)⟩,none]=.nx [some ⟨.shr,false,.lst (lil rows)⟩,oR (box rows)]:=cV (iP (rs:=[⟨.shr,false||(D.lst (lil rows)).imm,.lst (lil rows)⟩]) (aG rfl bO) hφ);have f1:=fun p=>Od.aHb (rows:=rows) h6 hl hm (p:=p);have f2:=Od.aHm (rows:=rows) h6 hl hm;generalize box rows=S at *
 cases S with
 | nil =>
  have t:bT (eqE (vE 1) (dF [])) [some ⟨.shr,false,.lst (lil rows)⟩,oR []]=.ok true:=eJ (aIp (r:=⟨.own,true,cA []⟩) (r':=⟨.tmp,true,.lst []⟩) rfl rfl (oW 2 rfl (by decide)))
  have e2:ifS (bT (eqE (vE 1) (dF []))) (bI (cE (.int 0))) cI [some ⟨.shr,false,.lst (lil rows)⟩,oR []]=.rt (sc (.int 0)):=(fF t).trans rfl;rw[←md,f2 rfl];exact(cO (np:=1) (n:=2) (s:=aKq φ) (ds:=[.lst (lil rows)]) rfl ((aB e1).trans (mY e2))).trans rfl
 | cons p S =>
  have q:lB (cA (p :: S)) (.lst [])=.ok false:=aMb p S;have t:bT (eqE (vE 1) (dF [])) [some ⟨.shr,false,.lst (lil rows)⟩,oR (p :: S)]=.ok false:=eJ (aIp (r:=⟨.own,true,cA (p :: S)⟩) (r':=⟨.tmp,true,.lst []⟩) rfl rfl q);have e2:ifS (bT (eqE (vE 1) (dF []))) (bI (cE (.int 0))) cI [some ⟨.shr,false,.lst (lil rows)⟩,oR (p :: S)]=.nx [some ⟨.shr,false,.lst (lil rows)⟩,oR (p :: S)]:=(fF t).trans rfl;have i0:=iA (f:=vE 1) (g:=cE (.int 0)) (ρ:=[some ⟨.shr,false,.lst (lil rows)⟩,oR (p :: S)]) (k:=.own) (fr:=true) (ds:=(p :: S).map mkP) (k':=.shr) (fr':=true) (i:=0) (d:=mkP p) rfl rfl rfl;have i1:=Od.aVr (f:=bG (vE 1) (cE (.int 0))) (g:=cE (.int 1)) (ds:=[.tup (li p.1),.int p.2]) (i:=1) (d:=.int p.2) i0 (k':=.shr) (fr':=true) rfl rfl
  rw[←md,←f1 p Ab];exact(cO (np:=1) (n:=2) (s:=aKq φ) (ds:=[.lst (lil rows)]) rfl ((aB e1).trans ((aB e2).trans (fS i1)))).trans rfl
end Be
namespace N82
open PySem L2 Mir Srt Sm Hm Be
theorem aQt {m:Int}(h:(decide (m<1)||decide (5<m))=false):dN [.int m]=.ok (sc .non):=by
 have t:=aUu m;rw[h]at t;exact aCk (ρ:=[some ⟨.shr,false,.int m⟩]) rfl ((fF t).trans rfl)
theorem aUb {xs ys:List D}(h:xs.length=ys.length):dO [.lst xs,.lst ys]=.ok (sc .non):=aNc h
theorem aS8:zA bC:=fun {N} hN {xs} h=>aSn hN h
theorem aTn:qU nV:=fun a b c d e f g h i=>aNu a b c d e f g h i
theorem aWc:aJu gM:=fun a b c d e f g=>aFs aTn a b c d e f g
theorem aI6:nF aS:=fun {m N rows ends} E=>by
 have ln:=E.ln;have m1:=E.m1;have m5:=E.m5;exact aU5 (φr:=eX) (φa:=dO) (φc:=gM) (φu:=nO) (aIh (φc:=dN) aQt m1 m5 E.sz) (aUb (by rw[Ad,Ad];exact E.al.symm)) aWc (aNq (by omega)) E
theorem aK0:lP bH:=fun C h1 h2=>aUr C h1 h2
theorem aUf:aC9 dC:=fun ha hb h1 h2=>Od.aLg ha hb h1 h2
theorem aOj {m:Nat}{rows:List (List Int)}(R:RowsB m 4 rows)(hl:rows.length=m):aV [.lst (lil rows)]=.ok (sc (.int (aT m (fR rows)))):=by
 have m5:=R.m5;exact aTg (φ:=gR) (aUt (φ:=dC) aUf R (by omega)) (by omega) hl R.sz
theorem aOp {m:Nat}{rows:List (List Int)}(R:RowsB m 4 rows)(hl:rows.length=m):(aT m (fR rows)).natAbs<2^60:=by
 have m5:=R.m5;have M:Od.Mn m 4 rows (bL m):=⟨by rw[eL,hl],by rw[eL];omega,R.sz,R.nb,fun x hx=>dM.mp hx,by rw[eL];omega⟩
 have:=Od.aKr M
 rw[jR hl,eL]at this;refine Cv this (Cv (Gs 120 (Cn (by decide) (show 4*m<=20 by omega))) (by decide))
def trn (rows:List (List Int))(ends:List Int)(w:Nat):List (List Int):=(rows.zip ends).map fun p=>p.1.take w++[p.2]++p.1.drop (w+1)
theorem aFc {m N:Nat}{rows:List (List Int)}{ends:List Int}(E:Eqn m N rows ends)(hm:rows.length=m)(w:Nat):(trn rows ends w).length=m:=by
 unfold trn;rw[Ad,Ft,E.al,hm,Nat.min_self]
theorem aQh {m:Nat}{rows:List (List Int)}{ends:List Int}(E:Eqn m 4 rows ends)(hm:rows.length=m){w:Nat}(hw:w<m):RowsB m 4 (trn rows ends w):=by
 have m5:=E.m5;refine⟨E.m1,m5,by rw[aFc E hm];omega,fun r hr=>?_,fun r hr x hx=>?_⟩
 · obtain⟨p,hp,rfl⟩:=Ah.mp hr
   have:=E.sz _ (Di (a:=p.1) (b:=p.2) hp).1
   simp only[Ak,Ax,By,Ar];omega
 · obtain⟨p,hp,rfl⟩:=Ah.mp hr
   obtain⟨a,b⟩:=Di (a:=p.1) (b:=p.2) hp;rcases Av.mp hx with q | q
   · rcases Av.mp q with q | q
     · exact En (E.rn _ a x (Dz q))
     · rw[As.mp q];exact En (E.en _ b)
   · exact En (E.rn _ a x (Ce q))
theorem aDz {m N:Nat}{rows:List (List Int)}{ends:List Int}(E:Eqn m N rows ends)(hm:rows.length=m){w:Nat}(hw:w<m):aT m (fR (trn rows ends w))=aT m (fC rows ends w):=by
 refine eS fun i u hi hu=>?_
 have hi':i<(rows.zip ends).length:=by rw[Ft,E.al];omega
 have al:=E.al;have rz:=E.sz _ (Eg (show i<rows.length by omega))
 have e:(trn rows ends w).getD i []=(rows[i]'(by omega)).take w++[ends[i]'(by omega)]++(rows[i]'(by omega)).drop (w+1):=by
  unfold trn;rw[Aa,Ao,Ae hi',List.getElem_zip];rfl
 have er:rows.getD i []=rows[i]'(by omega):=by rw[Aa,Ae (by omega)];rfl
 have ee:ends.getD i 0=ends[i]'(by omega):=by rw[Aa,Ae (by omega)];rfl
 show ((trn rows ends w).getD i []).getD u 0=if u=w then ends.getD i 0 else (rows.getD i []).getD u 0
 rw[e,er,ee];rw[Aa,Aa];by_cases q:u=w
 · rw[if_pos q,q,Bn,Au (by rw[Ax];omega),Ax,show w-min w (rows[i]'(by omega)).length=0 by omega]
   rfl
 · rw[if_neg q]
   by_cases z:u<w
   · rw[Bn,Bm (by rw[Ax];omega),Es z]
   · rw[Au (by simp;omega),Ha]
     congr 2
     simp;omega
theorem aUy {ρ:Mir.Env}{f g:FE}{rows:List (List Int)}{ends:List Int}{k1 k2:Kd}{f1 f2 fw:Bool}{m w c:Nat}(h1:f ρ=.ok ⟨k1,f1,.lst (lil rows)⟩)(h2:g ρ=.ok ⟨k2,f2,.lst (li ends)⟩)(hc:ρ[c]?=some (some ⟨.shr,fw,.int (w:Nat)⟩))(hz:∀ r∈rows,r.length=m)(hl:rows.length<=100)(m5:m<=5)(hw:w<m) :
 ∃ b,aW (nN f g) 2 [c] (.tp [.nm 0,.nm 1]) (bE (eN (eN (eI (vE 0) (noO) (soO (vE 2))) (dF [vE 1])) (eI (vE 0) (soO (cR (vE 2) (cE (.int 1)))) (noO)))) ρ=.ok ⟨.tmp,b,.lst (lil (trn rows ends w))⟩:=by
 have it:nN f g ρ=.ok ⟨k1 != .own&&k2 != .own,f1&&f2,(rows.zip ends).map fun p=>.tup [.lst (li p.1),.int p.2]⟩:=by
  simp only[nN,h1,h2,R.ok_bind,asL];rw[show xD (lil rows) (li ends)=(rows.zip ends).map fun p=>.tup [.lst (li p.1),.int p.2] from rT (fun r=>D.lst (li r)) D.int rows ends]
 have ce:dP 2 [c] ρ=[none,none,some ⟨.shr,fw,.int (w:Nat)⟩]:=by simp[dP,hc]
 obtain⟨b,e⟩:=yQ (k:=2) (fs:=[c]) (tg:=.tp [.nm 0,.nm 1]) (b:=bE (eN (eN (eI (vE 0) (noO) (soO (vE 2))) (dF [vE 1])) (eI (vE 0) (soO (cR (vE 2) (cE (.int 1)))) (noO)))) (inj:=fun (p:List Int×Int)=>.tup [.lst (li p.1),.int p.2]) (out:=fun p=>.lst (li (p.1.take w++[p.2]++p.1.drop (w+1)))) (xs:=rows.zip ends) it (fun p hp=>by
  have pz:=hz _ (Di (a:=p.1) (b:=p.2) hp).1;rw[ce];have v0:vE 0 [some ⟨.shr,f1&&f2,.lst (li p.1)⟩,some ⟨.shr,f1&&f2,.int p.2⟩,some ⟨.shr,fw,.int (w:Nat)⟩]=.ok ⟨.shr,(f1&&f2)||(D.lst (li p.1)).imm,.lst (li p.1)⟩:=rfl;have a1:=jU (lo:=noO) (hi:=soO (vE 2)) v0 (a:=none) rfl (mH (k:=.shr) (fr:=fw||true) (i:=(w:Int)) rfl);rw[aOl]at a1;have a2:=jU (lo:=soO (cR (vE 2) (cE (.int 1)))) (hi:=noO) v0 (mH (bM (C:=C0) (G:=fun i j=>i+j) (k:=.shr) (fr:=fw||true) (i:=(w:Int)) (k':=.shr) (fr':=true) (j:=1) rfl rfl rfl)) (b:=none) rfl;rw[show ((w:Int)+1)=((w+1:Nat):Int) by omega,aD6]at a2
  have c1:=qL a1 (aNg (f:=vE 1) (fr:=(f1&&f2)||true) (d:=.int p.2) rfl) (by rw[Ax,Ad,Ar,sizeLine_eq];omega)
  have c2:=qL c1 a2 (by simp only[Ak,Ax,By,Ad,Ar,sizeLine_eq];omega)
  rw[show (li p.1).take w++[D.int p.2]++(li p.1).drop (w+1)=li (p.1.take w++[p.2]++p.1.drop (w+1)) by simp[li,Hs,Fc]]at c2
  exact⟨_,.tmp,_,rfl,iM c2,by decide⟩) (by rw[Ft,sizeLine_eq];have:=Nat.min_le_left rows.length ends.length;omega)
 refine⟨b,e.trans ?_⟩
 rw[show lil (trn rows ends w)=(rows.zip ends).map fun p=>.lst (li (p.1.take w++[p.2]++p.1.drop (w+1))) by simp[trn,lil,Function.comp_def]]
end N82
namespace N82
open PySem L2 Mir Srt Sm Hm Be
abbrev V12 (ns:List Int)(x1 x2 x3 x4 x5 x6 x7 x8 x9 x10 x11:Option Res):Mir.Env:=[some ⟨.shr,false,.lst (li ns)⟩,x1,x2,x3,x4,x5,x6,x7,x8,x9,x10,x11]
abbrev lO (xs:List Int):Option Res:=some ⟨.own,true,.lst (li xs)⟩
theorem aMr {f:FE}{ρ:Mir.Env}{k:Kd}{fr:Bool}{acc:List Int}{v:Int}(h:f ρ=.ok ⟨k,fr,.lst (li (acc++[v]))⟩):bG f (nA (cE (.int 1))) ρ=.ok ⟨.shr,true,.int v⟩:=by
 have n:nA (cE (.int 1)) ρ=.ok ⟨.shr,true,.int (-1)⟩:=rfl
 have a:L2.atI (li (acc++[v])) (-1)=some (.int v):=by
  unfold L2.atI L2.ixN;rw[if_neg (by decide),if_pos (by rw[Ad,Ak,Ar];omega)]
  show (li (acc++[v]))[((-1:Int)+((li (acc++[v])).length:Int)).toNat]?=_
  rw[Ad,Ak,Ar,show ((-1:Int)+((acc.length+1:Nat):Int)).toNat=acc.length by omega]
  simp[li]
 simp only[bG,h,n,R.ok_bind,asS,asI,a];show R.ok (⟨.shr,fr||true,.int v⟩:Res)=_
 rw[Fx]
theorem rJ {m:Nat}:∀ (ts:List (List Int)) (k:Nat) (acc:List Int) (w:Nat),k+ts.length<=acc.length->(qA m ((Bo k ts.length).zip ts) acc).getD w 0=if k<=w/\w<k+ts.length then (ts.getD (w-k) []).getD m 0 else acc.getD w 0
 | [],k,acc,w,_=>by rw[if_neg (by rw[Dr];omega)];rfl
 | t :: ts,k,acc,w,h=>by
  rw[Al]at h;rw[Al,Dj,Fv];show (qA m ((Bo (k+1) ts.length).zip ts) (acc.set k (t.getD m 0))).getD w 0=_
  rw[rJ ts (k+1) (acc.set k (t.getD m 0)) w (by rw[Cb];omega)]
  by_cases q:w=k
  · subst q
    rw[if_neg (by omega),if_pos (by omega),Ia]
    simp[Aa,show w<acc.length by omega]
  · by_cases z:k+1<=w/\w<k+1+ts.length
    · rw[if_pos z,if_pos (by omega),show w-k=(w-(k+1))+1 by omega];rfl
    · rw[if_neg z,if_neg (by omega)]
      simp[Aa,List.getElem?_set,show ¬ k=w by omega]
section
variable {m:Nat}{rows:List (List Int)}{ends:List Int}
abbrev δ (m:Nat)(rows:List (List Int))(ends:List Int)(w:Nat):Int:=aT m (fC rows ends w)
abbrev G (m:Nat)(rows:List (List Int))(ends:List Int)(w:Nat):Nat:=((Af w).map (δ m rows ends)).foldl (fun g x=>Ee g x.natAbs) (aT m (fR rows)).natAbs
theorem aQm (w:Nat):G m rows ends (w+1)=Ee (G m rows ends w) (δ m rows ends w).natAbs:=by
 unfold G;rw[Ez,Ca,Hl];rfl
abbrev Bw:FS:=(aJ (aF 11 (aW (nN (vE 3) (vE 4)) 2 [10] (.tp [.nm 0,.nm 1]) (bE (eN (eN (eI (vE 0) (noO) (soO (vE 2))) (dF [vE 1])) (eI (vE 0) (soO (cR (vE 2) (cE (.int 1)))) (noO))))))
 (aJ (kJ 9 (aL aV [vE 11]))
 (aF 8 (aL cU [vE 8,bG (vE 9) (nA (cE (.int 1)))]))))
theorem aPv (E:Eqn m 4 rows ends)(hm:rows.length=m)(ns:List Int)(x2 x5 x6 x11:Option Res)(dv by':Int){w:Nat}(hw:w<m)(hb:by'.natAbs=G m rows ends w) :
 ∃ y11,Bw (V12 ns (nR m) x2 (tR true rows) (lO ends) x5 x6 (nR dv) (nR by') (lO ((Af w).map (δ m rows ends))) (nR w) x11)=.nx (V12 ns (nR m) x2 (tR true rows) (lO ends) x5 x6 (nR dv) (nR (G m rows ends (w+1):Nat)) (lO ((Af (w+1)).map (δ m rows ends))) (nR w) y11):=by
 have m5:=E.m5;have ln:=E.ln;obtain⟨b,c⟩:=aUy (ρ:=V12 ns (nR m) x2 (tR true rows) (lO ends) x5 x6 (nR dv) (nR by') (lO ((Af w).map (δ m rows ends))) (nR w) x11) (f:=vE 3) (g:=vE 4) (k1:=.own) (f1:=true) (k2:=.own) (f2:=true) (c:=10) (fw:=true) (w:=w) rfl rfl rfl E.sz ln m5 hw
 have e1:aF 11 (aW (nN (vE 3) (vE 4)) 2 [10] (.tp [.nm 0,.nm 1]) (bE (eN (eN (eI (vE 0) (noO) (soO (vE 2))) (dF [vE 1])) (eI (vE 0) (soO (cR (vE 2) (cE (.int 1)))) (noO))))) (V12 ns (nR m) x2 (tR true rows) (lO ends) x5 x6 (nR dv) (nR by') (lO ((Af w).map (δ m rows ends))) (nR w) x11)=.nx (V12 ns (nR m) x2 (tR true rows) (lO ends) x5 x6 (nR dv) (nR by') (lO ((Af w).map (δ m rows ends))) (nR w) (tR b (trn rows ends w))):=cV c
 have R:=aQh E hm hw;have tl:=aFc E hm w
 have dt:aL aV [vE 11] (V12 ns (nR m) x2 (tR true rows) (lO ends) x5 x6 (nR dv) (nR by') (lO ((Af w).map (δ m rows ends))) (nR w) (tR b (trn rows ends w)))=.ok ⟨.shr,true,.int (δ m rows ends w)⟩:=by
  have:=eG (φ:=aV) (fs:=[vE 11]) (ρ:=V12 ns (nR m) x2 (tR true rows) (lO ends) x5 x6 (nR dv) (nR by') (lO ((Af w).map (δ m rows ends))) (nR w) (tR b (trn rows ends w))) (rs:=[⟨.own,b||(D.lst (lil (trn rows ends w))).imm,.lst (lil (trn rows ends w))⟩]) (aG rfl bO) (aOj R tl)
  rw[aDz E hm hw]at this;exact this
 have sp:li ((Af (w+1)).map (δ m rows ends))=li ((Af w).map (δ m rows ends))++[.int (δ m rows ends w)]:=by rw[Ez];simp[li]
 have e2:kJ 9 (aL aV [vE 11]) (V12 ns (nR m) x2 (tR true rows) (lO ends) x5 x6 (nR dv) (nR by') (lO ((Af w).map (δ m rows ends))) (nR w) (tR b (trn rows ends w)))=.nx (V12 ns (nR m) x2 (tR true rows) (lO ends) x5 x6 (nR dv) (nR by') (lO ((Af (w+1)).map (δ m rows ends))) (nR w) (tR b (trn rows ends w))):=by
  refine(rK (i:=9) (fr:=true) (ds:=li ((Af w).map (δ m rows ends))) rfl dt (by decide) (by rw[Ad,Ad,Cq,sizeLine_eq];omega)).trans ?_
  show _=RS.nx (V12 ns (nR m) x2 (tR true rows) (lO ends) x5 x6 (nR dv) (nR by') (some ⟨.own,true,.lst (li ((Af (w+1)).map (δ m rows ends)))⟩) (nR w) (tR b (trn rows ends w)))
  rw[sp];rfl
 have ix:bG (vE 9) (nA (cE (.int 1))) (V12 ns (nR m) x2 (tR true rows) (lO ends) x5 x6 (nR dv) (nR by') (lO ((Af (w+1)).map (δ m rows ends))) (nR w) (tR b (trn rows ends w)))=.ok ⟨.shr,true,.int (δ m rows ends w)⟩:=aMr (k:=.own) (fr:=true) (acc:=(Af w).map (δ m rows ends)) (by
  rw[show (Af w).map (δ m rows ends)++[δ m rows ends w]=(Af (w+1)).map (δ m rows ends) by rw[Ez,Ca];rfl]
  rfl)
 have sm:(δ m rows ends w).natAbs<2^60:=by
  have:=aOp R tl
  rw[aDz E hm hw]at this;exact this
 have sh:cU [.int by',.int (δ m rows ends w)]=.ok (sc (.int (G m rows ends (w+1):Nat))):=by
  rw[aQm,←hb];exact aTb sm
 have e3:aF 8 (aL cU [vE 8,bG (vE 9) (nA (cE (.int 1)))]) (V12 ns (nR m) x2 (tR true rows) (lO ends) x5 x6 (nR dv) (nR by') (lO ((Af (w+1)).map (δ m rows ends))) (nR w) (tR b (trn rows ends w)))=.nx (V12 ns (nR m) x2 (tR true rows) (lO ends) x5 x6 (nR dv) (nR (G m rows ends (w+1):Nat)) (lO ((Af (w+1)).map (δ m rows ends))) (nR w) (tR b (trn rows ends w))):=set_shr (eG (rs:=[⟨.shr,true,.int by'⟩,⟨.shr,true,.int (δ m rows ends w)⟩]) (aG rfl (aG ix bO)) sh)
 exact⟨_,(aB e1).trans ((aB e2).trans e3)⟩
theorem aG1 (E:Eqn m 4 rows ends)(hm:rows.length=m)(ns:List Int)(x2 x5 x6:Option Res)(dv:Int):∀ (r w:Nat) (by':Int) (x10 x11:Option Res),w+r=m->by'.natAbs=G m rows ends w ->
 ∃ (c:Int) (y10 y11:Option Res),c.natAbs=G m rows ends m/\(0<r->0<=c)/\fG (.nm 10) Bw true ((Bo w r).map fun (i:Nat)=>.int (i:Int)) (V12 ns (nR m) x2 (tR true rows) (lO ends) x5 x6 (nR dv) (nR by') (lO ((Af w).map (δ m rows ends))) x10 x11)=.nx (V12 ns (nR m) x2 (tR true rows) (lO ends) x5 x6 (nR dv) (nR c) (lO ((Af m).map (δ m rows ends))) y10 y11)
 | 0,w,by',x10,x11,h,hb=>⟨by',x10,x11,by rw[hb,show w=m by omega],fun h=>absurd h (by decide),by rw[show w=m by omega];rfl⟩
 | r+1,w,by',x10,x11,h,hb=>by
  obtain⟨y11,e⟩:=aPv E hm ns x2 x5 x6 x11 dv by' (show w<m by omega) hb
  obtain⟨c,z10,z11,h1,h2,e2⟩:=aG1 E hm ns x2 x5 x6 dv r (w+1) (G m rows ends (w+1):Nat) (nR w) y11 (by omega) (Hb _)
  have bd:Tg.bind true (.nm 10) (.int (w:Int)) (V12 ns (nR m) x2 (tR true rows) (lO ends) x5 x6 (nR dv) (nR by') (lO ((Af w).map (δ m rows ends))) x10 x11)=.ok (V12 ns (nR m) x2 (tR true rows) (lO ends) x5 x6 (nR dv) (nR by') (lO ((Af w).map (δ m rows ends))) (nR w) x11):=rfl
  refine⟨c,z10,z11,h1,fun _=>?_,by rw[Dj,Ai];exact(kL bd e).trans e2⟩
  by_cases z:0<r
  · exact h2 z
  · have r0:r=0:=by omega
    subst r0;have e3:RS.nx (V12 ns (nR m) x2 (tR true rows) (lO ends) x5 x6 (nR dv) (nR (G m rows ends (w+1):Nat)) (lO ((Af (w+1)).map (δ m rows ends))) (nR w) y11)=RS.nx (V12 ns (nR m) x2 (tR true rows) (lO ends) x5 x6 (nR dv) (nR c) (lO ((Af m).map (δ m rows ends))) z10 z11):=e2;injection e3 with e3
    have:=congrArg (fun l:Mir.Env=>l[8]?) e3
    simp at this
    rw[←this];exact Int.natCast_nonneg _
theorem aIr:bV (aT m (fR rows) :: (Af m).map (δ m rows ends))=G m rows ends m:=by
 unfold bV G;rw[Dd,Nat.gcd_zero_left]
end
end N82
namespace N82
open PySem L2 Mir Srt Sm Hm Be
def qG (ns:List Int)(m:Nat):List Int:=(Af m).map fun k=>jC ns (30+k)%19-9
theorem aIi {f g:FE}{ρ:Mir.Env}{k k':Kd}{fr fr':Bool}(ns:List Int)(i:Nat)(h1:f ρ=.ok ⟨k,fr,.lst (li ns)⟩)(h2:g ρ=.ok ⟨k',fr',.int (i:Nat)⟩):aL dH [f,g] ρ=.ok ⟨.shr,true,.int (jC ns i)⟩:=eG (rs:=[⟨k,fr,.lst (li ns)⟩,⟨k',fr',.int (i:Nat)⟩]) (aG h1 (aG h2 bO)) (aRi ns i)
theorem aRv (ns:List Int){m:Nat}(x2 x3:Option Res)(hm:m<=5):aF 4 (aW (dX (vE 1)) 1 [0] (.nm 0) (bE (mK (gZ (aL dH [vE 1,cR (cE (.int 30)) (vE 0)]) (cE (.int 19))) (cE (.int 9))))) (V12 ns (nR m) x2 x3 none none none none none none none none)=.nx (V12 ns (nR m) x2 x3 (lO (qG ns m)) none none none none none none none):=by
 refine(cV (fP (inj:=fun (k:Nat)=>.int (k:Int)) (out:=fun k=>.int (jC ns (30+k)%19-9)) (xs:=Af m) (jW (k:=.shr) (fr:=true) (n:=m) rfl (by omega)) (fun k hk=>⟨[nR k,some ⟨.shr,false,.lst (li ns)⟩],.shr,rfl,iM ?_,by decide⟩) (by rw[Cq,sizeLine_eq];omega))).trans ?_
 · have a:cR (cE (.int 30)) (vE 0) [nR k,some ⟨.shr,false,.lst (li ns)⟩]=.ok ⟨.shr,true,.int ((30+k:Nat):Int)⟩:=by
    refine(bM (C:=C0) (G:=fun i j=>i+j) (f:=cE (.int 30)) (k:=.shr) (fr:=true) (i:=30) rfl (g:=vE 0) (k':=.shr) (fr':=true) (j:=(k:Int)) rfl rfl).trans ?_
    rw[show ((30+k:Nat):Int)=30+(k:Int) by omega];rfl
   exact bM (C:=C0) (G:=fun i j=>i-j) (bM (C:=CP) (G:=fun i j=>i%j) (aIi ns (30+k) (f:=vE 1) (k:=.shr) (fr:=false||(D.lst (li ns)).imm) rfl a) (g:=cE (.int 19)) (k':=.shr) (fr':=true) (j:=19) rfl (wL (by decide))) (g:=cE (.int 9)) (k':=.shr) (fr':=true) (j:=9) rfl rfl
 · show _=RS.nx (V12 ns (nR m) x2 x3 (some ⟨.own,true,.lst (li (qG ns m))⟩) none none none none none none none)
   rw[show li (qG ns m)=(Af m).map fun k=>.int (jC ns (30+k)%19-9) by simp[qG,li,Function.comp_def]]
   rfl
theorem aQp (ns:List Int){m:Nat}(hm:m<=5)(L:List Int):aF 3 (aW (dX (vE 1)) 1 [2,1] (.nm 0) (bE (eI (vE 1) (soO (cX (vE 0) (vE 2))) (soO (cR (cX (vE 0) (vE 2)) (vE 2)))))) (V12 ns (nR m) (lO L) none none none none none none none none none)=.nx (V12 ns (nR m) (lO L) (tR true (Od.rO m m L)) none none none none none none none none):=by
 refine(cV (fP (st:=true) (fr:=true) (inj:=fun (i:Nat)=>.int (i:Int)) (out:=fun i=>.lst (li (aGw L (some ((i*m:Nat):Int)) (some ((i*m+m:Nat):Int))))) (xs:=Af m) (jW (k:=.shr) (fr:=true) (n:=m) rfl (by omega)) (fun i hi=>?_) (by rw[Cq,sizeLine_eq];omega))).trans ?_
 · have hi:=Bp.mp hi
   refine⟨[nR (i:Nat),lO L,nR m],.tmp,rfl,iM ?_,by decide⟩
   have mu:cX (vE 0) (vE 2) [nR (i:Nat),lO L,nR m]=.ok ⟨.shr,true,.int ((i:Int)*(m:Int))⟩:=bM (k:=.shr) (fr:=true) (i:=(i:Int)) (k':=.shr) (fr':=true) (j:=(m:Int)) rfl rfl (qN (sm9 (by omega)) (sm9 (by omega)))
   refine(jU (k:=.own) (fr:=true) (ds:=li L) rfl (mH mu) (mH (bM mu (k':=.shr) (fr':=true) (j:=(m:Int)) rfl rfl))).trans ?_
   rw[aRq,←Gq,←Int.natCast_add]
 · show _=RS.nx (V12 ns (nR m) (lO L) (some ⟨.own,true,.lst (lil (Od.rO m m L))⟩) none none none none none none none none)
   rw[show lil (Od.rO m m L)=(Af m).map fun (i:Nat)=>.lst (li (aGw L (some ((i*m:Nat):Int)) (some ((i*m+m:Nat):Int)))) by simp[Od.rO,lil,Function.comp_def]]
   rfl
theorem law_ok (ns:List Int):vN [.lst (ns.map .int)]=.ok (sc (.bl true)):=by
 have c0:=aG7 ns 0;obtain⟨m,hm⟩:=Int.eq_ofNat_of_zero_le (show 0<=1+jC ns 0%5 by omega)
 have m1:1<=m:=by omega
 have m5:m<=5:=by omega
 have mm:m*m<=25:=Fi m5 m5
 have e1:aF 1 (cR (cE (.int 1)) (gZ (aL dH [vE 0,cE (.int 0)]) (cE (.int 5)))) (V12 ns none none none none none none none none none none none)=.nx (V12 ns (nR m) none none none none none none none none none none):=by
  have:=set_shr (i:=1) (bM (C:=C0) (G:=fun i j=>i+j) (f:=cE (.int 1)) (k:=.shr) (fr:=true) (i:=1) rfl (bM (C:=CP) (G:=fun i j=>i%j) (aIi ns 0 (f:=vE 0) (g:=cE (.int 0)) (ρ:=V12 ns none none none none none none none none none none none) (k:=.shr) (fr:=false||(D.lst (li ns)).imm) rfl (k':=.shr) (fr':=true) rfl) (g:=cE (.int 5)) (k':=.shr) (fr':=true) (j:=5) rfl (wL (by decide))) rfl)
  rw[hm]at this;exact this
 obtain⟨L,l1,l2,en⟩:=aL5 ns 1 (m*m) (by omega)
 have e2:aF 2 (aL dB [vE 0,cE (.int 1),cX (vE 1) (vE 1),cE (.int 5)]) (V12 ns (nR m) none none none none none none none none none none)=.nx (V12 ns (nR m) (lO L) none none none none none none none none none):=by
  have mu:cX (vE 1) (vE 1) (V12 ns (nR m) none none none none none none none none none none)=.ok ⟨.shr,true,.int ((m*m:Nat):Int)⟩:=by
   rw[Gq];exact bM (C:=CM) (G:=fun i j=>i*j) (k:=.shr) (fr:=true) (i:=(m:Int)) (k':=.shr) (fr':=true) (j:=(m:Int)) rfl rfl (qN (sm9 (by omega)) (sm9 (by omega)))
  exact cV (iP (φ:=dB) (rs:=[⟨.shr,false||(D.lst (li ns)).imm,.lst (li ns)⟩,⟨.shr,true,.int (1:Nat)⟩,⟨.shr,true,.int ((m*m:Nat):Int)⟩,⟨.shr,true,.int 5⟩]) (aG rfl (aG rfl (aG mu (aG rfl bO)))) en)
 obtain⟨r1,r2,r3⟩:=Od.aMn (m:=m) (q:=m) (L:=L) l1;have e3:=aQp ns m5 L;have e4:=aRv ns (lO L) (tR true (Od.rO m m L)) m5;have el:(qG ns m).length=m:=by unfold qG;simp
 have E:Eqn m 4 (Od.rO m m L) (qG ns m):=⟨m1,m5,by omega,r2,by omega,fun r hr x hx=>by
  have:=l2 x (r3 r hr x hx)
  show _<16
  omega,fun x hx=>by
  obtain⟨k,_,rfl⟩:=Ah.mp hx;show _<16
  omega,by decide,by decide⟩
 generalize Od.rO m m L=rows at *
 generalize qG ns m=ends at *
 have ln:=E.ln;have RB:RowsB m 4 rows:=⟨m1,m5,by omega,r2,fun r hr x hx=>En (E.rn r hr x hx)⟩
 obtain⟨C,_⟩:=aI6 E;have rs3:∀ x5,evs [vE 1,vE 3,vE 4] (V12 ns (nR m) (lO L) (tR true rows) (lO ends) x5 none none none none none none)=.ok [⟨.shr,true,.int m⟩,⟨.own,true,.lst (lil rows)⟩,⟨.own,true,.lst (li ends)⟩]:=fun _=>aG rfl (aG rfl (aG rfl bO));have e8:∀ x5 x6,aF 7 (aL aV [vE 3]) (V12 ns (nR m) (lO L) (tR true rows) (lO ends) x5 x6 none none none none none)=.nx (V12 ns (nR m) (lO L) (tR true rows) (lO ends) x5 x6 (nR (aT m (fR rows))) none none none none):=fun _ _=>set_shr (eG (rs:=[⟨.own,true,.lst (lil rows)⟩]) (aG rfl bO) (aOj RB r1));have t9:∀ x5 x6,bT (eqE (vE 7) (cE (.int 0))) (V12 ns (nR m) (lO L) (tR true rows) (lO ends) x5 x6 (nR (aT m (fR rows))) none none none none)=.ok (decide (aT m (fR rows)=0)):=fun _ _=>eJ (uE (k:=.shr) (fr:=true) (i:=aT m (fR rows)) (k':=.shr) (fr':=true) (j:=0) rfl rfl)
 by_cases z:brd m (bS (eqT rows ends) m)=[]
 · -- answered
   have an:=aQ8 (φq:=aS) (φb:=bH) (φl:=iT) (φg:=bC) aI6 aK0 aS8 rfl E z;have ba:=aR3 (φq:=aS) (φb:=bH) (φg:=bC) aI6 aK0 E z;have cr:=fun (h0:aT m (fR rows)≠0) (w:Nat) (hw:w<m)=>aQz E r1 h0 C hw;have fu:=fun (h0:aT m (fR rows)≠0)=>aGj E r1 h0 C;generalize bS (eqT rows ends) m=s at *
   generalize hA:D.tup [.int (s.b/(bV (s.b :: fH m s):Nat)),.lst (li ((fH m s).map (·/(bV (s.b :: fH m s):Int))))]=A at an
   have e5:aF 5 (aL iQ [vE 1,vE 3,vE 4]) (V12 ns (nR m) (lO L) (tR true rows) (lO ends) none none none none none none none)=.nx (V12 ns (nR m) (lO L) (tR true rows) (lO ends) (some ⟨.shr,true,A⟩) none none none none none none):=set_shr (eG (rs3 none) an);have e6:aF 6 (aL vW [vE 1,vE 3,vE 4]) (V12 ns (nR m) (lO L) (tR true rows) (lO ends) (some ⟨.shr,true,A⟩) none none none none none none)=.nx (V12 ns (nR m) (lO L) (tR true rows) (lO ends) (some ⟨.shr,true,A⟩) (some ⟨.shr,true,.non⟩) none none none none none):=set_shr (eG (rs3 _) ba)
   have e7:ifS (bT (neE (aBx (vE 5)) (aBr (vE 6)))) (bI (cE (.bl false))) cI (V12 ns (nR m) (lO L) (tR true rows) (lO ends) (some ⟨.shr,true,A⟩) (some ⟨.shr,true,.non⟩) none none none none none)=.nx (V12 ns (nR m) (lO L) (tR true rows) (lO ends) (some ⟨.shr,true,A⟩) (some ⟨.shr,true,.non⟩) none none none none none):=by
    subst hA;exact(fF (eJ (aOt (r:=sc (.bl false)) (r':=sc (.bl false)) (b:=true) rfl rfl (oW 2 rfl (by decide))))).trans rfl
   by_cases d0:aT m (fR rows)=0
   · have t:=t9 (some ⟨.shr,true,A⟩) (some ⟨.shr,true,.non⟩)
     rw[decide_eq_true d0]at t;have e9:ifS (bT (eqE (vE 7) (cE (.int 0)))) (bI (cE (.bl true))) cI (V12 ns (nR m) (lO L) (tR true rows) (lO ends) (some ⟨.shr,true,A⟩) (some ⟨.shr,true,.non⟩) (nR (aT m (fR rows))) none none none none)=.rt (sc (.bl true)):=(fF t).trans rfl;have e:aEc (V12 ns none none none none none none none none none none none)=.rt (sc (.bl true)):=(aB e1).trans ((aB e2).trans ((aB e3).trans ((aB e4).trans ((aB e5).trans ((aB e6).trans ((aB e7).trans ((aB (e8 _ _)).trans (mY e9))))))));exact(cO rfl e).trans rfl
   · have t:=t9 (some ⟨.shr,true,A⟩) (some ⟨.shr,true,.non⟩)
     rw[decide_eq_false d0]at t;have e9:ifS (bT (eqE (vE 7) (cE (.int 0)))) (bI (cE (.bl true))) cI (V12 ns (nR m) (lO L) (tR true rows) (lO ends) (some ⟨.shr,true,A⟩) (some ⟨.shr,true,.non⟩) (nR (aT m (fR rows))) none none none none)=.nx (V12 ns (nR m) (lO L) (tR true rows) (lO ends) (some ⟨.shr,true,A⟩) (some ⟨.shr,true,.non⟩) (nR (aT m (fR rows))) none none none none):=(fF t).trans rfl
     have e10:ifS (bT (aBx (vE 5))) (bI (cE (.bl false))) cI (V12 ns (nR m) (lO L) (tR true rows) (lO ends) (some ⟨.shr,true,A⟩) (some ⟨.shr,true,.non⟩) (nR (aT m (fR rows))) none none none none)=.nx (V12 ns (nR m) (lO L) (tR true rows) (lO ends) (some ⟨.shr,true,A⟩) (some ⟨.shr,true,.non⟩) (nR (aT m (fR rows))) none none none none):=by
      subst hA;exact(fF (b:=false) rfl).trans rfl
     have e11:aF 8 (vE 7) (V12 ns (nR m) (lO L) (tR true rows) (lO ends) (some ⟨.shr,true,A⟩) (some ⟨.shr,true,.non⟩) (nR (aT m (fR rows))) none none none none)=.nx (V12 ns (nR m) (lO L) (tR true rows) (lO ends) (some ⟨.shr,true,A⟩) (some ⟨.shr,true,.non⟩) (nR (aT m (fR rows))) (nR (aT m (fR rows))) none none none):=rfl;have e12:aF 9 (dF []) (V12 ns (nR m) (lO L) (tR true rows) (lO ends) (some ⟨.shr,true,A⟩) (some ⟨.shr,true,.non⟩) (nR (aT m (fR rows))) (nR (aT m (fR rows))) none none none)=.nx (V12 ns (nR m) (lO L) (tR true rows) (lO ends) (some ⟨.shr,true,A⟩) (some ⟨.shr,true,.non⟩) (nR (aT m (fR rows))) (nR (aT m (fR rows))) (lO ((Af 0).map (δ m rows ends))) none none):=rfl
     obtain⟨c,y10,y11,h1,h2,lo⟩:=aG1 E r1 ns (lO L) (some ⟨.shr,true,A⟩) (some ⟨.shr,true,.non⟩) (aT m (fR rows)) m 0 (aT m (fR rows)) none none (Dw m) rfl;have cG:c=(G m rows ends m:Nat):=by have:=h2 (by omega);omega
     subst cG
     have e13:dR (dX (vE 1)) (.nm 10) Bw (V12 ns (nR m) (lO L) (tR true rows) (lO ends) (some ⟨.shr,true,A⟩) (some ⟨.shr,true,.non⟩) (nR (aT m (fR rows))) (nR (aT m (fR rows))) (lO ((Af 0).map (δ m rows ends))) none none)=.nx (V12 ns (nR m) (lO L) (tR true rows) (lO ends) (some ⟨.shr,true,A⟩) (some ⟨.shr,true,.non⟩) (nR (aT m (fR rows))) (nR (G m rows ends m:Nat)) (lO ((Af m).map (δ m rows ends))) y10 y11):=by
      have it:=jW (f:=vE 1) (ρ:=V12 ns (nR m) (lO L) (tR true rows) (lO ends) (some ⟨.shr,true,A⟩) (some ⟨.shr,true,.non⟩) (nR (aT m (fR rows))) (nR (aT m (fR rows))) (lO ((Af 0).map (δ m rows ends))) none none) (k:=.shr) (fr:=true) (n:=m) rfl (by omega)
      rw[show (Af m).map (fun (i:Nat)=>D.int (i:Int))=(Bo 0 m).map fun (i:Nat)=>D.int (i:Int) by rw[Cr]]at it
      exact(gU it).trans lo
     have gp:=kQ (xs:=aT m (fR rows) :: (Af m).map (δ m rows ends)) Ab d0;rw[aIr]at gp;obtain⟨bv,hbv⟩:∃ bv:Int,bv=if aT m (fR rows)<0 then -(G m rows ends m:Int) else (G m rows ends m:Int):=⟨_,rfl⟩
     have e14:ifS (bT (ltE (vE 7) (cE (.int 0)))) (aF 8 (mK (cE (.int 0)) (vE 8))) cI (V12 ns (nR m) (lO L) (tR true rows) (lO ends) (some ⟨.shr,true,A⟩) (some ⟨.shr,true,.non⟩) (nR (aT m (fR rows))) (nR (G m rows ends m:Nat)) (lO ((Af m).map (δ m rows ends))) y10 y11)=.nx (V12 ns (nR m) (lO L) (tR true rows) (lO ends) (some ⟨.shr,true,A⟩) (some ⟨.shr,true,.non⟩) (nR (aT m (fR rows))) (nR bv) (lO ((Af m).map (δ m rows ends))) y10 y11):=by
      have t:bT (ltE (vE 7) (cE (.int 0))) (V12 ns (nR m) (lO L) (tR true rows) (lO ends) (some ⟨.shr,true,A⟩) (some ⟨.shr,true,.non⟩) (nR (aT m (fR rows))) (nR (G m rows ends m:Nat)) (lO ((Af m).map (δ m rows ends))) y10 y11)=.ok (decide (aT m (fR rows)<0)):=eJ (jL (G:=fun i j=>decide (i<j)) (k:=.shr) (fr:=true) (i:=aT m (fR rows)) (k':=.shr) (fr':=true) (j:=0) rfl rfl);by_cases q:aT m (fR rows)<0
      · rw[decide_eq_true q]at t
        rw[if_pos q]at hbv;have v:=bM (C:=C0) (G:=fun i j=>i-j) (f:=cE (.int 0)) (g:=vE 8) (ρ:=V12 ns (nR m) (lO L) (tR true rows) (lO ends) (some ⟨.shr,true,A⟩) (some ⟨.shr,true,.non⟩) (nR (aT m (fR rows))) (nR (G m rows ends m:Nat)) (lO ((Af m).map (δ m rows ends))) y10 y11) (k:=.shr) (fr:=true) (i:=0) (k':=.shr) (fr':=true) (j:=(G m rows ends m:Nat)) rfl rfl rfl;rw[show (0:Int)-((G m rows ends m:Nat):Int)=bv by omega]at v
        exact(fF t).trans (set_shr v)
      · rw[decide_eq_false q]at t
        rw[if_neg q]at hbv;subst hbv;exact(fF t).trans rfl
     have tl:(fH m s).length=m:=(wY (M:=6500) (m:=m) (s.hs.zip s.t) (Aw m 0) (fun x hx=>by rw[(List.mem_replicate.mp hx).2];exact Nat.two_pow_pos _) fun p hp=>by
      obtain⟨_,q⟩:=Di (a:=p.1) (b:=p.2) hp
      exact C.tn _ q _ (Mir.bJ (by rw[C.row _ q];omega))).2.trans (Cy ..)
     have tg:∀ w,w<m->(fH m s).getD w 0=(s.t.getD w []).getD m 0:=fun w hw=>by
      show (qA m (s.hs.zip s.t) (Aw m 0)).getD w 0=_
      have ls:s.t.length=m:=by rw[C.len,r1]
      rw[fu d0,Cr,show Bo 0 m=Bo 0 s.t.length by rw[ls],rJ s.t 0 _ w (by rw[Cy,ls];omega),if_pos ⟨Cc _,by omega⟩,Nat.sub_zero]
     have lw:=aBz (b:=s.b) (D:=aT m (fR rows)) (τ:=fH m s) (δ:=(Af m).map (δ m rows ends)) C.b0 d0 (by rw[tl,Ad,Cq]) fun w hw=>by
      rw[tl]at hw
      have dw:((Af m).map (δ m rows ends)).getD w 0=aT m (fC rows ends w):=by
       rw[oU (d:=0) (by rw[Cq];exact hw)]
       rw[show (Af m).getD w 0=w by rw[Aa,Gv hw];rfl]
      rw[tg w hw,cr d0 w hw,dw]
     rw[aIr,←hbv]at lw
     have bn:bv≠0/\bv.natAbs<2^60:=by
      have nb:bv.natAbs=G m rows ends m:=by
       rw[hbv];split
       · rw[Int.natAbs_neg,Hb]
       · rw[Hb]
      have g0:=gp.1;exact⟨fun z=>by rw[z]at nb;rw[←nb]at g0;exact absurd g0 (by decide),by rw[nb];exact Cv gp.2 (aOp RB r1)⟩
     have q1:=bM (C:=CF) (G:=fun i j=>i.fdiv j) (f:=vE 7) (g:=vE 8) (ρ:=V12 ns (nR m) (lO L) (tR true rows) (lO ends) (some ⟨.shr,true,A⟩) (some ⟨.shr,true,.non⟩) (nR (aT m (fR rows))) (nR bv) (lO ((Af m).map (δ m rows ends))) y10 y11) (k:=.shr) (fr:=true) (i:=aT m (fR rows)) (k':=.shr) (fr':=true) (j:=bv) rfl rfl (aPg bn.1 (N:=60) bn.2 (by decide) (by decide))
     have q2:=fP (it:=cN (vE 9)) (ρ:=V12 ns (nR m) (lO L) (tR true rows) (lO ends) (some ⟨.shr,true,A⟩) (some ⟨.shr,true,.non⟩) (nR (aT m (fR rows))) (nR bv) (lO ((Af m).map (δ m rows ends))) y10 y11) (k:=1) (fs:=[8]) (tg:=.nm 0) (b:=bE (pU (vE 0) (vE 1))) (inj:=D.int) (out:=fun x=>.int (x.fdiv bv)) (xs:=(Af m).map (δ m rows ends)) (lJ (k:=.own) (fr:=true) (ds:=li ((Af m).map (δ m rows ends))) rfl)
      (fun x hx=>⟨[some ⟨.shr,true,.int x⟩,nR bv],.shr,rfl,iM (bM (C:=CF) (G:=fun i j=>i.fdiv j) (k:=.shr) (fr:=true) (i:=x) (k':=.shr) (fr':=true) (j:=bv) rfl rfl (aPg bn.1 (N:=60) bn.2 (by decide) (by decide))),by decide⟩) (by rw[Ad,Cq,sizeLine_eq];omega)
     have tp:eW [pU (vE 7) (vE 8),aW (cN (vE 9)) 1 [8] (.nm 0) (bE (pU (vE 0) (vE 1)))] (V12 ns (nR m) (lO L) (tR true rows) (lO ends) (some ⟨.shr,true,A⟩) (some ⟨.shr,true,.non⟩) (nR (aT m (fR rows))) (nR bv) (lO ((Af m).map (δ m rows ends))) y10 y11)=.ok ⟨.shr,true,A⟩:=by
      have ev:evs [pU (vE 7) (vE 8),aW (cN (vE 9)) 1 [8] (.nm 0) (bE (pU (vE 0) (vE 1)))] (V12 ns (nR m) (lO L) (tR true rows) (lO ends) (some ⟨.shr,true,A⟩) (some ⟨.shr,true,.non⟩) (nR (aT m (fR rows))) (nR bv) (lO ((Af m).map (δ m rows ends))) y10 y11)=.ok [sc (.int ((aT m (fR rows)).fdiv bv)),⟨.tmp,true,.lst (((Af m).map (δ m rows ends)).map fun x=>.int (x.fdiv bv))⟩]:=aG q1 (aG q2 bO);simp only[eW,ev,R.ok_bind];rw[←hA,lw.1,lw.2,show li (((Af m).map (δ m rows ends)).map fun x=>x.fdiv bv)=((Af m).map (δ m rows ends)).map fun x=>.int (x.fdiv bv) by simp[li,Function.comp_def]]
      rfl
     have pl:A.pl 3=true:=by
      subst hA;have q:=aQ2 ((fH m s).map (·/(bV (s.b :: fH m s):Int))) 2 (by decide)
      simp[D.pl,D.pls]at q ⊢
      exact q
     have e15:bI (aC6 (aNy .tuple (vE 5)) (eqE (vE 5) (eW [pU (vE 7) (vE 8),aW (cN (vE 9)) 1 [8] (.nm 0) (bE (pU (vE 0) (vE 1)))]))) (V12 ns (nR m) (lO L) (tR true rows) (lO ends) (some ⟨.shr,true,A⟩) (some ⟨.shr,true,.non⟩) (nR (aT m (fR rows))) (nR bv) (lO ((Af m).map (δ m rows ends))) y10 y11)=.rt ⟨.shr,true,.bl true⟩:=by
      have ty:aNy .tuple (vE 5) (V12 ns (nR m) (lO L) (tR true rows) (lO ends) (some ⟨.shr,true,A⟩) (some ⟨.shr,true,.non⟩) (nR (aT m (fR rows))) (nR bv) (lO ((Af m).map (δ m rows ends))) y10 y11)=.ok ⟨.shr,true,.bl true⟩:=by subst hA;rfl
      exact fS ((aLw ty fun _=>aIp (r:=⟨.shr,true||A.imm,A⟩) rfl tp (oW 3 pl (by decide))).trans rfl)
     have e:aEc (V12 ns none none none none none none none none none none none)=.rt (sc (.bl true)):=(aB e1).trans ((aB e2).trans ((aB e3).trans ((aB e4).trans ((aB e5).trans ((aB e6).trans ((aB e7).trans ((aB (e8 _ _)).trans ((aB e9).trans ((aB e10).trans ((aB e11).trans ((aB e12).trans ((aB e13).trans ((aB e14).trans e15)))))))))))));exact(cO rfl e).trans rfl
 · -- barred
   cases q:brd m (bS (eqT rows ends) m) with
   | nil=>exact absurd q z
   | cons l r =>
    have an:=aRa (φq:=aS) (φb:=bH) (φl:=iT) aI6 aK0 E z;have ba:=aQg (φq:=aS) (φb:=bH) (φg:=bC) aI6 aK0 aS8 E q
    have d0:aT m (fR rows)=0:=by
     by_cases h0:aT m (fR rows)=0
     · exact h0
     · exfalso
       have hs:=aGj E r1 h0 C;have no:(bS (eqT rows ends) m).t.drop (bS (eqT rows ends) m).hs.length=[]:=by rw[hs,Cq];exact Ey (by rw[C.len,r1];exact Am _)
       have lm:l∈brd m (bS (eqT rows ends) m):=by rw[q];exact Ab
       have lm:=(Ck.mp lm).1;rw[no]at lm;cases lm
    generalize (l.drop (m+1)).map (·/(bV (l.drop (m+1)):Int))=bl at ba
    have e5:aF 5 (aL iQ [vE 1,vE 3,vE 4]) (V12 ns (nR m) (lO L) (tR true rows) (lO ends) none none none none none none none)=.nx (V12 ns (nR m) (lO L) (tR true rows) (lO ends) (some ⟨.shr,true,.non⟩) none none none none none none):=set_shr (eG (rs3 none) an);have e6:aF 6 (aL vW [vE 1,vE 3,vE 4]) (V12 ns (nR m) (lO L) (tR true rows) (lO ends) (some ⟨.shr,true,.non⟩) none none none none none none)=.nx (V12 ns (nR m) (lO L) (tR true rows) (lO ends) (some ⟨.shr,true,.non⟩) (lO bl) none none none none none):=cV (iP (rs3 _) ba);have e7:ifS (bT (neE (aBx (vE 5)) (aBr (vE 6)))) (bI (cE (.bl false))) cI (V12 ns (nR m) (lO L) (tR true rows) (lO ends) (some ⟨.shr,true,.non⟩) (lO bl) none none none none none)=.nx (V12 ns (nR m) (lO L) (tR true rows) (lO ends) (some ⟨.shr,true,.non⟩) (lO bl) none none none none none):=(fF (eJ (aOt (r:=sc (.bl true)) (r':=sc (.bl true)) (b:=true) rfl rfl (oW 2 rfl (by decide))))).trans rfl
    have t:=t9 (some ⟨.shr,true,.non⟩) (lO bl);rw[decide_eq_true d0]at t;have e9:ifS (bT (eqE (vE 7) (cE (.int 0)))) (bI (cE (.bl true))) cI (V12 ns (nR m) (lO L) (tR true rows) (lO ends) (some ⟨.shr,true,.non⟩) (lO bl) (nR (aT m (fR rows))) none none none none)=.rt (sc (.bl true)):=(fF t).trans rfl;have e:aEc (V12 ns none none none none none none none none none none none)=.rt (sc (.bl true)):=(aB e1).trans ((aB e2).trans ((aB e3).trans ((aB e4).trans ((aB e5).trans ((aB e6).trans ((aB e7).trans ((aB (e8 _ _)).trans (mY e9))))))));exact(cO rfl e).trans rfl
end N82
namespace He
open PySem PySem.W
section
variable (tb:String->Option Builtin)(p:Program)(w:World)(m:Nat)(an:Option Value)
noncomputable def one (ih:SharedT->Thread->Option SharedT)(s:SharedT)(t:Thread):Option SharedT :=
 @Bool.rec (fun _=>Option SharedT) (@Bool.rec (fun _=>Option SharedT) none (@Option.rec (SharedT×Thread) (fun _=>Option SharedT) none (fun r=>ih r.1 r.2) (stepT (denote tb) p w s t)) (stepOk m an t)) (some s) (through t)
noncomputable def run (n:Nat):SharedT->Thread->Option SharedT :=
 @Nat.rec (fun _=>SharedT->Thread->Option SharedT) (fun _ _=>none) (fun _ ih=>one tb p w m an ih) n
end
theorem aLs {tb:String->Option Builtin}{p:Program}{w:World}{m:Nat}{an:Option Value}(n:Nat):∀ {s s':SharedT} {t:Thread},run tb p w m an n s t=some s'->topRun tb p w m an n s.abs t=some s'.abs:=by
 induction n with
 | zero=>intro s s' t h;cases h
 | succ n ih =>
  intro s s' t h;have h1:one tb p w m an (run tb p w m an n) s t=some s':=h;unfold one at h1;unfold topRun;cases a:through t with
  | true=>rw[a]at h1;cases h1;rfl
  | false =>
   rw[a]at h1;cases b:stepOk m an t with
   | false=>rw[b]at h1;cases h1
   | true =>
    rw[b]at h1;cases c:stepT (denote tb) p w s t with
    | none=>rw[c]at h1;cases h1
    | some r =>
     rw[c]at h1;obtain⟨s1,t1⟩:=r;have d:=stepT_spec c;simp only[d];exact ih h1
noncomputable def aVw (P:Params):BT :=
 .node (boot_o_0 P) (.node (boot_o_1 P) (.node (boot_o_3 P) (.node (boot_o_7 P) .nil .nil) .nil) (.node (boot_o_5 P) (.node (boot_o_9 P) .nil .nil) .nil))
  (.node (boot_o_2 P) (.node (boot_o_4 P) (.node (boot_o_8 P) .nil .nil) .nil) (.node (boot_o_6 P) (.node (boot_o_10 P) .nil .nil) .nil))
noncomputable def aT9 (w:World)(os:OsState):SharedT:=⟨aVw w.params,11,(boot_heap w.params).life,⟨[]⟩,boot_drawn,boot_toks,os⟩
theorem aH4 (w:World)(os:OsState):(aT9 w os).abs=⟨boot_heap w.params,⟨[]⟩,boot_drawn,boot_toks,os⟩:=rfl
noncomputable def sz (w:World):Bool×Nat×Option Value:=((boot_heap w.params).isNs mainGlobals,(boot_heap w.params).objs.size,(boot_heap w.params).nsMap mainGlobals "__annotations__")
theorem aTj (w:World):sz w=(true,11,some (.ref 6)):=by kernel_rfl
section
variable (p q:Program)(Xt:Shared->Bool){α:Type}(Yf:Shared->α)(N:Nat)
noncomputable def aDn (w:World)(os:OsState):=(run treeTable p w 11 (some (.ref 6)) N (aT9 w os) (topStub p)).map fun s =>
 ((staticsOk (importedModules p.main.body) (boot_heap w.params) s.abs.heap&&namesBound p s.abs.heap&&gensDone s.abs&&laidKept (boot_heap w.params) s.abs.heap),openSeen q [] (importedModules p.main.body) Xt true s.abs,Yf s.abs)
end
theorem left {p q:Program}{Xt:Shared->Bool}{α:Type}{Yf:Shared->α}{Ya:World->α}{N:Nat}(hb:∀ w:World,(fencedOpening treeTable p w N).map (fun s=>(s.heap,s.gens,s.drawn,s.toks))=some (boot_heap w.params,{ toList:=[] },boot_drawn,boot_toks))(hz:∀ w,sz w=(true,11,some (.ref 6)))
 (h:∀ w os,aDn p q Xt Yf N w os=some (true,openGood q [],Ya w)):LeftO p q [] Xt Yf Ya N:=fun w=>by
 obtain⟨s0,a,b⟩:=Gb.mp (hb w);obtain⟨s1,c,d⟩:=Gb.mp (h w s0.os);simp only[Prod.mk.injEq]at b d;have z:=hz w;simp only[sz,Prod.mk.injEq]at z;have e:=aLs N c;rw[aH4]at e
 have f:s0=⟨boot_heap w.params,{ toList:=[] },boot_drawn,boot_toks,s0.os⟩:=by
  obtain⟨x1,x2,x3,x4,x5⟩:=s0;obtain⟨b1,b2,b3,b4⟩:=b;dsimp only at b1 b2 b3 b4
  rw[b1,b2,b3,b4]
 unfold openEnds;rw[a,Hu,f];unfold topFrom;dsimp only
 rw[z.1,z.2.1,z.2.2,e];simp only[Hu,d.1];show some (_,_)=_
 rw[d.2.1,d.2.2]
end He
namespace H82
open PySem PySem.W
local macro_rules | `(tactic| o_head $H)=>`(tactic| (have _:=$H;assumption))
theorem kk (h:PySem.Challenge.rw_flatmeet_k82_equations_by_boxes.row.Holds):PySem.Challenge.rw_flatmeet_k82_equations_by_boxes.row.Holds:=by k_head
abbrev pr:Program:=PySem.Challenge.pw_flatmeet_k82_equations_by_boxes
abbrev ad:List Addr:=[2,3,15,22,23,24,25,28,35,36,37,40,47,48,49,52,59,61,62,64,65,66,67,68,71,73,74,76,77,78,80,81,83,84,85,87,88,90,91,92,95,96,97,99,100,102,103,104,107,108,109,112,113,121,123,124,126,127,128,129,130,131,132,135,138,139,140,143,144,145,148,149,150,152,153,155,156,157,160,161,162,164,165,167,168,169,171,172,174,175,181,184,185,186,189,190,198,200,201,203,204,219,221,222,224,225,226,229,230]
theorem aOb (P:Params):ad=(kk.heap_1 P).map (·.1):=by kernel_rfl
noncomputable abbrev hk:Hook:=kHook kk.heap_1 ad aOb
def vw:Program:=view pr [1,2,3,4,6,7,8,9,10,11,12,13,14,15,17,18,19,20,22,23,24,25,26,27,28,29,30,31,32]
noncomputable def lk (w:World)(os:OsState):=He.aDn pr vw (fun s=>xlAt vw [] s&&recOk [] s) (fun s=>ad.map s.heap.get?) 3742 w os
noncomputable def gd (w:World)(os:OsState):=some (true,openGood vw [],(kk.heap_1 w.params).map fun p=>some p.2)
theorem same (w:World)(os:OsState):lk w os=gd w os:=by kernel_rfl
theorem lo:LeftO pr vw [] (fun s=>xlAt vw [] s&&recOk [] s) hk.obs hk.val 3742:=He.left (boot_open rfl rfl fun s=>rfl) He.aTj fun w os=>same w os
theorem go (hs:PySem.Challenge.rw_flatmeet_k82_equations_by_boxes.row.wellSaid=true)(h:PySem.Challenge.rw_flatmeet_k82_equations_by_boxes.row.promised){d:DefRec}{kw:List (Str×Expr)}(h1:defOf vw PySem.Challenge.rw_flatmeet_k82_equations_by_boxes.row.name=some (d,kw))(h2:PySem.Challenge.rw_flatmeet_k82_equations_by_boxes.row.prog.theDef PySem.Challenge.rw_flatmeet_k82_equations_by_boxes.row.name=some (d.params,d.body,d.scope))(h3:kwWritten? d.params.kwonlyargs d.params.kw_defaults=some kw)
 (g:WalkO vw [] (XL vw []) (kHook kk.heap_1 ad aOb).says PySem.Challenge.rw_flatmeet_k82_equations_by_boxes.row.toRowW d kw fun f vs=>call f vs):PySem.Challenge.rw_flatmeet_k82_equations_by_boxes.row.Holds :=
 W.holds_open lo hk.of hk.keeps (fun s e=>xl_of s (Ct.mp e).1) XL.keeps h1 h2 h3 (fun s e=>recFacts_of (Ct.mp e).2) rfl hs (by decide +kernel) ⟨rfl,rfl,rfl,rfl,rfl,by decide +kernel⟩ h g
end H82
open PySem PySem.W PyProof.Rows
set_option maxRecDepth 100000 in
set_option maxHeartbeats 0 in
theorem PySem.Challenge.cw_flatmeet_k82_equations_by_boxes_holds : PySem.Challenge.rw_flatmeet_k82_equations_by_boxes.Holds := by
  w_on; o_law
  refine H82.go (by assumption) ?hw (by rfl) (by rfl) (by rfl) ?hc
  (case hw => w_witness2)
  k_fill
  refine N82.walk (l := PySem.Challenge.rw_flatmeet_k82_equations_by_boxes) rfl rfl (fun ns _ => N82.law_ok ns) (fun w h Y => PySem.W.kIn_of Y) ?L ?F
  case L => intro P; kernel_rfl
  case F =>
    intro w mg fa h KX G hmg
    refine' N82.all_mk KX G hmg ⟨?n0, ?l0, ?c0, ?k0⟩ ⟨?n1, ?l1, ?c1, ?k1⟩ ⟨?n2, ?l2, ?c2, ?k2⟩ ⟨?n3, ?l3, ?c3, ?k3⟩ ⟨?n4, ?l4, ?c4, ?k4⟩ ⟨?n5, ?l5, ?c5, ?k5⟩ ⟨?n6, ?l6, ?c6, ?k6⟩ ⟨?n7, ?l7, ?c7, ?k7⟩ ⟨?n8, ?l8, ?c8, ?k8⟩ ⟨?n9, ?l9, ?c9, ?k9⟩ ⟨?n10, ?l10, ?c10, ?k10⟩ ⟨?n11, ?l11, ?c11, ?k11⟩ ⟨?n12, ?l12, ?c12, ?k12⟩ ⟨?n13, ?l13, ?c13, ?k13⟩ ⟨?n14, ?l14, ?c14, ?k14⟩ ⟨?n15, ?l15, ?c15, ?k15⟩ ⟨?n16, ?l16, ?c16, ?k16⟩ ⟨?n17, ?l17, ?c17, ?k17⟩ ⟨?n18, ?l18, ?c18, ?k18⟩ ⟨?o1a, ?o1b, ?o1c, ?o1d, ?o1e, ?o1f, ?o1g, ?o1h, ?o1i⟩ ?on10 ?on11 ?on12 ?ol1 ?oc1 ?ok1 ?z0 ?z1 ?z2 ?z3 ?z4 ?z5 ?z6 ?z7 ?z8 ?z9 ?gq0
    (case n0 => k_is); (case l0 => k_is); (case c0 => k_is); (case k0 => k_is)
    (case n1 => k_is); (case l1 => k_is); (case c1 => k_is); (case k1 => k_is)
    (case n2 => k_is); (case l2 => k_is); (case c2 => k_is); (case k2 => k_is)
    (case n3 => k_is); (case l3 => k_is); (case c3 => k_is); (case k3 => k_is)
    (case n4 => k_is); (case l4 => k_is); (case c4 => k_is); (case k4 => k_is)
    (case n5 => k_is); (case l5 => k_is); (case c5 => k_is); (case k5 => k_is)
    (case n6 => k_is); (case l6 => k_is); (case c6 => k_is); (case k6 => k_is)
    (case n7 => k_is); (case l7 => k_is); (case c7 => k_is); (case k7 => k_is)
    (case n8 => k_is); (case l8 => k_is); (case c8 => k_is); (case k8 => k_is)
    (case n9 => k_is); (case l9 => k_is); (case c9 => k_is); (case k9 => k_is)
    (case n10 => k_is); (case l10 => k_is); (case c10 => k_is); (case k10 => k_is)
    (case n11 => k_is); (case l11 => k_is); (case c11 => k_is); (case k11 => k_is)
    (case n12 => k_is); (case l12 => k_is); (case c12 => k_is); (case k12 => k_is)
    (case n13 => k_is); (case l13 => k_is); (case c13 => k_is); (case k13 => k_is)
    (case n14 => k_is); (case l14 => k_is); (case c14 => k_is); (case k14 => k_is)
    (case n15 => k_is); (case l15 => k_is); (case c15 => k_is); (case k15 => k_is)
    (case n16 => k_is); (case l16 => k_is); (case c16 => k_is); (case k16 => k_is)
    (case n17 => k_is); (case l17 => k_is); (case c17 => k_is); (case k17 => k_is)
    (case n18 => k_is); (case l18 => k_is); (case c18 => k_is); (case k18 => k_is)
    (case o1a => k_is); (case o1b => k_is); (case o1c => k_is); (case o1d => k_is); (case o1e => k_is); (case o1f => k_is); (case o1g => k_is); (case o1h => k_is); (case o1i => k_is); (case on10 => k_is); (case on11 => k_is); (case on12 => k_is); (case ol1 => k_is); (case oc1 => k_is); (case ok1 => k_is)
    (case z0 => k_is); (case z1 => k_is); (case z2 => k_is); (case z3 => k_is); (case z4 => k_is); (case z5 => k_is); (case z6 => k_is); (case z7 => k_is); (case z8 => k_is); (case z9 => k_is)
    (case gq0 => k_is)
