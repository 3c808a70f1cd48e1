import PyProof.Rows.All
import Wide.All
import OpenK.KMake
import OpenK.KDescr
import OpenK.KGet
import OpenK.KEqL
import OpenK.KMore
import OpenK.KCls
import OpenK.KCall
import OpenK.KWalk
import OpenK.Peek
import OpenK.KLine
import KE.KIsAll
import KE.KItem
import KE.LcSums
import KE.KTryMore
import Wide.FinOn
import Lean
import PyProof.EqAt
import PyProof.EqKinds
import PyProof.TupleCall
import PyProof.ZipIter
import PyProof.ListNew
import PySem.Sem
import PyProof.WalksEnum
import PyProof.EnumMake
import PyProof.Rows.TupIter
import PyProof.DictIter
import KE.KDictList
import PyProof.DictItems
import KE.KPairComp
import KE.KSortTup
import PyProof.Rows.SetFrom
import PyProof.WalksMore
import PyProof.ListRange
import KE.KDictOf
import PyProof.IsiH_list
import PyProof.AttrMiss
import PyProof.TupleOfGen
import KE.KRevIter
import PyProof.Rows.Range3
import PyProof.WalkInts
import PyProof.SeqI3
import PyProof.ExcInit
import PySem.Challenge.RW_flatmeet_k12_whole_one_frame_for_each_fl
open List renaming getD_eq_getElem?_getD→Aa,length_map→Ab,getElem?_eq_getElem→Ac,mem_cons_self→Ad,mem_cons_of_mem→Ae,mem_cons→Ag,mem_map→Ai,map_cons→Aj,mem_append_right→Ak,length_append→Al,mem_append→An,replicate→Ao,mem_singleton→Ap,length_cons→Aq,length_set→Ar,getElem?_set_ne→Av,getElem?_eq_some_iff→Aw,getElem?_map→Ax,getElem?_set_self→Ay,size_toArray→Az,getElem?_append_right→Bb,range→Bf,mem_iff_getElem→Bg,not_mem_nil→Bi,length_take→Bj,mem_append_left→Bk,getElem?_append_left→Bl,length_singleton→Bn,mem_range→Bo,lookup_cons→Br,mem_or_eq_of_mem_set→Bt,length_replicate→Bu,range'→Bv,of_mem_zip→Bx,getElem?_eq_none→Cc,mem_of_mem_take→Cf,getElem?_replicate→Ci,filter_cons_of_pos→Cj,replicate_succ→Ck,map_map→Cn,append_assoc→Co,map_congr_left→Ct,length_zip→Cu,append_nil→Cv,length_eq_zero_iff→Cy,filter_cons_of_neg→Cz,dropLast_concat_getLast→Db,range'_succ→Dc,getElem_mem→Dd,length_range→Df,mem_of_mem_drop→Di,mem_of_getElem?→Dj,map_append→Dm,pairwise_map→Dt,getElem?_take_of_lt→Dw,nodup_cons→Dy,nil_append→Dz,foldl_cons→Ea,range_eq_range'→Ee,flatten_cons→Ek,drop_of_length_le→El,take_append_drop→En,length_drop→Eo,length_dropLast→Es,mem_filter→Ew,mem_map_of_mem→Ex,cons_append→Fb,pairwise_cons→Fc,pairwise_iff_getElem→Fe,lookup→Fg,mem_flatMap→Fp,find?_cons→Fx,length_filter_le→Fy,getElem?_zipWith→Fz,all_eq_true→Gi,filterMap_cons→Gk,any_cons→Gn,range_succ→Gr,mem_zipIdx→Gu,length_zipIdx→Gv,filter_append→Gw,getElem?_cons_succ→Ha,findIdx?_eq_some_iff_getElem→Hb,take_of_length_le→Hh,range_succ_eq_map→Hi,drop_eq_nil_of_le→Hj,perm_append_comm→Hl,zipIdx_cons→Hr,ext_getElem→Hs,map_take→Ht,pairwise_append→Hx,dropLast_subset→Hy,take_append_of_le_length→Hz,drop_append_of_le_length→Ie,count_eq_zero_of_not_mem→Ig,mem_zipIdx_iff_getElem?→Im,getElem?_range→Iq,reverse_cons→Jc,mem_range'_1→Jd,getLast_mem→Jh,drop_append→Ji
open Nat renaming lt_of_lt_of_le→Af,le_refl→Ah,gcd→Au,le_trans→Bp,ne_of_lt→Cb,mul_le_mul_left→Ce,lt_of_le_of_lt→Cg,pow_le_pow_right→Cp,zero_le→De,two_pow_pos→Dl,zero_add→Dp,le_add_right→Dq,gcd_pos_of_pos_right→Dv,lt_trichotomy→Ei,mul_comm→Ey,lt_trans→Ez,mul_left_comm→Fi,mul_le_mul_right→Fk,lt_irrefl→Fl,succ_mul→Fs,pos_of_ne_zero→Ft,div_le_self→Fw,le_of_succ_le→Gb,ne_of_gt→Ge,mul_succ→Gf,lt_or_ge→Gg,le_of_lt→Gh,mul_div_cancel'→Gj,mul_assoc→Gm,pow_add→Gy,add_comm→Hc,mul_le_mul→Hd,lt_succ_self→Ho,gcd_le_right→Hq,min_eq_left→Ii,pow_succ→Ir,gcd_dvd_right→Ja,gcd_dvd_left→Jg,sub_self→Jj,min_self→Jk,le_of_eq→Jl,div_add_mod→Jp
open PySem.Heap renaming lt_size→Am,get?_push_of_some→As,get?_push_size→Cm,size_push→Cw,get?_update_self→Ga,get?_update_other→Hk
open Int renaming mul_comm→Bc,mul_assoc→Bm,emod_lt_of_pos→Bq,emod_nonneg→By,zero_mul→Ch,natAbs_natCast→Cr,eq_ofNat_of_zero_le→Dg,toNat_natCast→Du,dvd_mul_of_dvd_right→Dx,mul_zero→Eg,natAbs_mul→Eh,neg_mul→Em,fdiv_eq_ediv_of_nonneg→Fd,one_mul→Fh,mul_left_comm→Fj,add_mul→Fq,sub_mul→Gc,dvd_trans→Go,sub_eq_add_neg→Gx,mul_sub→Gz,lt_trichotomy→Hg,mul_one→Hv,mul_add→Hw,mul_le_mul_of_nonneg_left→Ih,natCast_mul→Ij,natCast_add→Ik,mul_eq_zero→Il,natAbs_neg→Iv,sub_add_cancel→Ix,natAbs_add_le→Je,sub_zero→Jm,dvd_add→Js
open PySem.W renaming findIn→Bd,nsIn→Ca,mg_none_of→Cq,kia_one→Dk,emptyDict→Ds,fnOf→Ef,keepIn→Er,instObj→Eu,codeIn→Fn,cellsFrom_some→Fv,hasDictIn→Hf,plainGet→Hn,kitOne→Iu,callWith_K→Iw,plainOver→Iy,methodObj→Iz,mg_of→Jf,takerIn→Jn,makesIn→Jo,lookIn→Jt
open PyProof.Rows renaming callWith_type1→Bw,envOfC→Ip
open Bool renaming false_ne_true→Cd,and_eq_true_iff→Da,and_eq_true→Ed,false_eq_true→Ep,eq_false_iff→Et,or_false→Hu,or_eq_true→Jq
open Option renaming some→Dh,getD_some→Eb,map_some→Ev,isSome_iff_exists→Gp,none→Jr
open List.Pairwise renaming nil→Ej,imp_of_mem→Gq,imp→Jb
open List.Perm renaming refl→Fo
set_option Elab.async false
set_option linter.all false
set_option maxRecDepth 100000
set_option maxHeartbeats 3990000
namespace L2
open PySem PySem.Spec PyProof.Rows
abbrev Key:=Sum Int Str
def aNn:Key->Value->Bool
 | .inl k,v=>Value.isInt k v
 | .inr x,v=>Value.isStrOf x v
def aU6 (w:World):Key->Int
 | .inl k=>hashInt k
 | .inr x=>hashStr w x
theorem cX:∀ {k:Key} {v:Value},aNn k v=true->(∃ i t,k=Sum.inl i/\v=Value.int i t)\/(∃ x t,k=Sum.inr x/\v=Value.str x t)
 | .inl i,v,h=>by
  obtain⟨t,e⟩:=Value.isInt_shape (k:=i) (v:=v) h;exact .inl ⟨i,t,rfl,e⟩
 | .inr x,v,h=>by
  obtain⟨t,e⟩:=Value.isStrOf_shape (x:=x) (v:=v) h;exact .inr ⟨x,t,rfl,e⟩
theorem aOh (a b:Int):decide ((Sum.inl a:Key)=Sum.inl b)=(a==b):=by
 by_cases e:a=b
 · subst e;simp
 · have h:¬ (Sum.inl a:Key)=Sum.inl b:=fun q=>e (Sum.inl.inj q)
   rw[decide_eq_false h];exact(beq_eq_false_iff_ne.mpr e).symm
theorem aPn (a b:Str):decide ((Sum.inr a:Key)=Sum.inr b)=decide (a=b):=by
 by_cases e:a=b
 · subst e;simp
 · have h:¬ (Sum.inr a:Key)=Sum.inr b:=fun q=>e (Sum.inr.inj q)
   rw[decide_eq_false h,decide_eq_false e]
theorem aRh (a:Int)(b:Str):decide ((Sum.inl a:Key)=Sum.inr b)=false:=decide_eq_false (fun q=>nomatch q)
theorem aO7 (a:Str)(b:Int):decide ((Sum.inr a:Key)=Sum.inl b)=false:=decide_eq_false (fun q=>nomatch q)
def xJ (prog:Program)(w:World):PySem.KeyKind prog w Key where
 is:=aNn
 hash:=aU6 w
 inj:=fun v a b ha hb=>by
  rcases cX ha with ⟨i,t,rfl,rfl⟩ | ⟨x,t,rfl,rfl⟩
  · rcases cX hb with ⟨j,u,rfl,e⟩ | ⟨y,u,rfl,e⟩
    · injection e with e1 _;rw[e1]
    · exact nomatch e
  · rcases cX hb with ⟨j,u,rfl,e⟩ | ⟨y,u,rfl,e⟩
    · exact nomatch e
    · injection e with e1 _;rw[e1]
 byValue:=fun k v h=>by
  rcases cX h with ⟨i,t,rfl,rfl⟩ | ⟨x,t,rfl,rfl⟩<;>rfl
 pyHash:=fun hv h=>by
  rcases cX hv with ⟨i,t,rfl,rfl⟩ | ⟨x,t,rfl,rfl⟩
  · exact wpAny_pyHash_int h
  · exact wpAny_pyHash_str h
 eqBool:=fun hu hv h=>by
  rcases cX hu with ⟨i,t,rfl,rfl⟩ | ⟨x,t,rfl,rfl⟩
  · rcases cX hv with ⟨j,u,rfl,rfl⟩ | ⟨y,u,rfl,rfl⟩
    · rw[aOh]at h;exact wpAny_eqBool_int h
    · rw[aRh]at h;exact SeqAt.EqAt.int_str i t y u _ _ _ _ h
  · rcases cX hv with ⟨j,u,rfl,rfl⟩ | ⟨y,u,rfl,rfl⟩
    · rw[aO7]at h;exact SeqAt.EqAt.str_int x t j u _ _ _ _ h
    · rw[aPn]at h;exact wpAny_eqBool_str h
 «strs»:=fun k x t v h=>by
  rcases cX h with ⟨i,u,rfl,e⟩ | ⟨y,u,rfl,e⟩
  · exact nomatch e
  · injection e with e1 _
    subst e1;cases v<;>rfl
end L2
namespace L2
open PySem PySem.Spec PyProof.Rows
inductive V where
 | non | bl (b:Bool) | int (i:Int) | str (x:Str) | byt (b:Array UInt8) | flt (b:UInt64) | ref (a:Addr) | ty (n:String)
 deriving DecidableEq
def bN:V->Value->Prop
 | .non,u=>u=Value.none
 | .bl b,u=>u=Value.bool b
 | .int i,u=>∃ t,u=Value.int i t
 | .str x,u=>∃ t,u=Value.str x t
 | .byt b,u=>∃ t,u=Value.bytes b t
 | .flt b,u=>∃ t,u=Value.float b t
 | .ref a,u=>u=Value.ref a
 | .ty n,u=>u=Value.type n
abbrev bG:List V->List Value->Prop:=Paired bN
theorem bG.length {xs:List V}{us:List Value}(r:bG xs us):xs.length=us.length:=Paired.length r
theorem bG.get:∀ {xs:List V} {us:List Value} {i:Nat} {x:V},bG xs us->xs[i]?=some x->∃ u,us[i]?=some u/\bN x u
 | _,_,_,_,.nil,e=>by simp at e
 | _,_,0,_,.cons r _,e=>by simp at e;subst e;exact⟨_,rfl,r⟩
 | _,_,i+1,x,.cons _ t,e=>by
  obtain⟨u,h1,h2⟩:=bG.get (i:=i) (x:=x) t (by simpa using e)
  exact⟨u,by simpa using h1,h2⟩
theorem bG.set {x:V}{u:Value}(r:bN x u):∀ {xs:List V} {us:List Value} (i:Nat),bG xs us->bG (xs.set i x) (us.set i u)
 | _,_,_,.nil=>.nil
 | _,_,0,.cons _ t=>.cons r t
 | _,_,i+1,.cons q t=>.cons q (bG.set r i t)
theorem bG.append:∀ {xs ys:List V} {us ws:List Value},bG xs us->bG ys ws->bG (xs++ys) (us++ws)
 | _,_,_,_,.nil,s=>s
 | _,_,_,_,.cons r t,s=>.cons r (bG.append t s)
theorem bG.take:∀ {xs:List V} {us:List Value} (n:Nat),bG xs us->bG (xs.take n) (us.take n)
 | _,_,0,_=>.nil
 | _,_,_+1,.nil=>.nil
 | _,_,n+1,.cons r t=>.cons r (bG.take n t)
theorem bG.drop:∀ {xs:List V} {us:List Value} (n:Nat),bG xs us->bG (xs.drop n) (us.drop n)
 | _,_,0,r=>r
 | _,_,_+1,.nil=>.nil
 | _,_,n+1,.cons _ t=>bG.drop n t
def oY:Option V->Option Value->Prop
 | some v,some u=>bN v u
 | none,none=>True
 | _,_=>False
def KV {κ:Type}:List (κ×V)->List (κ×Value)->Prop:=Paired fun (p:κ×V) (q:κ×Value)=>p.1=q.1/\bN p.2 q.2
def kV:Key->V
 | .inl i=>.int i
 | .inr x=>.str x
inductive HO where
 /-- a list -/
 | lst (xs:List V)
 /-- a tuple (never changes) -/
 | tup (xs:List V)
 /-- a dict whose keys are ints and texts;one whose keys are tuples of ints and texts (the empty one is both) -/
 | dK (kvs:List (Key×V)) | dT (kvs:List (List Key×V))
 /-- a set of ints: its members,its size -/
 | set (S:Int->Bool) (n:Nat)
 /-- an instance of the class at C,its dict at dx,its attributes -/
 | ins (C dx:Addr) (fs:List (Str×V))
 /-- the dict of the instance at x -/
 | own (x:Addr)
 /-- the dict of an exception -/
 | xd (fs:List (Str×V))
 /-- a bound method,f of x -/
 | met (f x:Addr)
 /-- a range object lo,lo+1,.. below hi -/
 | rng (lo hi:Int)
 /-- a thing that is known to the object (the script;a dict while a loop walks it): read,never written while it is so -/
 | frz (o:Obj) (u:HO)
 /-- a code object's table -/
 | tbl (ps:Array Value)
 /-- any other thing,by what is true of its one object (a def of one's own: SetO a S n:=HO.ext fun h=>..) -/
 | ext (φ:Heap->Prop)
abbrev Hp:=Addr->Option HO
def upd (H:Hp)(a:Addr)(o:HO):Hp:=fun b=>if b=a then some o else H b
theorem cK {H:Hp}{a:Addr}{o:HO}:upd H a o a=some o:=by unfold upd;rw[if_pos rfl]
theorem bI {H:Hp}{a b:Addr}{o:HO}(h:b≠a):upd H a o b=H b:=by unfold upd;rw[if_neg h]
theorem qC {H:Hp}{a:Addr}{o u:HO}:upd (upd H a o) a u=upd H a u:=by
 funext b;unfold upd;split<;>rfl
theorem bL {H:Hp}{a b:Addr}{o:HO}(h:H a=some o)(h':H b=none):a≠b:=by
 intro e;subst e;rw[h]at h';cases h'
section
variable (P:Program)(w:World)
def dO (H:Hp)(h:Heap)(a:Addr):HO->Prop
 | .lst xs=>xs.length<=sizeLine/\∃ (its:List Value) (n:Nat),bG xs its/\h.get? a=some { cls:=.type "list",data:=.seq its.toArray n }
 | .tup xs=>xs.length<=sizeLine/\∃ its:List Value,bG xs its/\IsTup h a its.toArray
 | .dK kvs=>kvs.length<=sizeLine/\(a==sysModules)=false/\∃ vs,KV kvs vs/\h.DictOf (xJ P w) a vs
 | .dT kvs=>kvs.length<=sizeLine/\(a==sysModules)=false/\∃ xs:List (List Key×Addr×Value),
  Paired (fun (p:List Key×V) (q:List Key×Addr×Value)=>p.1=q.1/\H q.2.1=some (.tup (p.1.map kV))/\bN p.2 q.2.2) kvs xs /\
  ∃ o es ep,h.get? a=some o/\o.ExactDict/\o.data=.dict es ep/\es.toList=xs.map (entryOfKey (tupleKind (xJ P w)))/\(xs.map (·.1)).Nodup
 | .set S n=>h.SetOf (intKind P w) a S n
 | .ins C dx fs=>H dx=some (.own a)/\fs.length<=1000/\dx≠a/\h.get? a=some (Eu C dx) /\
  ∃ mA,h.Ns1 dx mA/\(∀ f,oY (fs.lookup f) (mA f))/\PySem.Within mA (fs.map (·.1))
 | .own _=>∃ o,h.get? a=some o
 | .xd fs=>∃ mA,h.Ns1 a mA/\∀ f,oY (fs.lookup f) (mA f)
 | .rng lo hi=>∃ t u v,h.get? a=some { cls:=.type "range",data:=.fields #[.int lo t,.int hi u,.int 1 v] }
 | .frz o u=>h.get? a=some o/\dO H h a u
 | .tbl ps=>h.get? a=some { cls:=.none,data:=.fields ps }
 | .met f x=>h.get? a=some (Iz (.ref f) (.ref x))
 | .ext φ=>φ h/\(∃ o,h.get? a=some o)/\∀ h1 h2:Heap,φ h1->(∀ o,h1.get? a=some o->h2.get? a=some o)->φ h2
def HOk (H:Hp)(h:Heap):Prop:=∀ a o,H a=some o->dO P w H h a o
end
section
variable {P:Program}{w:World}{H H':Hp}{h h':Heap}{a:Addr}{o:HO}
theorem dO.lt (x:dO P w H h a o):a<h.objs.size:=by
 cases o with
 | lst xs=>obtain⟨_,_,_,_,e⟩:=x;exact Am e
 | tup xs=>obtain⟨_,_,_,p⟩:=x;exact p.lt
 | dK kvs=>obtain⟨_,_,_,_,o,_,_,e,_⟩:=x;exact Am e
 | dT kvs=>obtain⟨_,_,_,_,o,_,_,e,_⟩:=x;exact Am e
 | set S n=>obtain⟨o,_,_,_,e,_⟩:=x;exact Am e
 | ins C dx fs=>obtain⟨_,_,_,e,_⟩:=x;exact Am e
 | own y=>obtain⟨_,e⟩:=x;exact Am e
 | xd fs=>obtain⟨_,⟨_,_,_,e,_⟩,_⟩:=x;exact Am e
 | rng lo hi=>obtain⟨_,_,_,e⟩:=x;exact Am e
 | frz ob u=>obtain⟨e,_⟩:=x;exact Am e
 | tbl ps=>exact Am (show h.get? a=some _ from x)
 | met f y=>exact Am (show h.get? a=some _ from x)
 | ext φ=>obtain⟨_,⟨_,e⟩,_⟩:=x;exact Am e
theorem Paired.mapP {α β:Type}{F G:α->β->Prop}:∀ {l₁:List α} {l₂:List β},Paired F l₁ l₂->(∀ a b,F a b->G a b)->Paired G l₁ l₂
 | _,_,.nil,_=>.nil
 | _,_,.cons r t,f=>.cons (f _ _ r) (Paired.mapP t f)
theorem dO.stay (x:dO P w H h a o)(k:∀ b u,(b=a\/H b=some (.own a))->h.get? b=some u->h'.get? b=some u)
 (ho:∀ b,H b=some (.own a)->H' b=some (.own a)) (ht:∀ b xs,H b=some (.tup xs)->H' b=some (.tup xs)):dO P w H' h' a o:=by
 induction o with
 | lst xs=>obtain⟨z,its,n,r,e⟩:=x;exact⟨z,its,n,r,k _ _ (.inl rfl) e⟩
 | tup xs=>obtain⟨z,its,r,ob,e,c⟩:=x;exact⟨z,its,r,ob,k _ _ (.inl rfl) e,c⟩
 | dK kvs=>obtain⟨z,y,vs,r,ob,es,ep,e,c⟩:=x;exact⟨z,y,vs,r,ob,es,ep,k _ _ (.inl rfl) e,c⟩
 | dT kvs =>
  obtain⟨z,y,xs,r,ob,es,ep,e,c⟩:=x;exact⟨z,y,xs,Paired.mapP r fun p q z=>⟨z.1,ht _ _ z.2.1,z.2.2⟩,ob,es,ep,k _ _ (.inl rfl) e,c⟩
 | set S n=>obtain⟨ob,es,ep,t,e,c⟩:=x;exact⟨ob,es,ep,t,k _ _ (.inl rfl) e,c⟩
 | ins C dx fs =>
  obtain⟨d,z,ne,e,mA,⟨od,es,ep,e2,c⟩,r⟩:=x;exact⟨ho _ d,z,ne,k _ _ (.inl rfl) e,mA,⟨od,es,ep,k _ _ (.inr d) e2,c⟩,r⟩
 | own y=>obtain⟨ob,e⟩:=x;exact⟨ob,k _ _ (.inl rfl) e⟩
 | xd fs=>obtain⟨mA,⟨od,es,ep,e,c⟩,r⟩:=x;exact⟨mA,⟨od,es,ep,k _ _ (.inl rfl) e,c⟩,r⟩
 | rng lo hi=>obtain⟨t,u,v,e⟩:=x;exact⟨t,u,v,k _ _ (.inl rfl) e⟩
 | frz ob u ih=>obtain⟨e,q⟩:=x;exact⟨k _ _ (.inl rfl) e,ih q⟩
 | tbl ps =>
  have e:h.get? a=some { cls:=.none,data:=.fields ps }:=x;show h'.get? a=some { cls:=.none,data:=.fields ps }
  exact k a _ (.inl rfl) e
 | met f y =>
  have e:h.get? a=some (Iz (.ref f) (.ref y)):=x;show h'.get? a=some (Iz (.ref f) (.ref y))
  exact k a _ (.inl rfl) e
 | ext φ=>obtain⟨p,⟨o,e⟩,st⟩:=x;exact⟨st _ _ p fun o q=>k _ _ (.inl rfl) q,⟨o,k _ _ (.inl rfl) e⟩,st⟩
theorem HOk.lt (x:HOk P w H h)(e:H a=some o):a<h.objs.size:=(x a o e).lt
theorem HOk.fresh (x:HOk P w H h)(e:h.objs.size<=a):H a=none:=by
 cases q:H a with
 | none=>rfl
 | some u=>exact absurd (Af (x.lt q) e) (Fl _)
theorem HOk.kept (x:HOk P w H h)(k:∀ b u,h.get? b=some u->h'.get? b=some u):HOk P w H h':=fun a o e =>
 (x a o e).stay (fun b u _ q=>k b u q) (fun _ q=>q) fun _ _ q=>q
theorem HOk.laid (x:HOk P w H h)(k:∀ b u,h.get? b=some u->h'.get? b=some u)(hp:h.objs.size<=a)(new:dO P w (upd H a o) h' a o):HOk P w (upd H a o) h':=fun b u e=>by
 have hn:=x.fresh hp;by_cases hb:b=a
 · subst hb;rw[cK]at e;cases e;exact new
 · rw[bI hb]at e
   exact(x b u e).stay (fun c v _ q=>k c v q) (fun c q=>by rw[bI (bL q hn)];exact q) fun c xs q=>by rw[bI (bL q hn)];exact q
end
def Rd (H:Hp)(a:Addr)(u:HO):Prop:=H a=some u\/∃ o,H a=some (.frz o u)
theorem Rd.of {H:Hp}{a:Addr}{u:HO}(h:H a=some u):Rd H a u:=.inl h
theorem Rd.ok {P:Program}{w:World}{H:Hp}{h:Heap}{a:Addr}{u:HO}(r:Rd H a u)(x:HOk P w H h):dO P w H h a u:=by
 rcases r with r | ⟨o,r⟩
 · exact x a u r
 · obtain⟨_,q⟩:=x a _ r
   exact q
def Mut:Option HO->Prop
 | some (.lst _)=>True
 | some (.dK _)=>True
 | some (.dT _)=>True
 | some (.set _ _)=>True
 | some (.ins _ _ _)=>True
 | some (.ext _)=>True
 | _=>False
section
variable {P:Program}{w:World}{H:Hp}{h h':Heap}{x e:Addr}{o':HO}
theorem HOk.write (ok:HOk P w H h)(mu:Mut (H x))(he:e=x\/H e=some (.own x))(k:∀ b u,b≠e->h.get? b=some u->h'.get? b=some u)(heo:∃ u,h'.get? e=some u)
 (new:dO P w (upd H x o') h' x o'):HOk P w (upd H x o') h':=fun b u q=>by
 have nown:∀ c y,H c=some (.own y)->c≠x:=fun c y r z=>by subst z;rw[r]at mu;exact mu
 have ntup:∀ c xs,H c=some (.tup xs)->c≠x:=fun c xs r z=>by subst z;rw[r]at mu;exact mu
 by_cases hb:b=x
 · subst hb;rw[cK]at q;cases q;exact new
 · rw[bI hb]at q
   by_cases hbe:b=e
   · have q':H b=some (.own x):=by
      rcases he with z | z
      · exact absurd (hbe.trans z) hb
      · rw[hbe];exact z
     rw[q]at q';cases q';obtain⟨v,hv⟩:=heo;exact⟨v,by rw[hbe];exact hv⟩
   · refine(ok b u q).stay (fun c v hc r=>k c v ?_ r) (fun c r=>by rw[bI (nown c b r)];exact r) fun c xs r=>by rw[bI (ntup c xs r)];exact r
     rcases hc with rfl | hc
     · exact hbe
     · rintro rfl
       rcases he with z | z
       · exact nown c b hc z
       · rw[hc]at z;cases z;exact hb rfl
end
structure Un (fs ex:List Addr)(H H':Hp)(h h':Heap):Prop where
 keep:∀ b o,h.get? b=some o->H b=none->b∉fs->b∉ex->h'.get? b=some o
 slot:∀ b o,h.get? b=some o->H b=none->b∈fs->b∉ex->∃ sl,h'.get? b=some { o with slots:=sl }
 free:∀ b o,h.get? b=some o->H b=none->b∉ex->H' b=none
 there:∀ b o,h.get? b=some o->b∉ex->∃ o',h'.get? b=some o'
 tups:∀ b xs,H b=some (.tup xs)->H' b=some (.tup xs)
 frzs:∀ b o u,H b=some (.frz o u)->H' b=some (.frz o u)
 tbls:∀ b ps,H b=some (.tbl ps)->∃ more,H' b=some (.tbl (ps++more))
section
variable {fs fs' ex ex':List Addr}{H H1 H2:Hp}{h h1 h2 h':Heap}{a x e:Addr}{o:HO}
theorem Un.any (u:Un fs ex H H1 h h1){b:Addr}{ob:Obj}(q:h.get? b=some ob)(n:H b=none)(hx:b∉ex):∃ sl,h1.get? b=some { ob with slots:=sl }:=by
 by_cases hb:b∈fs
 · exact u.slot b ob q n hb hx
 · exact⟨ob.slots,u.keep b ob q n hb hx⟩
theorem Un.kept (k:∀ b u,h.get? b=some u->h'.get? b=some u):Un fs ex H H h h' :=
 ⟨fun b ob q _ _ _=>k b ob q,fun b ob q _ _ _=>⟨ob.slots,k b ob q⟩,fun _ _ _ n _=>n,fun b ob q _=>⟨ob,k b ob q⟩,fun _ _ q=>q,fun _ _ _ q=>q,fun _ ps q=>⟨#[],by rw[q];simp⟩⟩
theorem Un.refl:Un fs ex H H h h:=Un.kept fun _ _ q=>q
theorem Un.laid (k:∀ b u,h.get? b=some u->h'.get? b=some u)(hp:h.objs.size<=a)(hn:H a=none):Un fs ex H (upd H a o) h h' where
 keep:=fun b u q _ _ _=>k b u q
 slot:=fun b u q _ _ _=>⟨u.slots,k b u q⟩
 free:=fun b u q n _=>by rw[bI (Cb (Af (Am q) hp))];exact n
 there:=fun b u q _=>⟨u,k b u q⟩
 tups:=fun b xs q=>by rw[bI (bL q hn)];exact q
 frzs:=fun b u xs q=>by rw[bI (bL q hn)];exact q
 tbls:=fun b ps q=>⟨#[],by rw[bI (bL q hn),q];simp⟩
theorem Un.write (mu:Mut (H x))(he:e=x\/H e=some (.own x))(k:∀ b u,b≠e->h.get? b=some u->h'.get? b=some u)(heo:∃ u,h'.get? e=some u):Un fs ex H (upd H x o) h h':=by
 have hx:∀ b,H b=none->b≠x:=fun b n z=>by subst z;rw[n]at mu;exact mu
 have hb:∀ b,H b=none->b≠e:=fun b n z=>by
  subst z;rcases he with r | r
  · exact hx b n r
  · rw[n]at r;cases r
 have hm:∀ b u,H b=some u->¬ Mut (some u)->b≠x:=fun b u q nm z=>by subst z;rw[q]at mu;exact nm mu
 refine⟨fun b u q n _ _=>k b u (hb b n) q,fun b u q n _ _=>⟨u.slots,k b u (hb b n) q⟩,fun b u q n _=>by rw[bI (hx b n)];exact n,fun b u q _=>?_,
  fun b xs q=>by rw[bI (hm b _ q fun z=>z)];exact q,fun b u xs q=>by rw[bI (hm b _ q fun z=>z)];exact q,fun b ps q=>⟨#[],by rw[bI (hm b _ q fun z=>z),q];simp⟩⟩
 by_cases hbe:b=e
 · subst hbe;exact heo
 · exact⟨u,k b u hbe q⟩
end
def trk (h:Heap)(H:Hp):List Addr:=(Bf h.objs.size).filter fun a=>(H a).isSome
def wW (h:Heap)(H:Hp):Heap:=PySem.W.hideAll h (trk h H)
theorem aGd (h:Heap)(H:Hp):(wW h H).objs.size=h.objs.size:=PySem.W.hideAll_size _ _
theorem aHr {h:Heap}{H:Hp}{b:Addr}{o:Obj}(e:h.get? b=some o)(n:H b=none):(wW h H).get? b=some o :=
 PySem.W.hideAll_get _ e fun hm=>by
  have q:(H b).isSome=true:=(Ew.mp hm).2;rw[n]at q;simp at q
theorem aLo {h:Heap}{H:Hp}{b:Addr}{o:Obj}(e:(wW h H).get? b=some o):h.get? b=some o/\H b=none:=by
 have e':h.get? b=some o:=PySem.W.of_hideAll (trk h H) e;refine⟨e',?_⟩
 cases q:H b with
 | none=>rfl
 | some x =>
  have hm:b∈trk h H:=Ew.mpr ⟨Bo.mpr (Am e'),by simp[q]⟩
  have z:(wW h H).get? b=none:=PySem.W.hideAll_none (trk h H) hm;rw[z]at e;cases e
end L2
namespace L2
open PySem PySem.Spec PyProof.Rows
structure Mod (K:PySem.W.Frag)(mg:Str->Option Value)(base:Heap):Prop where
 kin:K.In base
 glob:base.Ns mainGlobals mg
 blt:∃ mb,base.Ns builtinsNs mb/\∀ x:Str,x ≠ "__name__"->mb x=bootBuiltins x
 nolimit:base.NoLimit
structure Cx where
 prog:Program
 w:World
 K:PySem.W.Frag
 mg:Str->Option Value
 base:Heap
 A:Around
 N:List Str
 s₀:Shared
 H₀:Hp
 env:Env
 outer:List Env
 stack:List Env
 ex:List Addr
 fn:Str->Bool
 calm:Bool
 pn:List (Addr×Obj)
 xe:Value->Shared->Prop
def frs (l:List Env):List Addr:=l.filterMap (·.frame)
abbrev Cx.fs (X:Cx):List Addr:=frs X.outer
def Vis (sc:Scope)(x:Str):Prop:=sc.names.lookup x=some .local\/sc.names.lookup x=some .cell\/sc.names.lookup x=some .free
def Loc (sc:Scope)(x:Str):Prop:=sc.names.lookup x=some .local\/sc.names.lookup x=some .cell
def aVa (env:Env)(h:Heap)(m:Str->Option Value)(x:Str)(u:Value):Prop :=
 (env.kindOf x=some .local/\m x=some u)\/((env.kindOf x=some .cell\/env.kindOf x=some .free)/\∃ c,env.cells.lookup x=some c/\h.IsCell c (some u))
structure Cx.Ok (X:Cx):Prop where
 mod:Mod X.K X.mg X.base
 kind:X.env.scope.kind=.function
 glob:X.env.globals=mainGlobals
 blt:X.env.builtins=builtinsNs
 above:X.s₀.heap.objs.size<=X.env.locals
 inj:∀ x y c,X.env.cells.lookup x=some c->X.env.cells.lookup y=some c->x=y
 has:∀ x,(X.env.kindOf x=some .cell\/X.env.kindOf x=some .free)->∃ c,X.env.cells.lookup x=some c
 cab:∀ x c,X.fn x=true->X.env.cells.lookup x=some c->X.s₀.heap.objs.size<=c
 hd:X.calm=true->X.A.handled=none
 frames:X.A.frames=some X.stack
 stk:X.stack=X.outer\/(X.stack=X.env :: X.outer/\X.env.frame=some X.env.locals)
 exf:∀ b∈X.ex,b≠X.env.locals/\∀ x c,X.env.cells.lookup x=some c->c≠b
 bs:∀ b o,X.base.get? b=some o->X.s₀.heap.get? b=some o/\X.H₀ b=none
 bsz:X.base.objs.size<=X.s₀.heap.objs.size
 noex:∀ b o,X.base.get? b=some o->b∉X.ex
 exfs:∀ b∈X.ex,b∉X.fs
 funs:X.s₀.heap.FunFrames X.base X.outer
 frf:∀ b∈X.fs,X.H₀ b=none
structure Inv (X:Cx)(pins:List (Addr×Obj))(σ:List (Option V))(H:Hp)(s:Shared):Prop where
 ok:X.Ok
 os:s.os=X.s₀.os
 bare:AllBare s.gens
 base:Un X.fs X.ex X.H₀ H X.s₀.heap s.heap
 loc:∃ m,s.heap.Ns X.env.locals m/\∀ (i:Nat) (x:Str) (v:V),X.N[i]?=some x->σ[i]?=some (some v)->Vis X.env.scope x->∃ u,bN v u/\aVa X.env s.heap m x u
 cell:∀ x c,X.env.cells.lookup x=some c->∃ v,s.heap.IsCell c v
 free:H X.env.locals=none
 freeC:∀ x c,X.env.cells.lookup x=some c->H c=none
 pin:∀ p∈X.pn++pins,s.heap.get? p.1=some p.2/\H p.1=none/\p.1≠X.env.locals/\p.1∉X.fs/\∀ v,p.2.data≠.cell v
 hok:HOk X.prog X.w H s.heap
 len:σ.length=X.N.length
section
variable {X:Cx}{pins:List (Addr×Obj)}{σ:List (Option V)}{H H':Hp}{s:Shared}{h':Heap}
theorem Cx.Ok.nofr (ok:X.Ok){b:Addr}{o:Obj}(e:X.base.get? b=some o):b∉X.fs:=fun hb=>by
 have:=(ok.funs.mem hb).1
 rw[e]at this;cases this
theorem Inv.bs (I:Inv X pins σ H s):∀ b o,X.base.get? b=some o->s.heap.get? b=some o/\H b=none:=fun b o e =>
 ⟨I.base.keep b o (I.ok.bs b o e).1 (I.ok.bs b o e).2 (I.ok.nofr e) (I.ok.noex b o e),I.base.free b o (I.ok.bs b o e).1 (I.ok.bs b o e).2 (I.ok.noex b o e)⟩
theorem Inv.bk (I:Inv X pins σ H s):∀ b o,X.base.get? b=some o->s.heap.get? b=some o:=fun b o e=>(I.bs b o e).1
theorem Inv.mod (I:Inv X pins σ H s):Mod X.K X.mg X.base:=I.ok.mod
theorem Inv.kIn (I:Inv X pins σ H s):X.K.In s.heap:=I.ok.mod.kin.keeps I.bk
theorem Inv.fr (I:Inv X pins σ H s):∃ m,Fr X.base X.env.locals s.heap m :=
 let ⟨m,hn,_⟩:=I.loc
 ⟨m,hn,I.bk,Bp I.ok.bsz I.ok.above⟩
theorem Inv.lt (I:Inv X pins σ H s):X.env.locals<s.heap.objs.size:=let ⟨_,hn,_⟩:=I.loc;hn.lt
theorem Inv.sz (I:Inv X pins σ H s):X.s₀.heap.objs.size<=s.heap.objs.size:=Bp I.ok.above (Gh I.lt)
theorem Inv.nofs (I:Inv X pins σ H s){a:Addr}(h:s.heap.objs.size<=a):a∉X.fs:=fun hb=>by
 obtain⟨_,o,ho,_⟩:=I.ok.funs.mem hb;exact absurd (Af (Am ho) (Bp I.sz h)) (Fl _)
theorem Inv.cne (I:Inv X pins σ H s):∀ x c,X.env.cells.lookup x=some c->c≠X.env.locals:=fun x c e z=>by
 obtain⟨v,o,ho,hd⟩:=I.cell x c e;obtain⟨m,⟨o',es,ep,ho',hd',_⟩,_⟩:=I.loc;rw[z,ho']at ho;cases ho;rw[hd']at hd;cases hd
theorem Inv.funs (I:Inv X pins σ H s):s.heap.FunFrames X.base X.outer:=by
 have all:∀ (l:List Env),(∀ b∈frs l,b∈X.fs)->X.s₀.heap.FunFrames X.base l->s.heap.FunFrames X.base l:=by
  intro l;induction l with
  | nil=>intro _ _;trivial
  | cons env r ih =>
   intro hs hl;obtain⟨hk,⟨L,o,hf,hn,ho,hd⟩,hr⟩:=hl;have hL:L∈X.fs:=hs L (by unfold frs;rw[Gk,hf];exact Ad)
   obtain⟨sl,e⟩:=I.base.slot L o ho (I.ok.frf L hL) hL fun z=>I.ok.exfs L z hL;exact⟨hk,⟨L,_,hf,hn,e,hd⟩,ih (fun b hb=>hs b (by unfold frs;rw[Gk,hf];exact Ae _ hb)) hr⟩
 exact all X.outer (fun _ hb=>hb) I.ok.funs
theorem Inv.stack (I:Inv X pins σ H s):s.heap.FunFrames X.base X.stack:=by
 rcases I.ok.stk with e | ⟨e,hf⟩
 · rw[e];exact I.funs
 · rw[e]
   obtain⟨m,hn,_⟩:=I.loc;refine .cons (by rw[I.ok.kind];decide) hf hn ?_ I.funs
   exact Heap.get?_none_of_le (Bp I.ok.bsz I.ok.above)
theorem Inv.stkSub (I:Inv X pins σ H s):∀ b∈frs X.stack,b∈X.env.locals :: X.fs:=fun b hb=>by
 rcases I.ok.stk with e | ⟨e,hf⟩
 · rw[e]at hb;exact Ae _ hb
 · rw[e]at hb
   unfold frs at hb;rw[Gk,hf]at hb;exact hb
theorem Inv.stkFree (I:Inv X pins σ H s):∀ b∈frs X.stack,H b=none:=fun b hb=>by
 rcases Ag.mp (I.stkSub b hb) with e | hb
 · rw[e];exact I.free
 · obtain⟨_,o,ho,_⟩:=I.ok.funs.mem hb
   exact I.base.free b o ho (I.ok.frf b hb) fun z=>I.ok.exfs b z hb
theorem Inv.step {g':Array GenState}{t':Nat}{d':Drawn}{ch:List Addr}(I:Inv X pins σ H s)
 (hch:∀ b∈ch,(b∈X.ex\/X.s₀.heap.objs.size<=b)/\b≠X.env.locals/\(∀ x c,X.env.cells.lookup x=some c->c≠b)/\∀ p∈X.pn++pins,p.1≠b)
 (keep:∀ b o,b≠X.env.locals->b∉X.fs->b∉ch->s.heap.get? b=some o->H b=none->h'.get? b=some o)
 (slot:∀ b o,b≠X.env.locals->b∈X.fs->b∉ch->s.heap.get? b=some o->H b=none->∃ sl,h'.get? b=some { o with slots:=sl }) (free:∀ b o,b∉ch->s.heap.get? b=some o->H b=none->H' b=none)
 (there:∀ b o,b∉ch->s.heap.get? b=some o->∃ o',h'.get? b=some o')
 (tups:∀ b xs,H b=some (.tup xs)->H' b=some (.tup xs)) (frzs:∀ b o u,H b=some (.frz o u)->H' b=some (.frz o u)) (tbls:∀ b ps,H b=some (.tbl ps)->∃ more,H' b=some (.tbl (ps++more)))
 (ns:∀ m,s.heap.Ns X.env.locals m->h'.Ns X.env.locals m) (hok:HOk X.prog X.w H' h') (hg:AllBare g') :
 Inv X pins σ H' { s with heap:=h',gens:=g',drawn:=d',toks:=t' }:=by
 have neL:∀ b o,X.s₀.heap.get? b=some o->b≠X.env.locals:=fun b o e=>Cb (Af (Am e) I.ok.above)
 have neC:∀ b o,X.s₀.heap.get? b=some o->b∉X.ex->b∉ch:=fun b o e hx hb=>by
  rcases (hch b hb).1 with z | z
  · exact hx z
  · exact absurd (Af (Am e) z) (Fl _)
 have cellK:∀ x c,X.env.cells.lookup x=some c->∀ v,s.heap.IsCell c v->h'.IsCell c v:=fun x c e v ⟨o,ho,hd⟩=>by
  have nch:c∉ch:=fun z=>(hch c z).2.2.1 x c e rfl;by_cases hc:c∈X.fs
  · obtain⟨sl,q⟩:=slot c o (I.cne x c e) hc nch ho (I.freeC x c e)
    exact⟨_,q,hd⟩
  · exact⟨o,keep c o (I.cne x c e) hc nch ho (I.freeC x c e),hd⟩
 refine⟨I.ok,I.os,hg,⟨fun b o e n hb hx=>?_,fun b o e n hb hx=>?_,fun b o e n hx=>?_,fun b o e hx=>?_,fun b xs e=>tups b xs (I.base.tups b xs e),fun b o xs e=>frzs b o xs (I.base.frzs b o xs e),fun b ps e=>?_⟩,?_,fun x c e=>?_,?_,fun x c e=>?_,fun p hp=>?_,hok,I.len⟩
 · exact keep b o (neL b o e) hb (neC b o e hx) (I.base.keep b o e n hb hx) (I.base.free b o e n hx)
 · obtain⟨sl,e1⟩:=I.base.slot b o e n hb hx
   obtain⟨sl',e2⟩:=slot b _ (neL b o e) hb (neC b o e hx) e1 (I.base.free b o e n hx);exact⟨sl',e2⟩
 · obtain⟨o',e1⟩:=I.base.there b o e hx
   exact free b o' (neC b o e hx) e1 (I.base.free b o e n hx)
 · obtain⟨o',e1⟩:=I.base.there b o e hx
   exact there b o' (neC b o e hx) e1
 · obtain⟨m1,e1⟩:=I.base.tbls b ps e
   obtain⟨m2,e2⟩:=tbls b _ e1;exact⟨m1++m2,by rw[e2,Array.append_assoc]⟩
 · obtain⟨m,hn,hl⟩:=I.loc
   refine⟨m,ns m hn,fun i x v e1 e2 e3=>?_⟩
   obtain⟨u,r,l⟩:=hl i x v e1 e2 e3;refine⟨u,r,?_⟩
   rcases l with l | ⟨k,c,e,z⟩
   · exact .inl l
   · exact .inr ⟨k,c,e,cellK x c e _ z⟩
 · obtain⟨v,z⟩:=I.cell x c e
   exact⟨v,cellK x c e v z⟩
 · obtain⟨m,⟨o,_,_,ho,_⟩,_⟩:=I.loc
   exact free _ o (fun z=>(hch _ z).2.1 rfl) ho I.free
 · obtain⟨v,o,ho,hd⟩:=I.cell x c e
   exact free c o (fun z=>(hch c z).2.2.1 x c e rfl) ho (I.freeC x c e)
 · obtain⟨e,n,ne,nf,d⟩:=I.pin p hp
   have nch:p.1∉ch:=fun z=>(hch p.1 z).2.2.2 p hp rfl;exact⟨keep p.1 p.2 ne nf nch e n,free p.1 p.2 nch e n,ne,nf,d⟩
theorem Inv.un {t':Nat}(I:Inv X pins σ H s)(u:Un X.fs [] H H' s.heap h')(hok:HOk X.prog X.w H' h'):Inv X pins σ H' { s with heap:=h',toks:=t' }:=by
 obtain⟨m,⟨o,es,ep,ho,r⟩,_⟩:=id I.loc;obtain⟨sl,hL⟩:=u.any ho I.free (by simp)
 exact I.step (g':=s.gens) (d':=s.drawn) (ch:=[]) (fun _ z=>nomatch z) (fun b o _ hb _ e n=>u.keep b o e n hb (by simp)) (fun b o _ hb _ e n=>u.slot b o e n hb (by simp)) (fun b o _ e n=>u.free b o e n (by simp)) (fun b o _ e=>u.there b o e (by simp)) u.tups u.frzs u.tbls (fun m' hm=>by
  obtain⟨o',es',ep',ho',r'⟩:=hm;rw[ho]at ho';cases ho'
  exact⟨_,es',ep',hL,r'⟩) hok I.bare
theorem Inv.call {g':Array GenState}{t':Nat}{d':Drawn}{ch:List Addr}(I:Inv X pins σ H s)(u:Un (frs X.stack) ch H H' s.heap h')(hok:HOk X.prog X.w H' h')(hg:AllBare g')
 (hch:∀ b∈ch,(b∈X.ex\/X.s₀.heap.objs.size<=b)/\b≠X.env.locals/\(∀ x c,X.env.cells.lookup x=some c->c≠b)/\∀ p∈X.pn++pins,p.1≠b) :
 Inv X pins σ H' { s with heap:=h',gens:=g',drawn:=d',toks:=t' }:=by
 obtain⟨m,⟨o,es,ep,ho,r⟩,_⟩:=id I.loc;obtain⟨sl,hL⟩:=u.any ho I.free fun z=>(hch _ z).2.1 rfl
 exact I.step (ch:=ch) hch (fun b o hL hb hc e n=>u.keep b o e n (fun z=>(Ag.mp (I.stkSub b z)).elim hL hb) hc) (fun b o _ _ hc e n=>u.any e n hc) (fun b o hc e n=>u.free b o e n hc) (fun b o hc e=>u.there b o e hc) u.tups u.frzs u.tbls (fun m' hm=>by
  obtain⟨o',es',ep',ho',r'⟩:=hm;rw[ho]at ho';cases ho'
  exact⟨_,es',ep',hL,r'⟩) hok hg
theorem Inv.turned {t':Nat}{it:Addr}(I:Inv X pins σ H s)(k:∀ b o,b≠it->s.heap.get? b=some o->h'.get? b=some o)(hn:H it=none)(hL:it≠X.env.locals)
 (h1:it∈X.ex\/X.s₀.heap.objs.size<=it) (h2:∀ x c,X.env.cells.lookup x=some c->c≠it) (h3:∀ p∈X.pn++pins,p.1≠it):Inv X pins σ H { s with heap:=h',toks:=t' }:=by
 have nit:∀ b u,H b=some u->b≠it:=fun b u e z=>by rw[z,hn]at e;cases e
 refine I.step (g':=s.gens) (d':=s.drawn) (ch:=[it]) (fun b hb=>?_) (fun b o _ _ hc e _=>k b o (fun z=>hc (by simp[z])) e) (fun b o _ _ hc e _=>⟨o.slots,k b o (fun z=>hc (by simp[z])) e⟩) (fun _ _ _ _ n=>n)
  (fun b o hc e=>⟨o,k b o (fun z=>hc (by simp[z])) e⟩) (fun _ _ e=>e) (fun _ _ _ e=>e) (fun b ps e=>⟨#[],by rw[e];simp⟩) (fun m hm=>?_) (fun b u e=>?_) I.bare
 · have e:b=it:=by simpa using hb
   subst e;exact⟨h1,hL,h2,h3⟩
 · obtain⟨o,es,ep,ho,r⟩:=hm
   exact⟨o,es,ep,k _ o (Ne.symm hL) ho,r⟩
 · refine(I.hok b u e).stay (fun c v hc q=>k c v ?_ q) (fun _ q=>q) fun _ _ q=>q
   rcases hc with z | z
   · rw[z];exact nit b u e
   · exact nit c _ z
theorem Inv.tok (I:Inv X pins σ H s)(t:Nat):Inv X pins σ H { s with toks:=t }:=I.un (h':=s.heap) (t':=t) Un.refl I.hok
theorem Inv.kept {t':Nat}(I:Inv X pins σ H s)(k:∀ b u,s.heap.get? b=some u->h'.get? b=some u):Inv X pins σ H { s with heap:=h',toks:=t' }:=I.un (Un.kept k) (I.hok.kept k)
theorem Inv.laid {a:Addr}{o:HO}{t':Nat}(I:Inv X pins σ H s)(k:∀ b u,s.heap.get? b=some u->h'.get? b=some u)(hp:s.heap.objs.size<=a)(new:dO X.prog X.w (upd H a o) h' a o) :
 Inv X pins σ (upd H a o) { s with heap:=h',toks:=t' }:=I.un (Un.laid k hp (I.hok.fresh hp)) (I.hok.laid k hp new)
theorem Inv.write {x e:Addr}{o:HO}{t':Nat}(I:Inv X pins σ H s)(mu:Mut (H x))(he:e=x\/H e=some (.own x))(k:∀ b u,b≠e->s.heap.get? b=some u->h'.get? b=some u)(heo:∃ u,h'.get? e=some u)
 (new:dO X.prog X.w (upd H x o) h' x o):Inv X pins σ (upd H x o) { s with heap:=h',toks:=t' }:=I.un (Un.write mu he k heo) (I.hok.write mu he k heo new)
theorem Inv.weak {σ':List (Option V)}(I:Inv X pins σ H s)(hl:σ'.length=σ.length)(w:∀ (i:Nat) v,σ'[i]?=some (some v)->σ[i]?=some (some v)):Inv X pins σ' H s :=
 ⟨I.ok,I.os,I.bare,I.base,let ⟨m,hn,hl'⟩:=I.loc;⟨m,hn,fun i x v e1 e2 e3=>hl' i x v e1 (w i v e2) e3⟩,I.cell,I.free,I.freeC,I.pin,I.hok,hl.trans I.len⟩
theorem Inv.pins_of {pins':List (Addr×Obj)}(I:Inv X pins σ H s)(h:∀ p∈pins',s.heap.get? p.1=some p.2/\H p.1=none/\p.1≠X.env.locals/\p.1∉X.fs/\∀ v,p.2.data≠.cell v):Inv X pins' σ H s :=
 ⟨I.ok,I.os,I.bare,I.base,I.loc,I.cell,I.free,I.freeC,fun p hp=>(An.mp hp).elim (fun z=>I.pin p (Bk _ z)) (h p),I.hok,I.len⟩
theorem aBc {N:List Str}(hN:N.Nodup){i j:Nat}{x:Str}(a:N[i]?=some x)(b:N[j]?=some x):i=j:=by
 obtain⟨h1,e1⟩:=Aw.mp a;obtain⟨h2,e2⟩:=Aw.mp b;exact(List.getElem_inj hN).mp (e1.trans e2.symm)
theorem aFd {M:Model}{A:Around}{E:Value->Shared->Prop}{i:Nat}{x:Str}{v:V}{u:Value}{Q:Unit->Shared->Prop}(I:Inv X pins σ H s)(hN:X.N.Nodup)(hi:X.N[i]?=some x)(hx:Loc X.env.scope x)(r:bN v u)
 (h:∀ s',Inv X pins (σ.set i (some v)) H s'->(∃ a,Heap.SameBut a s.heap s'.heap/\(a=X.env.locals\/X.env.cells.lookup x=some a))->Q () s') (hf:X.fn x=true\/X.env.scope.names.lookup x=some .local:=by first | exact .inl rfl | exact .inr rfl | assumption):wpAny M A (storeName X.env x u) Q E s:=by
 obtain⟨m,hn,hl⟩:=id I.loc;have hcls:(X.env.scope.kind==.class||(X.env.scope.kind==.module&&X.env.locals != X.env.globals))=false:=by rw[I.ok.kind];rfl
 have hiσ:i<σ.length:=by rw[I.len];exact(Aw.mp hi).1
 have cne:=I.cne
 have tracked:∀ {a:Addr} {h':Heap},(∃ o,s.heap.get? a=some o/\H a=none)->Heap.SameBut a s.heap h'->HOk X.prog X.w H h':=fun {a h'} ha hs b ob e=>by
  obtain⟨_,_,hfree⟩:=ha;refine(I.hok b ob e).stay (fun c w' hc q=>(hs.2 c ?_).trans q) (fun _ q=>q) fun _ _ q=>q
  rintro rfl
  rcases hc with rfl | hc
  · rw[hfree]at e;cases e
  · rw[hfree]at hc;cases hc
 rcases hx with hk | hk
 · refine wpAny_storeName_local hk hn (fun h' hn' hs=>?_) hcls
   obtain⟨oL,_,_,hoL,_⟩:=id hn;refine h _ ⟨I.ok,I.os,I.bare,⟨fun b o e n hb hx=>?_,fun b o e n hb hx=>?_,I.base.free,fun b o e hx=>?_,I.base.tups,I.base.frzs,I.base.tbls⟩,⟨_,hn',fun j y v' e1 e2 e3=>?_⟩,fun y c e=>?_,I.free,I.freeC,fun p hp=>?_,tracked ⟨oL,hoL,I.free⟩ hs,by simpa using I.len⟩ ⟨_,hs,.inl rfl⟩
   · exact(hs.2 b (Cb (Af (Am e) I.ok.above))).trans (I.base.keep b o e n hb hx)
   · obtain⟨sl,e1⟩:=I.base.slot b o e n hb hx
     exact⟨sl,(hs.2 b (Cb (Af (Am e) I.ok.above))).trans e1⟩
   · obtain⟨o',e1⟩:=I.base.there b o e hx
     exact⟨o',(hs.2 b (Cb (Af (Am e) I.ok.above))).trans e1⟩
   · by_cases hj:j=i
     · subst hj
       rw[hi]at e1;cases e1;rw[Ay hiσ]at e2;cases e2;exact⟨u,r,.inl ⟨hk,by simp⟩⟩
     · rw[Av (Ne.symm hj)]at e2
       obtain⟨u',r',q⟩:=hl j y v' e1 e2 e3;refine⟨u',r',?_⟩
       rcases q with ⟨k,e⟩ | ⟨k,c,e,z⟩
       · refine .inl ⟨k,?_⟩
         have:y≠x:=fun e=>hj (aBc hN e1 (e▸hi))
         simp[this,e]
       · exact .inr ⟨k,c,e,z.sameBut hs (cne y c e)⟩
   · obtain⟨w',z⟩:=I.cell y c e
     exact⟨w',z.sameBut hs (cne y c e)⟩
   · obtain⟨e,n,ne,nf,d⟩:=I.pin p hp
     exact⟨(hs.2 p.1 ne).trans e,n,ne,nf,d⟩
 · have hfn:X.fn x=true:=by
    rcases hf with z | z
    · exact z
    · rw[z]at hk;cases hk
   obtain⟨c,hc⟩:=I.ok.has x (.inl hk);obtain⟨w',z⟩:=I.cell x c hc;refine wpAny_storeName_cell I.ok.kind hk hc z (fun h' hc' hs=>?_)
   obtain⟨oc,hoc,hocd⟩:=id z;refine h { s with heap:=h' } ⟨I.ok,I.os,I.bare,⟨fun b o e n hb hx=>?_,fun b o e n hb hx=>?_,I.base.free,fun b o e hx=>?_,I.base.tups,I.base.frzs,I.base.tbls⟩,⟨m,hn.sameBut hs (Ne.symm (cne x c hc)),fun j y v' e1 e2 e3=>?_⟩,fun y c' e=>?_,I.free,I.freeC,fun p hp=>?_,tracked ⟨oc,hoc,I.freeC x c hc⟩ hs,by simpa using I.len⟩ ⟨c,hs,.inr hc⟩
   · exact(hs.2 b (Cb (Af (Am e) (I.ok.cab x c hfn hc)))).trans (I.base.keep b o e n hb hx)
   · obtain⟨sl,e1⟩:=I.base.slot b o e n hb hx
     exact⟨sl,(hs.2 b (Cb (Af (Am e) (I.ok.cab x c hfn hc)))).trans e1⟩
   · obtain⟨o',e1⟩:=I.base.there b o e hx
     exact⟨o',(hs.2 b (Cb (Af (Am e) (I.ok.cab x c hfn hc)))).trans e1⟩
   · by_cases hj:j=i
     · subst hj
       rw[hi]at e1;cases e1;rw[Ay hiσ]at e2;cases e2;exact⟨u,r,.inr ⟨.inl hk,c,hc,hc'⟩⟩
     · rw[Av (Ne.symm hj)]at e2
       obtain⟨u',r',q⟩:=hl j y v' e1 e2 e3;refine⟨u',r',?_⟩
       rcases q with q | ⟨k,c',e,z'⟩
       · exact .inl q
       · refine .inr ⟨k,c',e,z'.sameBut hs ?_⟩
         rintro rfl
         exact hj (aBc hN e1 (I.ok.inj _ _ _ e hc▸hi))
   · by_cases hcc:c'=c
     · subst hcc;exact⟨_,hc'⟩
     · obtain⟨w2,z2⟩:=I.cell y c' e
       exact⟨w2,z2.sameBut hs hcc⟩
   · obtain⟨e,n,ne,nf,d⟩:=I.pin p hp
     refine⟨(hs.2 p.1 ?_).trans e,n,ne,nf,d⟩
     intro q;rw[q,hoc]at e;have q':oc=p.2:=Dh.inj e;exact d w' (by rw[←q'];exact hocd)
theorem sD {M:Model}{A:Around}{E:Value->Shared->Prop}{i:Nat}{x:Str}{v:V}{u:Value}{Q:Unit->Shared->Prop}(I:Inv X pins σ H s)(hN:X.N.Nodup)(hi:X.N[i]?=some x)(hx:Loc X.env.scope x)(r:bN v u)
 (h:∀ s',Inv X pins (σ.set i (some v)) H s'->Q () s') (hf:X.fn x=true\/X.env.scope.names.lookup x=some .local:=by first | exact .inl rfl | exact .inr rfl | assumption):wpAny M A (storeName X.env x u) Q E s :=
 aFd I hN hi hx r (fun s' I' _=>h s' I') hf
theorem Inv.call' {s':Shared}{ch:List Addr}(I:Inv X pins σ H s)(ho:s'.os=s.os)(u:Un (frs X.stack) ch H H' s.heap s'.heap)(hok:HOk X.prog X.w H' s'.heap)(hg:AllBare s'.gens)
 (hch:∀ b∈ch,(b∈X.ex\/X.s₀.heap.objs.size<=b)/\b≠X.env.locals/\(∀ x c,X.env.cells.lookup x=some c->c≠b)/\∀ p∈X.pn++pins,p.1≠b):Inv X pins σ H' s':=by
 obtain⟨h',g',d',t',o'⟩:=s';have e:o'=s.os:=ho;subst e;exact I.call (g':=g') (t':=t') (d':=d') u hok hg hch
end
abbrev XK:=Value->Option Addr->Hp->Prop
abbrev St:=List (Option V)
abbrev VK:=V->Hp->Prop
abbrev TE:=St->Hp->VK->Prop
abbrev TT:=St->Hp->(Bool->Hp->Prop)->Prop
abbrev TA:=St->Hp->(List V->Hp->Prop)->Prop
structure Ends where
 nx:St->Hp->Prop
 rt:VK
 bk:St->Hp->Prop:=fun _ _=>False
 ct:St->Hp->Prop:=fun _ _=>False
abbrev TS:=Ends->St->Hp->Prop
def EP (X:Cx)(pins:List (Addr×Obj))(σ:St)(Q:VK)(u:Value)(s':Shared):Prop:=∃ v H',Inv X pins σ H' s'/\bN v u/\Q v H'
def TP (X:Cx)(pins:List (Addr×Obj))(σ:St)(Q:Bool->Hp->Prop)(b:Bool)(s':Shared):Prop:=∃ H',Inv X pins σ H' s'/\Q b H'
def AP (X:Cx)(pins:List (Addr×Obj))(σ:St)(Q:List V->Hp->Prop)(us:List Value)(s':Shared):Prop:=∃ vs H',Inv X pins σ H' s'/\bG vs us/\Q vs H'
def SP (X:Cx)(pins:List (Addr×Obj))(D:Ends)(f:Flow)(s':Shared):Prop :=
 match f with
 | .next=>∃ σ' H',Inv X pins σ' H' s'/\D.nx σ' H'
 | .brk=>∃ σ' H',Inv X pins σ' H' s'/\D.bk σ' H'
 | .cont=>∃ σ' H',Inv X pins σ' H' s'/\D.ct σ' H'
 | .ret u=>∃ v σ' H',Inv X pins σ' H' s'/\bN v u/\D.rt v H'
def PE (X:Cx)(e:Expr)(t:TE):Prop :=
 ∀ (pins:List (Addr×Obj)) (s:Shared) (σ:St) (H:Hp) (Q:VK),Inv X pins σ H s->t σ H Q->wpAny (model X.prog X.w) X.A (eval e X.env) (EP X pins σ Q) X.xe s
def PT (X:Cx)(e:Expr)(t:TT):Prop :=
 ∀ (pins:List (Addr×Obj)) (s:Shared) (σ:St) (H:Hp) (Q:Bool->Hp->Prop),Inv X pins σ H s->t σ H Q->wpAny (model X.prog X.w) X.A (isTrue e X.env (eval e X.env)) (TP X pins σ Q) X.xe s
def PW (X:Cx)(e:Expr)(t:TT):Prop :=
 ∀ (whole:Sem Value) (pins:List (Addr×Obj)) (s:Shared) (σ:St) (H:Hp) (Q:Bool->Hp->Prop),Inv X pins σ H s->t σ H Q->wpAny (model X.prog X.w) X.A (isTrue e X.env whole) (TP X pins σ Q) X.xe s
theorem PW.pt {X:Cx}{e:Expr}{t:TT}(h:PW X e t):PT X e t:=h _
def PA (X:Cx)(es:List Expr)(t:TA):Prop :=
 ∀ (pos:Pos) (pins:List (Addr×Obj)) (s:Shared) (σ:St) (H:Hp) (Q:List V->Hp->Prop),Inv X pins σ H s->t σ H Q->wpAny (model X.prog X.w) X.A (spliced (backTo pos (starEach es X.env))) (AP X pins σ Q) X.xe s
def PS (X:Cx)(st:Stmt)(t:TS):Prop :=
 ∀ (pins:List (Addr×Obj)) (s:Shared) (σ:St) (H:Hp) (D:Ends),Inv X pins σ H s->t D σ H->wpAny (model X.prog X.w) X.A (exec st X.env) (SP X pins D) X.xe s
def PSs (X:Cx)(st:List Stmt)(t:TS):Prop :=
 ∀ (pins:List (Addr×Obj)) (s:Shared) (σ:St) (H:Hp) (D:Ends),Inv X pins σ H s->t D σ H->wpAny (model X.prog X.w) X.A (execs st X.env) (SP X pins D) X.xe s
theorem thn {α:Type}{t:Sem α}{Q Q':α->Shared->Prop}{M:Model}{A:Around}{E:Value->Shared->Prop}{s:Shared}(h:wpAny M A t Q E s)(hQ:∀ a s,Q a s->Q' a s):wpAny M A t Q' E s:=wpAny_mono h hQ fun _ _ x=>x
end L2
namespace L2
open PySem PySem.Spec PyProof.Rows
section
variable {X:Cx}
theorem bin {a b:Expr}{ta tb:TE}(ha:PE X a ta)(hb:PE X b tb){pins:List (Addr×Obj)}{s:Shared}{σ:St}{H:Hp}{R:V->V->Hp->Prop}(I:Inv X pins σ H s)(h:ta σ H fun x H1=>tb σ H1 fun y H2=>R x y H2)
 {α:Type} {Q:α->Shared->Prop} {f:Value->Value->Sem α}
 (hf:∀ v u s2 x y H2,Inv X pins σ H2 s2->bN x v->bN y u->R x y H2->wpAny (model X.prog X.w) X.A (f v u) Q X.xe s2) :
 wpAny (model X.prog X.w) X.A (eval a X.env) (fun v s₁=>wpAny (model X.prog X.w) X.A (eval b X.env) (fun u s₂=>wpAny (model X.prog X.w) X.A (f v u) Q X.xe s₂) X.xe s₁) X.xe s:=by
 refine thn (ha pins s σ H _ I h) fun v s1 ⟨x,H1,I1,r1,q1⟩=>?_
 refine thn (hb pins s1 σ H1 _ I1 q1) fun u s2 ⟨y,H2,I2,r2,q2⟩=>?_
 exact hf v u s2 x y H2 I2 r1 r2 q2
def mJ (i:Nat):TE:=fun σ H Q=>∃ v,σ[i]?=some (some v)/\Q v H
def tC (v:V):TE:=fun _ H Q=>Q v H
theorem mR {i:Nat}{x:Str}{pos:Pos}(hN:X.N[i]?=some x)(hv:Vis X.env.scope x)(hd:(x==("__debug__":Str))=false:=by decide)(hcd:(x==("__classdict__":Str))=false:=by decide):PE X (.Name x pos) (mJ i):=by
 intro pins s σ H Q I h;obtain⟨v,e,h⟩:=h;obtain⟨m,hn,hl⟩:=I.loc;obtain⟨u,r,l⟩:=hl i x v hN e hv;have fin:EP X pins σ Q u s:=⟨v,H,I,r,h⟩;rcases l with ⟨hk,hm⟩ | ⟨hk,c,hc,hcell⟩
 · exact wpAny_Name (wpAny_loadName_local I.ok.kind hk hn hm fin) hd
 · rcases hk with hk | hk
   · exact wpAny_Name (wpAny_loadName_cell I.ok.kind hk hc hcell fin) hd
   · exact wpAny_Name (wpAny_loadName_free I.ok.kind hk hc hcell fin hcd) hd
theorem aQq {i j pos}:PE X (.Constant (.int i) j pos) (tC (.int i)):=fun _ _ _ H _ I h=>wpAny_Constant_int ⟨.int i,H,I.tok _,⟨_,rfl⟩,h⟩
theorem aR5 {b j pos}:PE X (.Constant (.bool b) j pos) (tC (.bl b)):=fun _ _ _ H _ I h=>Constant_bool ⟨.bl b,H,I,rfl,h⟩
def Gl (X:Cx)(x:Str):Prop:=X.env.kindOf x=some .globalImplicit
theorem qN {E:Value->Shared->Prop}{pins:List (Addr×Obj)}{s:Shared}{σ:St}{H:Hp}{x:Str}{u:Value}{pos:Pos}{Q:Value->Shared->Prop}(I:Inv X pins σ H s)(hg:Gl X x)(hm:X.mg x=some u)(h:Q u s)
 (hd:(x==("__debug__":Str))=false:=by decide):wpAny (model X.prog X.w) X.A (eval (.Name x pos) X.env) Q E s :=
 Calls.Name_function_global I.ok.kind hg (Calls.loadGlobal_global (by rw[I.ok.glob];exact I.mod.glob.keeps I.bk) hm h) hd
theorem gO {E:Value->Shared->Prop}{pins:List (Addr×Obj)}{s:Shared}{σ:St}{H:Hp}{x:Str}{u:Value}{pos:Pos}{Q:Value->Shared->Prop}(I:Inv X pins σ H s)(hg:Gl X x)(hm:X.mg x=none)(hv:bootBuiltins x=some u)(h:Q u s)
 (hn:x ≠ "__name__":=by decide) (hd:(x==("__debug__":Str))=false:=by decide):wpAny (model X.prog X.w) X.A (eval (.Name x pos) X.env) Q E s:=by
 obtain⟨mb,h1,h2⟩:=I.mod.blt;exact Calls.Name_function_global I.ok.kind hg (Calls.loadGlobal_builtin (by rw[I.ok.glob];exact I.mod.glob.keeps I.bk) hm (by rw[I.ok.blt];exact h1.keeps I.bk) ((h2 x hn).trans hv) h) hd
theorem aKi {x:Str}{v:V}{u:Value}{pos:Pos}(hg:Gl X x)(hm:X.mg x=some u)(r:bN v u)(hd:(x==("__debug__":Str))=false:=by decide):PE X (.Name x pos) (tC v) :=
 fun _ _ _ H _ I h=>qN I hg hm ⟨v,H,I,r,h⟩ hd
theorem aMe {x:Str}{v:V}{u:Value}{pos:Pos}(hg:Gl X x)(hm:X.mg x=none)(hv:bootBuiltins x=some u)(r:bN v u)(hn:x ≠ "__name__":=by decide)(hd:(x==("__debug__":Str))=false:=by decide):PE X (.Name x pos) (tC v) :=
 fun _ _ _ H _ I h=>gO I hg hm hv ⟨v,H,I,r,h⟩ hn hd
variable {a b:Expr}{ta tb:TE}{pos:Pos}
def PC (X:Cx)(op:CmpOp)(a b:Expr)(t:TE):Prop :=
 ∀ (pins:List (Addr×Obj)) (s:Shared) (σ:St) (H:Hp) (Q:VK),Inv X pins σ H s->t σ H Q ->
  wpAny (model X.prog X.w) X.A (eval a X.env) (fun v s₁=>wpAny (model X.prog X.w) X.A (eval b X.env) (fun u s₂=>wpAny (model X.prog X.w) X.A (compareOp op v u) (EP X pins σ Q) X.xe s₂) X.xe s₁) X.xe s
def tB (t:TE):TT:=fun σ H Q=>t σ H fun x H1=>∃ c,x=.bl c/\Q c H1
theorem aU3 {op:CmpOp}{t:TE}(h:PC X op a b t)(h1:behindInMarks op b=false:=by first | exact nobehind _ (by decide) (by decide) | rfl):PT X (.Compare a [op] [b] pos) (tB t):=by
 intro pins s σ H Q I hw;refine wpAny_isTrue_Compare1 (thn (h pins s σ H _ I hw) fun v s1 h1=>thn h1 fun u s2 h2=>thn h2 fun c s3 ⟨x,H1,I1,r1,q1⟩=>?_) h1
 obtain⟨d,rfl,q⟩:=q1;cases r1;exact wpAny_truthy_bool ⟨H1,I1,q⟩
theorem aQs {e:Expr}{t:TE}(h:PE X e t)(he:∀ whole,isTrue e X.env whole=(do let v ← whole;standAt e.pos;holding [v] (truthy v)):=by intro _;rfl):PT X e (tB t):=by
 intro pins s σ H Q I hw;refine isTrue_plain (thn (h pins s σ H _ I hw) fun v s1 ⟨x,H1,I1,r1,q1⟩=>?_) (he _)
 obtain⟨d,rfl,q⟩:=q1;cases r1;exact wpAny_truthy_bool ⟨H1,I1,q⟩
variable {tA tB':TT}{rest:List Expr}
def aVc (t u:TT):TT:=fun σ H Q=>t σ H fun c H1=>if c=true then u σ H1 Q else Q false H1
def tOr (t u:TT):TT:=fun σ H Q=>t σ H fun c H1=>if c=true then Q true H1 else u σ H1 Q
theorem aMy (ha:PT X a tA):PW X (.BoolOp .And [a] pos) tA:=by
 intro wh pins s σ H Q I h;refine isTrue_and (thn (ha pins s σ H Q I h) fun c s1 e=>?_)
 cases c with
 | true=>exact isTrue_and_nil e
 | false=>exact e
theorem aPl (ha:PT X a tA):PW X (.BoolOp .Or [a] pos) tA:=by
 intro wh pins s σ H Q I h;refine isTrue_or (thn (ha pins s σ H Q I h) fun c s1 e=>?_)
 cases c with
 | false=>exact isTrue_or_nil e
 | true=>exact e
theorem aQ7 (ha:PT X a tA)(hb:PW X (.BoolOp .And (b :: rest) pos) tB'):PW X (.BoolOp .And (a :: b :: rest) pos) (aVc tA tB'):=by
 intro wh pins s σ H Q I h;refine isTrue_and (thn (ha pins s σ H _ I h) fun c s1 ⟨H1,I1,q1⟩=>?_)
 cases c with
 | true=>exact hb wh pins s1 σ H1 Q I1 q1
 | false=>exact⟨H1,I1,q1⟩
theorem aS4 (ha:PT X a tA)(hb:PW X (.BoolOp .Or (b :: rest) pos) tB'):PW X (.BoolOp .Or (a :: b :: rest) pos) (tOr tA tB'):=by
 intro wh pins s σ H Q I h;refine isTrue_or (thn (ha pins s σ H _ I h) fun c s1 ⟨H1,I1,q1⟩=>?_)
 cases c with
 | true=>exact⟨H1,I1,q1⟩
 | false=>exact hb wh pins s1 σ H1 Q I1 q1
def aSw (ta tb:TE):TE:=fun σ H Q=>ta σ H fun x H1=>∃ c,x=.bl c/\if c=true then tb σ H1 Q else Q (.bl false) H1
theorem aOz {op}{t:TE}(h:PE X a t):PE X (.BoolOp op [a] pos) t:=fun pins s σ H Q I hw=>BoolOp_one (h pins s σ H Q I hw)
theorem aPt (ha:PE X a ta)(hb:PE X (.BoolOp .And (b :: rest) pos) tb):PE X (.BoolOp .And (a :: b :: rest) pos) (aSw ta tb):=by
 intro pins s σ H Q I h;refine BoolOp_and (thn (ha pins s σ H _ I h) fun v s1 ⟨x,H1,I1,r1,q1⟩=>?_)
 obtain⟨c,rfl,q1⟩:=q1;cases r1;refine wpAny_truthy_bool ?_
 cases c with
 | true=>exact hb pins s1 σ H1 Q I1 q1
 | false=>exact⟨.bl false,H1,I1,rfl,q1⟩
def tIf (t:TT)(ta tb:TE):TE:=fun σ H Q=>t σ H fun c H1=>if c=true then ta σ H1 Q else tb σ H1 Q
theorem aJg {c:Expr}(hc:PT X c tA)(ha:PE X a ta)(hb:PE X b tb):PE X (.IfExp c a b pos) (tIf tA ta tb):=by
 intro pins s σ H Q I h;refine wpAny_IfExp (thn (hc pins s σ H _ I h) fun d s1 ⟨H1,I1,q1⟩=>?_)
 cases d with
 | true=>exact ha pins s1 σ H1 Q I1 q1
 | false=>exact hb pins s1 σ H1 Q I1 q1
end
end L2
namespace L2
open PySem PySem.Spec PyProof.Rows
def SqL (K:PySem.W.Frag)(H:Hp)(a:Addr)(xs:List V):Prop :=
 Rd H a (.lst xs) \/
  ∃ (o:Obj) (its:Array Value) (n:Nat),K.lookup a=some o/\o.cls=.type "list"/\o.dict=none/\o.data=.seq its n/\its.size<=sizeLine/\bG xs its.toList
def SqT (K:PySem.W.Frag)(H:Hp)(a:Addr)(xs:List V):Prop :=
 Rd H a (.tup xs) \/
  ∃ (o:Obj) (its:Array Value) (n:Nat),K.lookup a=some o/\o.cls=.type "tuple"/\o.data=.seq its n/\its.size<=sizeLine/\bG xs its.toList
def aUx:Value->Option V
 | .none=>some .non
 | .bool b=>some (.bl b)
 | .int i _=>some (.int i)
 | .str x _=>some (.str x)
 | .bytes b _=>some (.byt b)
 | .float b _=>some (.flt b)
 | .ref a=>some (.ref a)
 | .type n=>some (.ty n)
 | _=>none
theorem bN.abs {x:V}{u:Value}(r:bN x u):aUx u=some x:=by
 cases x with
 | non=>cases r;rfl
 | bl _=>cases r;rfl
 | int _=>obtain⟨t,rfl⟩:=r;rfl
 | str _=>obtain⟨t,rfl⟩:=r;rfl
 | byt _=>obtain⟨t,rfl⟩:=r;rfl
 | flt _=>obtain⟨t,rfl⟩:=r;rfl
 | ref _=>cases r;rfl
 | ty _=>cases r;rfl
theorem bN.inj {x y:V}{u:Value}(r:bN x u)(q:bN y u):x=y:=Dh.inj (r.abs.symm.trans q.abs)
theorem bG.inj:∀ {xs ys:List V} {us:List Value},bG xs us->bG ys us->xs=ys
 | _,_,_,.nil,.nil=>rfl
 | _,_,_,.cons r t,.cons r' t'=>by rw[r.inj r',bG.inj t t']
section
variable {X:Cx}{pins:List (Addr×Obj)}{σ:St}{H:Hp}{s:Shared}{a:Addr}{xs ys:List V}
theorem SqL.of {K:PySem.W.Frag}(h:H a=some (.lst xs)):SqL K H a xs:=.inl (.inl h)
theorem SqT.of {K:PySem.W.Frag}(h:H a=some (.tup xs)):SqT K H a xs:=.inl (.inl h)
theorem Inv.list (I:Inv X pins σ H s)(h:SqL X.K H a xs):∃ its:List Value,bG xs its/\PlainL s.heap a its.toArray/\xs.length<=sizeLine:=by
 rcases h with h | ⟨o,its,n,hk,hc,hd,hs,hz,r⟩
 · obtain⟨z,its,n,r,e⟩:=h.ok I.hok
   exact⟨its,r,⟨_,n,e,rfl,rfl,rfl⟩,z⟩
 · refine⟨its.toList,r,⟨o,n,I.kIn a o hk,hc,hd,by simpa using hs⟩,?_⟩
   have e:=r.length;simp only[Array.length_toList]at e;omega
theorem Inv.tuple (I:Inv X pins σ H s)(h:SqT X.K H a xs):∃ its:List Value,bG xs its/\IsTup s.heap a its.toArray/\xs.length<=sizeLine:=by
 rcases h with h | ⟨o,its,n,hk,hc,hs,hz,r⟩
 · obtain⟨z,its,r,p⟩:=h.ok I.hok
   exact⟨its,r,p,z⟩
 · refine⟨its.toList,r,⟨o,I.kIn a o hk,hc,n,by simpa using hs⟩,?_⟩
   have e:=r.length;simp only[Array.length_toList]at e;omega
theorem Inv.list_inj (I:Inv X pins σ H s)(h:SqL X.K H a xs)(h':SqL X.K H a ys):xs=ys:=by
 obtain⟨its,r,⟨o,n,e,_,_,d⟩,_⟩:=I.list h;obtain⟨its',r',⟨o',n',e',_,_,d'⟩,_⟩:=I.list h';rw[e]at e';cases e';rw[d]at d';injection d' with d1 _
 have:its=its':=by simpa using congrArg Array.toList d1
 subst this;exact r.inj r'
end
abbrev Cx.wish (X:Cx)(E:Value->Shared->Prop):Cx:={ X with xe:=E }
abbrev Cx.nox (X:Cx):Cx:=X.wish fun _ _=>False
theorem Cx.Ok.wish {X:Cx}(ok:X.Ok)(E:Value->Shared->Prop):(X.wish E).Ok :=
 ⟨ok.mod,ok.kind,ok.glob,ok.blt,ok.above,ok.inj,ok.has,ok.cab,ok.hd,ok.frames,ok.stk,ok.exf,ok.bs,ok.bsz,ok.noex,ok.exfs,ok.funs,ok.frf⟩
theorem Cx.Ok.unwish {X:Cx}{E:Value->Shared->Prop}(ok:(X.wish E).Ok):X.Ok :=
 ⟨ok.mod,ok.kind,ok.glob,ok.blt,ok.above,ok.inj,ok.has,ok.cab,ok.hd,ok.frames,ok.stk,ok.exf,ok.bs,ok.bsz,ok.noex,ok.exfs,ok.funs,ok.frf⟩
section
variable {X:Cx}{pins:List (Addr×Obj)}{σ:St}{H:Hp}{s:Shared}{E:Value->Shared->Prop}
theorem Inv.wish (I:Inv X pins σ H s)(E:Value->Shared->Prop):Inv (X.wish E) pins σ H s:=⟨I.ok.wish E,I.os,I.bare,I.base,I.loc,I.cell,I.free,I.freeC,I.pin,I.hok,I.len⟩
theorem Inv.unwish (I:Inv (X.wish E) pins σ H s):Inv X pins σ H s:=⟨I.ok.unwish,I.os,I.bare,I.base,I.loc,I.cell,I.free,I.freeC,I.pin,I.hok,I.len⟩
theorem SP.unwish {D:Ends}{f:Flow}{s':Shared}(h:SP (X.wish E) pins D f s'):SP X pins D f s':=by
 cases f with
 | next=>obtain⟨σ',H',I,q⟩:=h;exact⟨σ',H',I.unwish,q⟩
 | brk=>obtain⟨σ',H',I,q⟩:=h;exact⟨σ',H',I.unwish,q⟩
 | cont=>obtain⟨σ',H',I,q⟩:=h;exact⟨σ',H',I.unwish,q⟩
 | ret u=>obtain⟨v,σ',H',I,r,q⟩:=h;exact⟨v,σ',H',I.unwish,r,q⟩
theorem PSs.nox {st:List Stmt}{t:TS}(h:PSs X.nox st t):PSs X st t:=fun pins s σ H D I hw =>
 wpAny_mono (h pins s σ H D (I.wish _) hw) (fun _ _ q=>q.unwish) fun _ _ z=>False.elim z
end
section
variable {X:Cx}{st:Stmt}{rest:List Stmt}{t u:TS}{e:Expr}{te:TE}{pos:Pos}
def aSu:TS:=fun D σ H=>D.nx σ H
def aG1 (t u:TS):TS:=fun D σ H=>t { D with nx:=u D } σ H
theorem aD4:PSs X [] aSu:=fun _ _ σ H _ I h=>wpAny_execs_nil ⟨σ,H,I,h⟩
theorem kL (h1:PS X st t)(h2:PSs X rest u):PSs X (st :: rest) (aG1 t u):=by
 intro pins s σ H D I h;refine wpAny_execs_cons (thn (h1 pins s σ H { D with nx:=u D } I h) fun f s1 q=>?_)
 cases f with
 | next =>
  obtain⟨σ',H',I',q⟩:=q;exact h2 pins s1 σ' H' D I' q
 | ret v=>exact q
 | brk=>exact q
 | cont=>exact q
theorem qL (h1:PS X st t):PSs X [st] t:=by
 intro pins s σ H D I h;refine wpAny_execs_cons (thn (h1 pins s σ H D I h) fun f s1 q=>?_)
 cases f with
 | next=>exact wpAny_execs_nil q
 | ret v=>exact q
 | brk=>exact q
 | cont=>exact q
theorem Inv.quiet {pins:List (Addr×Obj)}{σ:St}{H:Hp}{s:Shared}(I:Inv X pins σ H s):interactive X.env=false:=by simp[interactive,I.ok.kind]
def aTk (te:TE):TS:=fun D σ H=>te σ H fun _ H1=>D.nx σ H1
theorem qK (he:PE X e te)(hs:swapsWith e none pos.line X.env=pure false:=by rfl):PS X (.Expr e pos) (aTk te):=by
 intro pins s σ H D I h;exact wpAny_Expr_any (thn (he pins s σ H _ I h) fun v s1 ⟨x,H1,I1,r1,q1⟩=>⟨σ,H1,I1,q1⟩) I.quiet hs
def aU5 (te:TE):TS:=fun D σ H=>te σ H D.rt
theorem aQ9 (he:PE X e te):PS X (.Return (some e) pos) (aU5 te):=by
 intro pins s σ H D I h;exact wpAny_Return_some (thn (he pins s σ H _ I h) fun v s1 ⟨x,H1,I1,r1,q1⟩=>⟨x,σ,H1,I1,r1,q1⟩)
def aU9 (c:TT)(t u:TS):TS:=fun D σ H=>c σ H fun b H1=>if b=true then t D σ H1 else u D σ H1
theorem aN4 {c:Expr}{a b:List Stmt}{tc:TT}(hc:PT X c tc)(ha:PSs X a t)(hb:PSs X b u):PS X (.If c a b pos) (aU9 tc t u):=by
 intro pins s σ H D I h;refine wpAny_If (thn (hc pins s σ H _ I h) fun d s1 ⟨H1,I1,q1⟩=>?_)
 cases d with
 | true=>exact ha pins s1 σ H1 D I1 q1
 | false=>exact hb pins s1 σ H1 D I1 q1
def aQ5:TS:=fun _ _ _=>False
theorem aG3:PS X st aQ5:=fun _ _ _ _ _ _ h=>h.elim
end
abbrev TG:=V->St->Hp->(St->Hp->Prop)->Prop
abbrev TGs:=List V->St->Hp->(St->Hp->Prop)->Prop
def PG (X:Cx)(target:Expr)(t:TG):Prop :=
 ∀ (pins:List (Addr×Obj)) (s:Shared) (σ:St) (H:Hp) (v:V) (u:Value) (Q:St->Hp->Prop),Inv X pins σ H s->bN v u->t v σ H Q ->
  wpAny (model X.prog X.w) X.A (assign target X.env u) (fun _ s'=>∃ σ' H',Inv X pins σ' H' s'/\Q σ' H') X.xe s
def PGs (X:Cx)(ts:List Expr)(t:TGs):Prop :=
 ∀ (pins:List (Addr×Obj)) (s:Shared) (σ:St) (H:Hp) (vs:List V) (us:List Value) (Q:St->Hp->Prop),Inv X pins σ H s->bG vs us->t vs σ H Q ->
  wpAny (model X.prog X.w) X.A (assignInOrder ((assignEach ts X.env).map (·.2)) us) (fun _ s'=>∃ σ' H',Inv X pins σ' H' s'/\Q σ' H') X.xe s
abbrev aOk:=V->V->V->Hp->(Hp->Prop)->Prop
def aT4 (X:Cx)(t:aOk):Prop :=
 ∀ (pins:List (Addr×Obj)) (s:Shared) (σ:St) (H:Hp) (o i v:V) (ov iv u:Value) (Q:Hp->Prop),Inv X pins σ H s->bN o ov->bN i iv->bN v u->t o i v H Q ->
  wpAny (model X.prog X.w) X.A (setItem ov iv u) (fun _ s'=>∃ H',Inv X pins σ H' s'/\Q H') X.xe s
section
variable {X:Cx}{pos:Pos}
def zF (i:Nat):TG:=fun v σ H Q=>Q (σ.set i (some v)) H
theorem aLp {i:Nat}{x:Str}(hN:X.N.Nodup)(hi:X.N[i]?=some x)(hx:Loc X.env.scope x)(hf:X.fn x=true\/X.env.scope.names.lookup x=some .local:=by first | exact .inl rfl | exact .inr rfl | assumption):PG X (.Name x pos) (zF i):=by
 intro pins s σ H v u Q I r h;exact wpAny_assign_Name (sD I hN hi hx r (fun s' I'=>⟨_,H,I',h⟩) hf)
def aK3:TGs:=fun vs σ H Q=>vs=[]/\Q σ H
def aD2 (t:TG)(u:TGs):TGs:=fun vs σ H Q=>∃ v r,vs=v :: r/\t v σ H fun σ' H'=>u r σ' H' Q
theorem aMz:PGs X [] aK3:=by
 intro pins s σ H vs us Q I r h;obtain⟨e,h⟩:=h;subst e;cases r;exact assignInOrder_nil ⟨σ,H,I,h⟩
theorem aJy {e:Expr}{es:List Expr}{t:TG}{u:TGs}(h1:PG X e t)(h2:PGs X es u)
 (hs:(assignEach (e :: es) X.env).map (·.2)=assign e X.env :: (assignEach es X.env).map (·.2):=by rfl):PGs X (e :: es) (aD2 t u):=by
 intro pins s σ H vs us Q I r h;obtain⟨v,vr,e1,h⟩:=h;subst e1;cases r with
 | cons r rr =>
  rw[hs];refine assignInOrder_cons (thn (h1 pins s σ H _ _ _ I r h) fun _ s1 ⟨σ1,H1,I1,q1⟩=>?_)
  exact h2 pins s1 σ1 H1 _ _ Q I1 rr q1
def aKx (K:PySem.W.Frag)(n:Nat)(t:TGs):TG:=fun v σ H Q=>∃ a xs,v=.ref a/\SqT K H a xs/\xs.length=n/\t xs σ H Q
theorem aQ4 {es:List Expr}{k:Nat}{t:TGs}{n:Nat}(hc:X.calm=true)(h:PGs X es t)
 (hn:(assignEach es X.env).length=n:=by rfl) (hst:(assignEach es X.env).findIdx? (·.1)=none:=by rfl):PG X (.Tuple es k pos) (aKx X.K n t):=by
 intro pins s σ H v u Q I r hw;obtain⟨a,xs,e1,hq,hl,hw⟩:=hw;subst e1;cases r;obtain⟨its,rv,ht,hz⟩:=I.tuple hq;refine assign_Tuple_tuple (I.ok.hd hc) ht (by simp[hn,←hl,rv.length]) hst fun h' hx=>?_
 have I1:Inv X pins σ H { s with heap:=h' }:=I.kept (t':=s.toks) fun b o e=>hx b o (Cb (Am e)) e
 exact h pins _ σ H xs _ Q I1 (by simpa using rv) hw
def aUd (to ti:TE)(t:aOk):TG:=fun v σ H Q=>to σ H fun o H1=>ti σ H1 fun i H2=>t o i v H2 fun H3=>Q σ H3
theorem aJn {o i:Expr}{to ti:TE}{t:aOk}(ho:PE X o to)(hi:PE X i ti)(hs:aT4 X t)
 (ha:∀ v,assign (.Subscript o i pos) X.env v=(do
  let ov ← holding [v] (eval o X.env)
  let iv ← holding [v,ov] (eval i X.env)
  standAt pos
  holding [v,ov,iv] (setItem ov iv v)
  release [v,ov,iv] []):=by intro _;rfl):PG X (.Subscript o i pos) (aUd to ti t):=by
 intro pins s σ H v u Q I r h;rw[ha];refine wpAny_bind (wpAny_holding (thn (ho pins s σ H _ I h) fun ov s1 ⟨x,H1,I1,r1,q1⟩=>?_))
 refine wpAny_bind (wpAny_holding (thn (hi pins s1 σ H1 _ I1 q1) fun iv s2 ⟨y,H2,I2,r2,q2⟩=>?_))
 refine wpAny_bind (wpAny_standAt (wpAny_bind (wpAny_holding (thn (hs pins s2 σ H2 x y v ov iv u _ I2 r1 r2 r q2) fun _ s3 ⟨H3,I3,q3⟩=>?_))))
 exact wpAny_release ⟨σ,H3,I3,q3⟩
def aTf (te:TE)(g:TG):TS:=fun D σ H=>te σ H fun x H1=>g x σ H1 D.nx
theorem aHd {tg e:Expr}{te:TE}{g:TG}(he:PE X e te)(hg:PG X tg g)(hs:swapsWithSole [tg] e pos.line X.env=pure false:=by rfl)(hw:swappedStores [tg] e X.env=pure none:=by rfl)
 (h1:(assignEach [tg] X.env).map (·.2)=[assign tg X.env]:=by rfl):PS X (.Assign [tg] e pos) (aTf te g):=by
 intro pins s σ H D I h;refine wpAny_Assign_stores (thn (he pins s σ H _ I h) fun v s1 ⟨x,H1,I1,r1,q1⟩=>?_) hs hw
 rw[h1];exact thn (hg pins s1 σ H1 x v _ I1 r1 q1) fun _ s2 q=>q
theorem aIe {i:Nat}{x:Str}{e:Expr}{te:TE}{pos':Pos}(hN:X.N.Nodup)(hi:X.N[i]?=some x)(hx:Loc X.env.scope x)(he:PE X e te)(hs:swapsWith e (some (.Name x pos')) pos.line X.env=pure false:=by rfl)(hf:X.fn x=true\/X.env.scope.names.lookup x=some .local:=by first | exact .inl rfl | exact .inr rfl | assumption) :
 PS X (.Assign [.Name x pos'] e pos) (aTf te (zF i)):=by
 intro pins s σ H D I h;refine wpAny_Assign_Name (thn (he pins s σ H _ I h) fun v s1 ⟨y,H1,I1,r1,q1⟩=>?_) hs
 exact sD I1 hN hi hx r1 (fun s2 I2=>⟨_,H1,I2,q1⟩) hf
end
section
variable {X:Cx}{pos:Pos}
def aPj (c:TT)(tb:TS):TS:=fun D σ H=>∃ W:Nat->St->Hp->Prop,(∃ m,W m σ H)/\∀ m σ H,W m σ H ->
 c σ H fun b H1=>if b=true then ∃ N:St->Hp->Prop,(∀ σ' H',N σ' H'->∃ m',m'<m/\W m' σ' H')/\tb { D with nx:=N,ct:=N,bk:=D.nx } σ H1 else D.nx σ H1
theorem aJq {c:Expr}{body:List Stmt}{tc:TT}{tb:TS}(hp:PassesOwn (model X.prog X.w) X.A X.env X.xe)(hc:PT X c tc)(hb:PSs X body tb):PS X (.While c body [] pos) (aPj tc tb):=by
 intro pins s σ H D I h;obtain⟨W,⟨m0,w0⟩,uL⟩:=h;refine wpAny_While (codeAny_whileLoop (fun n s'=>∃ σ' H',Inv X pins σ' H' s'/\W n σ' H') ?_ m0 ⟨σ,H,I,w0⟩)
 rintro n s1 ⟨σ1,H1,I1,w1⟩
 refine wpAny_passesOwn hp (thn (hc pins s1 σ1 H1 _ I1 (uL n σ1 H1 w1)) fun b s2 ⟨H2,I2,q2⟩=>?_)
 cases b with
 | true =>
  obtain⟨N,hN,q2⟩:=q2;rw[if_pos rfl];refine wpAny_passesOwn hp (thn (hb pins s2 σ1 H2 _ I2 q2) fun f s3 q3=>?_)
  cases f with
  | next =>
   obtain⟨σ3,H3,I3,n3⟩:=q3;obtain⟨m',hm,w3⟩:=hN σ3 H3 n3;exact⟨m',hm,σ3,H3,I3,w3⟩
  | cont =>
   obtain⟨σ3,H3,I3,n3⟩:=q3;obtain⟨m',hm,w3⟩:=hN σ3 H3 n3;exact⟨m',hm,σ3,H3,I3,w3⟩
  | brk=>exact q3
  | ret v=>exact q3
 | false =>
  rw[if_neg Cd];exact wpAny_execs_nil ⟨σ1,H2,I2,q2⟩
end
structure It where
 go:Nat->Hp->Prop
 yld:Nat->Hp->V->Hp->Prop
 stop:Nat->Hp->Prop
def mP (X:Cx)(pins:List (Addr×Obj))(H:Hp)(b:Addr):Prop :=
 H b=none/\b≠X.env.locals/\b∉X.fs/\(b∈X.ex\/X.s₀.heap.objs.size<=b)/\(∀ x c,X.env.cells.lookup x=some c->c≠b)/\∀ p∈X.pn++pins,p.1≠b
theorem Inv.fpOk {X:Cx}{pins:List (Addr×Obj)}{σ:St}{H H':Hp}{s:Shared}{b:Addr}(I:Inv X pins σ H s)(hb:s.heap.objs.size<=b)(hn:H' b=none):mP X pins H' b:=by
 refine⟨hn,Ge (Af I.lt hb),I.nofs hb,.inr (Bp I.sz hb),fun x c e z=>?_,fun p hp z=>?_⟩
 · obtain⟨v,q⟩:=I.cell x c e
   exact absurd (Af q.lt (by rw[z];exact hb)) (Fl _)
 · exact absurd (Af (Am (I.pin p hp).1) (by rw[z];exact hb)) (Fl _)
structure Turn (P:Program)(w:World)(K:PySem.W.Frag)(tg:Expr)(J:It)(fp:List Addr)(it:Addr)(tn:Nat->Heap->Prop):Prop where
 mem:it∈fp
 obj:∀ i h,tn i h->∀ b∈fp,∃ o,h.get? b=some o/\∀ v,o.data≠.cell v
 keep:∀ i h h',tn i h->(∀ b∈fp,∀ o,h.get? b=some o->h'.get? b=some o)->tn i h'
 item:∀ (X:Cx),X.prog=P->X.w=w->X.K=K->X.calm=true->∀ (i:Nat) (pins:List (Addr×Obj)) (s:Shared) (σ:St) (H:Hp) (E:Value->Shared->Prop),Inv X pins σ H s->(∀ b∈fp,mP X pins H b)->tn i s.heap->J.go i H ->
  wpAny (model P w) X.A (pyNext (.ref it)) (fun r s1=>∃ u,r=some u /\
   wpAny (model P w) X.A (letOwnedTupleGo tg (.ref it) u) (fun _ s2=>∃ x H',Inv X pins σ H' s2/\bN x u/\J.yld i H x H'/\tn (i+1) s2.heap/\∀ b∈fp,H' b=none) E s1) E s
 done:∀ (X:Cx),X.prog=P->X.w=w->X.K=K->X.calm=true->∀ (i:Nat) (pins:List (Addr×Obj)) (s:Shared) (σ:St) (H:Hp) (E:Value->Shared->Prop),Inv X pins σ H s->(∀ b∈fp,mP X pins H b)->tn i s.heap->J.stop i H ->
  wpAny (model P w) X.A (pyNext (.ref it)) (fun r s1=>r=none/\Inv X pins σ H s1) E s
 self:∀ (A:Around) (i:Nat) (s:Shared) (Q:Value->Shared->Prop) (E:Value->Shared->Prop),tn i s.heap->Q (.ref it) s->wpAny (model P w) A (pyIter (.ref it)) Q E s
abbrev TI:=St->Hp->(It->Hp->Prop)->Prop
def PIE (X:Cx)(pins:List (Addr×Obj))(σ:St)(tg:Expr)(R:It->Hp->Prop)(itv:Value)(s2:Shared):Prop :=
 ∃ (it:Addr) (fp:List Addr) (tn:Nat->Heap->Prop) (J:It) (H':Hp),itv=.ref it/\Inv X pins σ H' s2/\Turn X.prog X.w X.K tg J fp it tn/\tn 0 s2.heap/\(∀ b∈fp,mP X pins H' b)/\R J H'
def PI (X:Cx)(tg iter:Expr)(wi:TI):Prop :=
 ∀ (pins:List (Addr×Obj)) (s:Shared) (σ:St) (H:Hp) (R:It->Hp->Prop),Inv X pins σ H s->wi σ H R ->
  wpAny (model X.prog X.w) X.A (eval iter X.env) (fun v s1=>wpAny (model X.prog X.w) X.A (pyIter v) (PIE X pins σ tg R) X.xe s1) X.xe s
theorem aC1 {M:Model}{A:Around}{E:Value->Shared->Prop}{s:Shared}{tg:Expr}{it:Addr}{u:Value}{o:Obj}{n:String}{vs:Array Value}{Q:Unit->Shared->Prop}(ho:s.heap.get? it=some o)(hc:o.cls=.type n)(hd:o.data=.fields vs)
    (hn:["enumerate","zip","dict_itemiterator","dict_reverseitemiterator","odict_iterator","itertools.zip_longest","itertools.pairwise"].contains n=false) (hQ:Q () s):wpAny M A (letOwnedTupleGo tg (.ref it) u) Q E s:=by
  unfold letOwnedTupleGo
  cases tg<;>first
    | exact wpAny_pure hQ
    | (cases u<;>first
        | exact wpAny_pure hQ
        | (refine wpAny_bind (wpAny_load ho ?_)
           rw[hc,hd];show wpAny M A (if (["enumerate","zip","dict_itemiterator","dict_reverseitemiterator","odict_iterator","itertools.zip_longest","itertools.pairwise"].contains n&&vs[0]?==some (rawInt _))=true then _ else _) Q E s
           rw[if_neg (by intro h;rw[hn,Bool.false_and]at h;cases h)]
           exact wpAny_pure hQ))
def Itl (K:PySem.W.Frag)(a:Addr):It :=
 ⟨fun i H=>∃ xs x,SqL K H a xs/\xs[i]?=some x,fun i H x H'=>H'=H/\∀ xs,SqL K H a xs->xs[i]?=some x,fun i H=>∃ xs,SqL K H a xs/\xs.length<=i⟩
def Itr (lo:Int)(n:Nat):It:=⟨fun i _=>i<n,fun i H x H'=>H'=H/\x=.int (lo+i),fun i _=>n<=i⟩
theorem aFi {P:Program}{w:World}{K:PySem.W.Frag}{tg:Expr}(a it:Addr):Turn P w K tg (Itl K a) [it] it (fun i h=>h.IsListIter it a i) where
 mem:=by simp
 obj:=fun i h st b hb=>by
  have e:b=it:=by simpa using hb
  subst e;obtain⟨o,e,c,d⟩:=st;exact⟨o,e,fun v z=>by rw[d]at z;cases z⟩
 keep:=fun i h h' st k=>st.at fun o e=>k it (by simp) o e
 item:=by
  intro X hP hw hK hc i pins s σ H E I hf st hg;subst hP hw hK;obtain⟨xs,x,hq,hx⟩:=hg;obtain⟨its,rv,p,hz⟩:=I.list hq;obtain⟨u,hu,ru⟩:=rv.get hx;obtain⟨f0,f1,f2,f3,f4,f5⟩:=hf it (by simp)
  refine wpAny_pyNext_list_item st p.isList (x:=u) (by simpa using hu) fun h' st' sb=>?_
  have I1:Inv X pins σ H { s with heap:=h' }:=I.turned (t':=s.toks) (fun b o hb e=>(sb.2 b hb).trans e) f0 f1 f3 f4 f5
  obtain⟨o,e,c,d⟩:=id st';exact⟨u,rfl,aC1 (s:={ s with heap:=h' }) e c d (by decide) ⟨x,H,I1,ru,⟨rfl,fun ys hy=>by rw[I.list_inj hy hq];exact hx⟩,st',fun b hb=>(hf b hb).1⟩⟩
 done:=by
  intro X hP hw hK hc i pins s σ H E I hf st hg;subst hP hw hK;obtain⟨xs,hq,hx⟩:=hg;obtain⟨its,rv,p,hz⟩:=I.list hq;obtain⟨f0,f1,f2,f3,f4,f5⟩:=hf it (by simp)
  have hl:=rv.length;exact wpAny_pyNext_list_end (I.ok.hd hc) st p.isList (by simp;omega) fun h' eb=>⟨rfl,I.turned (t':=s.toks) (fun b o hb e=>eb b o hb e) f0 f1 f3 f4 f5⟩
 self:=fun _ _ _ _ _ st h=>wpAny_pyIter_listiter st h
theorem aBs {P:Program}{w:World}{K:PySem.W.Frag}{tg:Expr}(it:Addr)(lo:Int)(n:Nat):Turn P w K tg (Itr lo n) [it] it (fun i h=>IsRangeIter h it (lo+(i:Nat)*1) ((n:Int)-(i:Nat)) 1) where
 mem:=by simp
 obj:=fun i h st b hb=>by
  have e:b=it:=by simpa using hb
  subst e
  exact⟨_,st,fun v z=>by
   have z':Data.fields _=Data.cell v:=z
   cases z'⟩
 keep:=fun i h h' st k=>k it (by simp) _ st
 item:=by
  intro X hP hw hK hc i pins s σ H E I hf st hg;subst hP hw hK;obtain⟨f0,f1,f2,f3,f4,f5⟩:=hf it (by simp)
  have W:=Walks.range (prog:=X.prog) (w:=X.w) (I.ok.hd hc) it lo 1 n;refine W.item i s _ _ hg st fun v h' tk hv st' kk=>?_
  obtain⟨t,rfl⟩:=hv;have I1:Inv X pins σ H { s with heap:=h',toks:=tk }:=I.turned (fun b o hb e=>kk b o (by simpa using hb) e) f0 f1 f3 f4 f5
  refine⟨_,rfl,aC1 (s:={ s with heap:=h',toks:=tk }) (n:="range_iterator") st' rfl rfl (by decide) ⟨.int (lo+i),H,I1,⟨t,?_⟩,⟨rfl,rfl⟩,st',fun b hb=>(hf b hb).1⟩⟩
  rw[Hv]
 done:=by
  intro X hP hw hK hc i pins s σ H E I hf st hg;subst hP hw hK;obtain⟨f0,f1,f2,f3,f4,f5⟩:=hf it (by simp)
  exact wpAny_pyNext_range_end (I.ok.hd hc) st (by have:n<=i:=hg;omega) fun h' eb=>⟨rfl,I.turned (t':=s.toks) (fun b o hb e=>eb b o hb e) f0 f1 f3 f4 f5⟩
 self:=fun _ _ _ _ _ st h=>wpAny_pyIter_rangeiter st h
end L2
namespace L2
open PySem PySem.Spec PyProof.Rows
section
variable {X:Cx}{tg:Expr}
def aS1 (K:PySem.W.Frag)(tl:TE):TI:=fun σ H R=>tl σ H fun x H1=>∃ a,x=.ref a/\(∃ xs,SqL K H1 a xs)/\R (Itl K a) H1
theorem aLc {l:Expr}{tl:TE}(hl:PE X l tl):PI X tg l (aS1 X.K tl):=by
 intro pins s σ H R I h;refine thn (hl pins s σ H _ I h) fun v s1 ⟨x,H1,I1,r1,q1⟩=>?_
 obtain⟨a,e,⟨xs,hq⟩,q⟩:=q1;subst e;cases r1;obtain⟨its,rv,p,hz⟩:=I1.list hq;refine wpAny_pyIter_list p.isList ?_
 refine⟨s1.heap.objs.size,[s1.heap.objs.size],_,_,H1,rfl,I1.kept (t':=s1.toks) fun b o e=>As _ e,aFi a _,⟨_,Cm _ rfl,rfl,rfl⟩,fun b hb=>?_,q⟩
 have e:b=s1.heap.objs.size:=by simpa using hb
 subst e;exact I1.fpOk (Ah _) (I1.hok.fresh (Ah _))
theorem zB {pins:List (Addr×Obj)}{σ:St}{H:Hp}{s:Shared}{R:It->Hp->Prop}{E:Value->Shared->Prop}{lo hi:Int}{t u v:Tok}{tk:Nat}(I:Inv X pins σ H s)(h1:-(2^62)<=lo)(h2:lo<2^62)(h3:-(2^62)<=hi)(h4:hi<2^62)
 (q:R (Itr lo (hi-lo).toNat) H):wpAny (model X.prog X.w) X.A (pyIter (.ref s.heap.objs.size)) (PIE X pins σ tg R) E { s with heap:=s.heap.push { cls:=.type "range",data:=.fields #[.int lo t,.int hi u,.int 1 v] },toks:=tk }:=by
 refine wpAny_pyIter_range (IsRange.new ..) (small_one h1 h2 h3 h4) ?_
 have I1:Inv X pins σ H { s with heap:=s.heap.push { cls:=.type "range",data:=.fields #[.int lo t,.int hi u,.int 1 v] },toks:=tk }:=I.kept fun b o e=>As _ e
 refine⟨(s.heap.push { cls:=.type "range",data:=.fields #[.int lo t,.int hi u,.int 1 v] }).objs.size,[(s.heap.push { cls:=.type "range",data:=.fields #[.int lo t,.int hi u,.int 1 v] }).objs.size],_,_,H,rfl,
  I1.kept (t':=tk) fun b o e=>As _ e,aBs _ lo (hi-lo).toNat,?_,fun b hb=>?_,q⟩
 · have e1:lo+((0:Nat):Int)*1=lo:=by simp
   have e2:(((hi-lo).toNat:Nat):Int)-((0:Nat):Int)=Builtin.Range.rangeSize lo hi 1:=by rw[rangeSize_one];split<;>omega
   show IsRangeIter _ _ (lo+((0:Nat):Int)*1) ((((hi-lo).toNat:Nat):Int)-((0:Nat):Int)) 1
   rw[e1,e2];exact Cm _ rfl
 · have e:b=(s.heap.push { cls:=.type "range",data:=.fields #[.int lo t,.int hi u,.int 1 v] }).objs.size:=by simpa using hb
   subst e;exact I1.fpOk (Ah _) (I1.hok.fresh (Ah _))
def aS8 (ta:TA):TI:=fun σ H R=>ta σ H fun vs H1=>∃ j:Int,vs=[.int j]/\-(2^62)<=j/\j<2^62/\R (Itr 0 j.toNat) H1
def aSy (ta:TA):TI:=fun σ H R=>ta σ H fun vs H1=>∃ i j:Int,vs=[.int i,.int j]/\(-(2^62)<=i/\i<2^62/\-(2^62)<=j/\j<2^62)/\R (Itr i (j-i).toNat) H1
theorem aE5 {a:Expr}{ta:TA}{p pos:Pos}(hg:Gl X "range")(hm:X.mg "range" = none)(ha:PA X [a] ta)(hs:starEach [a] X.env=[(false,eval a X.env)]:=by rfl):PI X tg (.Call (.Name "range" p) [a] [] pos) (aS8 ta):=by
 intro pins s σ H R I h;refine Call_ (gO I hg hm boot_range (Bw (thn (ha pos pins s σ H _ I h) fun us s1 ⟨vs,H1,I1,r1,q1⟩=>?_) hs rfl))
 obtain⟨j,e,q1,q2,q⟩:=q1;subst e;cases r1 with
 | cons r rr =>
  cases rr;obtain⟨t,rfl⟩:=r;exact call_range_1 (zB I1 (by omega) (by omega) q1 q2 (by simpa using q))
theorem aE7 {a b:Expr}{ta:TA}{p pos:Pos}(hg:Gl X "range")(hm:X.mg "range" = none)(ha:PA X [a,b] ta)(hs:starEach [a,b] X.env=[(false,eval a X.env),(false,eval b X.env)]:=by rfl)(hs2:starEach [b] X.env=[(false,eval b X.env)]:=by rfl) :
 PI X tg (.Call (.Name "range" p) [a,b] [] pos) (aSy ta):=by
 intro pins s σ H R I h;refine Call_ (gO I hg hm boot_range (Bw (thn (ha pos pins s σ H _ I h) fun us s1 ⟨vs,H1,I1,r1,q1⟩=>?_) (by rw[hs,hs2]) (by rw[hs2];rfl)))
 obtain⟨i,j,e,⟨q1,q2,q3,q4⟩,q⟩:=q1;subst e;cases r1 with
 | cons r rr =>
  cases rr with
  | cons r' rr =>
   cases rr;obtain⟨t,rfl⟩:=r;obtain⟨t',rfl⟩:=r';exact call_range_2 (zB I1 q1 q2 q3 q4 q)
def aUr (wi:TI)(g:TG)(tb:TS):TS:=fun D σ H=>wi σ H fun J H1=>∃ W:Nat->Nat->St->Hp->Prop,(∃ m,W 0 m σ H1)/\∀ i m σ H,W i m σ H ->
 (J.stop i H/\D.nx σ H)\/(J.go i H/\∃ N:St->Hp->Prop,(∀ σ' H',N σ' H'->∃ m',m'<m/\W (i+1) m' σ' H')/\∀ x H',J.yld i H x H'->g x σ H' fun σ2 H2=>tb { D with nx:=N,ct:=N,bk:=D.nx } σ2 H2)
def tL (fp:List Addr)(h:Heap):List (Addr×Obj):=fp.filterMap fun b=>(h.get? b).map fun o=>(b,o)
theorem gR {fp:List Addr}{h:Heap}{b:Addr}{o:Obj}(hb:b∈fp)(e:h.get? b=some o):(b,o)∈tL fp h:=List.mem_filterMap.mpr ⟨b,hb,by rw[e];rfl⟩
theorem aFe {fp:List Addr}{h:Heap}{p:Addr×Obj}(hp:p∈tL fp h):p.1∈fp/\h.get? p.1=some p.2:=by
 obtain⟨b,hb,e⟩:=List.mem_filterMap.mp hp;cases q:h.get? b with
 | none=>rw[q]at e;cases e
 | some o =>
  rw[q]at e;have e':(b,o)=p:=Dh.inj e;subst e';exact⟨hb,q⟩
theorem Inv.pinned {pins:List (Addr×Obj)}{σ:St}{H:Hp}{s:Shared}{fp:List Addr}(I:Inv X pins σ H s)(hf:∀ b∈fp,mP X pins H b)(ho:∀ b∈fp,∃ o,s.heap.get? b=some o/\∀ v,o.data≠.cell v):Inv X (pins++tL fp s.heap) σ H s :=
 I.pins_of fun p hp=>(An.mp hp).elim (fun z=>I.pin p (Ak _ z)) fun z=>by
  obtain⟨hb,e⟩:=aFe z;obtain⟨f0,f1,f2,_⟩:=hf p.1 hb;obtain⟨o,e',d⟩:=ho p.1 hb;rw[e]at e';cases e';exact⟨e,f0,f1,f2,d⟩
theorem Inv.unpinned {pins pl:List (Addr×Obj)}{σ:St}{H:Hp}{s:Shared}(I:Inv X (pins++pl) σ H s):Inv X pins σ H s:=I.pins_of fun p hp=>I.pin p (Ak _ (Bk _ hp))
theorem aQb {iter:Expr}{body:List Stmt}{wi:TI}{g:TG}{tb:TS}{pos:Pos}(hp:PassesOwn (model X.prog X.w) X.A X.env X.xe)(hc:X.calm=true)(hi:PI X tg iter wi)(hg:PG X tg g)(hb:PSs X body tb)
 (hs:∀ x,foldedSetIterable iter X.env x=pure x:=by intro _;rfl):PS X (.For tg iter body [] pos) (aUr wi g tb):=by
 intro pins s σ H D I h;refine wpAny_For (thn (hi pins s σ H _ I h) fun v s1 h1=>thn h1 fun itv s2 h2=>?_) hs
 obtain⟨it,fp,tn,J,H2,e,I2,T,st2,f2,W,⟨m0,w0⟩,uL⟩:=h2;subst e;have zA:∀ {H':Hp},(∀ b∈fp,H' b=none)->∀ b∈fp,mP X pins H' b:=fun hn b hb=>⟨hn b hb,(f2 b hb).2⟩;refine codeAny_forLoop_any (fun n s'=>∃ i σ' H',Inv X pins σ' H' s'/\tn i s'.heap/\(∀ b∈fp,H' b=none)/\W i n σ' H') ?_ m0 ⟨0,σ,H2,I2,st2,fun b hb=>(f2 b hb).1,w0⟩
 rintro n s3 ⟨i,σ3,H3,I3,st3,fr3,w3⟩
 rcases uL i n σ3 H3 w3 with ⟨stop,qn⟩ | ⟨go,N,hN,step⟩
 · refine wpAny_passesOwn hp (thn (T.done X rfl rfl rfl hc i pins s3 σ3 H3 X.xe I3 (zA fr3) st3 stop) fun r s4 ⟨hr,I4⟩=>?_)
   subst hr;exact wpAny_execs_nil ⟨σ3,H3,I4,qn⟩
 · refine wpAny_passesOwn hp (thn (T.item X rfl rfl rfl hc i pins s3 σ3 H3 X.xe I3 (zA fr3) st3 go) fun r s4 ⟨u,hr,h4⟩=>?_)
   subst hr;refine wpAny_passesOwn hp (thn h4 fun _ s5 ⟨x,H5,I5,r5,y5,st5,fr5⟩=>?_)
   have I5':=I5.pinned (zA fr5) (T.obj _ _ st5);refine wpAny_passesOwn hp (thn (hg _ s5 σ3 H5 x u _ I5' r5 (step x H5 y5)) fun _ s6 ⟨σ6,H6,I6,q6⟩=>?_)
   refine wpAny_passesOwn hp (thn (hb _ s6 σ6 H6 _ I6 q6) fun f s7 q7=>?_)
   have again:∀ {σ7:St} {H7:Hp},Inv X (pins++tL fp s5.heap) σ7 H7 s7->N σ7 H7->∃ m,m<n/\∃ i σ' H',Inv X pins σ' H' s7/\tn i s7.heap/\(∀ b∈fp,H' b=none)/\W i m σ' H':=fun {σ7 H7} I7 n7=>by
    obtain⟨m',hm,w7⟩:=hN σ7 H7 n7;refine⟨m',hm,i+1,σ7,H7,I7.unpinned,T.keep _ _ _ st5 fun b hb o e=>(I7.pin (b,o) (Ak _ (Ak _ (gR hb e)))).1,fun b hb=>?_,w7⟩
    obtain⟨o,e,d⟩:=T.obj _ _ st5 b hb;exact(I7.pin (b,o) (Ak _ (Ak _ (gR hb e)))).2.1
   cases f with
   | next=>obtain⟨σ7,H7,I7,n7⟩:=q7;exact again I7 n7
   | cont=>obtain⟨σ7,H7,I7,n7⟩:=q7;exact again I7 n7
   | brk=>obtain⟨σ7,H7,I7,q7⟩:=q7;exact⟨σ7,H7,I7.unpinned,q7⟩
   | ret v=>obtain⟨x7,σ7,H7,I7,r7,q7⟩:=q7;exact⟨x7,σ7,H7,I7.unpinned,r7,q7⟩
end
end L2
namespace L2
open PySem PySem.Spec PyProof.Rows
abbrev R2:=V->V->Hp->VK->Prop
def OpR (X:Cx)(f:Value->Value->Sem Value)(r:R2):Prop :=
 ∀ (pins:List (Addr×Obj)) (s:Shared) (σ:St) (H:Hp) (x y:V) (v u:Value) (Q:VK),Inv X pins σ H s->bN x v->bN y u->r x y H Q ->
  wpAny (model X.prog X.w) X.A (f v u) (EP X pins σ Q) X.xe s
def UnR (X:Cx)(f:Value->Sem Value)(r:V->Hp->VK->Prop):Prop :=
 ∀ (pins:List (Addr×Obj)) (s:Shared) (σ:St) (H:Hp) (x:V) (v:Value) (Q:VK),Inv X pins σ H s->bN x v->r x H Q ->
  wpAny (model X.prog X.w) X.A (f v) (EP X pins σ Q) X.xe s
def kU (X:Cx)(f:Value)(r:List V->Hp->VK->Prop):Prop :=
 ∀ (pins:List (Addr×Obj)) (s:Shared) (σ:St) (H:Hp) (xs:List V) (us:List Value) (Q:VK),Inv X pins σ H s->bG xs us->r xs H Q ->
  wpAny (model X.prog X.w) X.A (call f us) (EP X pins σ Q) X.xe s
def aU7 (X:Cx)(r:V->Hp->(Bool->Hp->Prop)->Prop):Prop :=
 ∀ (pins:List (Addr×Obj)) (s:Shared) (σ:St) (H:Hp) (x:V) (v:Value) (Q:Bool->Hp->Prop),Inv X pins σ H s->bN x v->r x H Q ->
  wpAny (model X.prog X.w) X.A (truthy v) (TP X pins σ Q) X.xe s
def tOp (r:R2)(ta tb:TE):TE:=fun σ H Q=>ta σ H fun x H1=>tb σ H1 fun y H2=>r x y H2 Q
def tUn (r:V->Hp->VK->Prop)(ta:TE):TE:=fun σ H Q=>ta σ H fun x H1=>r x H1 Q
def rI (C:Int->Int->Prop)(g:Int->Int->V):R2:=fun x y H Q=>∃ i j,x=.int i/\y=.int j/\C i j/\Q (g i j) H
def rI0 (g:Int->Int->V):R2:=fun x y H Q=>∃ i j,x=.int i/\y=.int j/\Q (g i j) H
def rU (g:Int->V):V->Hp->VK->Prop:=fun x H Q=>∃ i,x=.int i/\Q (g i) H
section
variable {X:Cx}{a b c:Expr}{ta tb tc:TE}{pos:Pos}
theorem aQa (ha:PE X a ta)(hb:PE X b tb){pins:List (Addr×Obj)}{s:Shared}{σ:St}{H:Hp}{R:V->V->Hp->Prop}(I:Inv X pins σ H s)
 (h:ta σ H fun x H1=>tb σ H1 fun y H2=>R x y H2) {Q:Value->Shared->Prop} {f:Value->Value->Sem Value}
 (hf:∀ v u s2 x y H2,Inv X pins σ H2 s2->bN x v->bN y u->R x y H2->wpAny (model X.prog X.w) X.A (f v u) Q X.xe s2) :
 wpAny (model X.prog X.w) X.A (eval a X.env) (fun v s₁=>wpAny (model X.prog X.w) X.A (eval b X.env) (fun u s₂=>wpAny (model X.prog X.w) X.A (f v u) Q X.xe s₂) X.xe s₁) X.xe s:=by
 refine thn (ha pins s σ H _ I h) fun v s1 ⟨x,H1,I1,r1,q1⟩=>?_
 refine thn (hb pins s1 σ H1 _ I1 q1) fun u s2 ⟨y,H2,I2,r2,q2⟩=>?_
 exact hf v u s2 x y H2 I2 r1 r2 q2
theorem aJp {op:Operator}{r:R2}(ho:OpR X (binaryOp op) r)(ha:PE X a ta)(hb:PE X b tb):PE X (.BinOp a op b pos) (tOp r ta tb):=by
 intro pins s σ H Q I h;exact wpAny_BinOp (aQa ha hb I h fun v u s2 x y H2 I2 rx ry q=>ho pins s2 σ H2 x y v u Q I2 rx ry q)
theorem aTj {op:UnaryOp}{r:V->Hp->VK->Prop}(ho:UnR X (unaryOp op) r)(ha:PE X a ta):PE X (.UnaryOp op a pos) (tUn r ta):=by
 intro pins s σ H Q I h;exact UnaryOp_ (thn (ha pins s σ H _ I h) fun v s1 ⟨x,H1,I1,r1,q1⟩=>ho pins s1 σ H1 x v Q I1 r1 q1)
theorem opI {f:Value->Value->Sem Value}{C:Int->Int->Prop}{g:Int->Int->Int}
 (rule:∀ (i j:Int) (t u:Tok) (s:Shared) (Q:Value->Shared->Prop) (E:Value->Shared->Prop),C i j->Q (.int (g i j) s.toks) { s with toks:=s.toks+1 }->wpAny (model X.prog X.w) X.A (f (.int i t) (.int j u)) Q E s) :
 OpR X f (rI C fun i j=>.int (g i j)):=by
 intro pins s σ H x y v u Q I rx ry h;obtain⟨i,j,rfl,rfl,hc,q⟩:=h;obtain⟨t,rfl⟩:=rx;obtain⟨t',rfl⟩:=ry;exact rule i j t t' s _ _ hc ⟨.int (g i j),H,I.tok _,⟨_,rfl⟩,q⟩
theorem aSj {f:Value->Value->Sem Value}{g:Int->Int->Int}
 (rule:∀ (i j:Int) (t u:Tok) (s:Shared) (Q:Value->Shared->Prop) (E:Value->Shared->Prop),Q (.int (g i j) s.toks) { s with toks:=s.toks+1 }->wpAny (model X.prog X.w) X.A (f (.int i t) (.int j u)) Q E s) :
 OpR X f (rI0 fun i j=>.int (g i j)):=by
 intro pins s σ H x y v u Q I rx ry h;obtain⟨i,j,rfl,rfl,q⟩:=h;obtain⟨t,rfl⟩:=rx;obtain⟨t',rfl⟩:=ry;exact rule i j t t' s _ _ ⟨.int (g i j),H,I.tok _,⟨_,rfl⟩,q⟩
theorem aRi {f:Value->Value->Sem Value}{g:Int->Int->Bool}
 (rule:∀ (i j:Int) (t u:Tok) (s:Shared) (Q:Value->Shared->Prop) (E:Value->Shared->Prop),Q (.bool (g i j)) s->wpAny (model X.prog X.w) X.A (f (.int i t) (.int j u)) Q E s) :
 OpR X f (rI0 fun i j=>.bl (g i j)):=by
 intro pins s σ H x y v u Q I rx ry h;obtain⟨i,j,rfl,rfl,q⟩:=h;obtain⟨t,rfl⟩:=rx;obtain⟨t',rfl⟩:=ry;exact rule i j t t' s _ _ ⟨.bl (g i j),H,I,rfl,q⟩
def aUt (i j:Int):Prop:=0<=j/\j<=1000000/\i.natAbs<2^64
theorem aOv:OpR X (binaryOp .Add) (rI0 fun i j=>.int (i+j)):=aSj fun _ _ _ _ _ _ _ q=>add_int q
theorem aOn:OpR X (binaryOp .Sub) (rI0 fun i j=>.int (i-j)):=aSj fun _ _ _ _ _ _ _ q=>sub_int q
theorem aQe:OpR X (binaryOp .Mod) (rI (fun _ j=>0<j) fun i j=>.int (i%j)):=opI fun i j _ _ _ _ _ hc q=>by
 have h1:(0:Int)<j:=hc;exact mod_int' (by omega) (by rw[Int.fmod_eq_emod_of_nonneg i (by omega)];exact q)
theorem aOt:OpR X (binaryOp .Pow) (rI aUt fun i j=>.int (i^j.toNat)):=opI fun _ _ _ _ _ _ _ hc q=>pow_int_small hc.1 hc.2.1 hc.2.2 q
theorem unI {f:Value->Sem Value}{g:Int->Int}
 (rule:∀ (i:Int) (t:Tok) (s:Shared) (Q:Value->Shared->Prop) (E:Value->Shared->Prop),Q (.int (g i) s.toks) { s with toks:=s.toks+1 }->wpAny (model X.prog X.w) X.A (f (.int i t)) Q E s) :
 UnR X f (rU fun i=>.int (g i)):=by
 intro pins s σ H x v Q I rx h;obtain⟨i,rfl,q⟩:=h;obtain⟨t,rfl⟩:=rx;exact rule i t s _ _ ⟨.int (g i),H,I.tok _,⟨_,rfl⟩,q⟩
theorem aPk:UnR X (unaryOp .USub) (rU fun i=>.int (-i)):=unI fun _ _ _ _ _ q=>neg_int q
end
section
variable {X:Cx}{a b c:Expr}{ta tb tc:TE}{pos:Pos}
theorem aR1:OpR X (compareOp .Lt) (rI0 fun i j=>.bl (decide (i<j))):=aRi fun _ _ _ _ _ _ _ q=>lt_int q
theorem aN1:OpR X (compareOp .Gt) (rI0 fun i j=>.bl (decide (j<i))):=aRi fun _ _ _ _ _ _ _ q=>gt_int q
theorem pA (b:Expr){op:CmpOp}(h:op≠.In:=by decide)(h2:op≠.NotIn:=by decide):behindInMarks op b=false:=by
 have e1:(op==CmpOp.In)=false:=by cases op<;>first | rfl | exact absurd rfl h
 have e2:(op==CmpOp.NotIn)=false:=by cases op<;>first | rfl | exact absurd rfl h2
 cases b<;>simp[behindInMarks,e1,e2]
theorem aEh {op:CmpOp}{r:R2}(ho:OpR X (compareOp op) r)(ha:PE X a ta)(hb:PE X b tb)(hm:behindInMarks op b=false):PE X (.Compare a [op] [b] pos) (tOp r ta tb):=by
 intro pins s σ H Q I h;exact wpAny_Compare1 (aQa ha hb I h fun v u s2 x y H2 I2 rx ry q=>ho pins s2 σ H2 x y v u Q I2 rx ry q) hm
def aR0 (t:TE):TT:=fun σ H Q=>t σ H fun x H'=>∃ k,x=.bl k/\Q k H'
theorem aMv {op:CmpOp}{r:R2}(ho:OpR X (compareOp op) r)(ha:PE X a ta)(hb:PE X b tb)(hm:behindInMarks op b=false):PT X (.Compare a [op] [b] pos) (aR0 (tOp r ta tb)):=by
 intro pins s σ H Q I h
 refine wpAny_isTrue_Compare1 (thn (ha pins s σ H _ I h) fun v s1 ⟨x,H1,I1,r1,q1⟩=>thn (hb pins s1 σ H1 _ I1 q1) fun u s2 ⟨y,H2,I2,r2,q2⟩ =>
  thn (ho pins s2 σ H2 x y v u _ I2 r1 r2 q2) fun c s3 ⟨z,H3,I3,r3,k,e,q3⟩=>?_) hm
 subst e;cases r3;exact wpAny_truthy_bool ⟨H3,I3,q3⟩
def aTl (K:PySem.W.Frag)(x:V)(H:Hp)(k:Bool):Prop :=
 match x with
 | .non=>k=false
 | .bl b=>k=b
 | .int i=>k=(i != 0)
 | .str y=>y.length<=sizeLine/\k=((y.length:Int) != 0)
 | .byt y=>y.size<=sizeLine/\k=((y.size:Int) != 0)
 | .ref p=>(∃ xs,SqL K H p xs/\k=!xs.isEmpty)\/(∃ xs,SqT K H p xs/\k=!xs.isEmpty)\/∃ kvs,H p=some (.dK kvs)/\k=!kvs.isEmpty
 | _=>False
theorem aC0 {κ:Type}{kvs:List (κ×V)}{vs:List (κ×Value)}(r:KV kvs vs):(!vs.isEmpty)=!kvs.isEmpty:=by
 cases r<;>rfl
theorem rF {xs:List V}{its:List Value}(r:bG xs its):(!its.toArray.isEmpty)=!xs.isEmpty:=by
 cases r<;>simp
theorem sU:(sizeLine:Nat)<2^63:=by rw[sizeLine_eq];decide
theorem aP5:aU7 X (fun x H Q=>∃ k,aTl X.K x H k/\Q k H):=by
 intro pins s σ H x v Q I rx h;obtain⟨k,e,q⟩:=h;have hl:=sU;have hs:sizeLine=16777216:=sizeLine_eq;cases x with
 | non =>
  cases rx;have e':k=false:=e;subst e';exact truthy_none ⟨H,I,q⟩
 | bl b =>
  cases rx;have e':k=b:=e;subst e';exact wpAny_truthy_bool ⟨H,I,q⟩
 | int i =>
  obtain⟨t,rfl⟩:=rx;have e':k=(i != 0):=e;subst e';exact PySem.P.truthy_int ⟨H,I,q⟩
 | str y =>
  obtain⟨t,rfl⟩:=rx;obtain⟨hy,e'⟩:y.length<=sizeLine/\k=((y.length:Int) != 0):=e;subst e';exact PySem.P.truthy_str (by omega) ⟨H,I.tok _,q⟩
 | byt y =>
  obtain⟨t,rfl⟩:=rx;obtain⟨hy,e'⟩:y.size<=sizeLine/\k=((y.size:Int) != 0):=e;subst e';exact PySem.W.truthy_bytes (by omega) ⟨H,I.tok _,q⟩
 | ref p =>
  cases rx;have e':(∃ xs,SqL X.K H p xs/\k=!xs.isEmpty)\/(∃ xs,SqT X.K H p xs/\k=!xs.isEmpty)\/∃ kvs,H p=some (.dK kvs)/\k=!kvs.isEmpty:=e;rcases e' with ⟨xs,hx,e'⟩ | ⟨xs,hx,e'⟩ | ⟨kvs,hx,e'⟩
  · subst e'
    obtain⟨its,r,pl,hz⟩:=I.list hx;have hlen:=r.length;exact wpAny_truthy_list pl.isList (by simp only[Az];omega) ⟨H,I.tok _,by rw[rF r];exact q⟩
  · subst e'
    obtain⟨its,r,pl,hz⟩:=I.tuple hx;have hlen:=r.length;exact truthy_tuple pl (by simp only[Az];omega) ⟨H,I.tok _,by rw[rF r];exact q⟩
  · subst e'
    obtain⟨hz,hS,vs,r,m⟩:kvs.length<=sizeLine/\(p==sysModules)=false/\∃ vs,KV kvs vs/\s.heap.DictOf (xJ X.prog X.w) p vs:=I.hok p _ hx;have hlen:kvs.length=vs.length:=Paired.length r;exact wpAny_truthy_dict hS m (by omega) ⟨H,I.tok _,by rw[aC0 r];exact q⟩
 | _=>exact(show False from e).elim
theorem aKf (ha:PE X a ta)(he:∀ whole,isTrue a X.env whole=(do let v ← whole;standAt a.pos;holding [v] (truthy v))) :
 PT X a (fun σ H Q=>ta σ H fun x H'=>∃ k,aTl X.K x H' k/\Q k H'):=by
 intro pins s σ H Q I h;exact isTrue_plain (thn (ha pins s σ H _ I h) fun v s1 ⟨x,H1,I1,r1,q1⟩=>aP5 pins s1 σ H1 x v Q I1 r1 q1) (he _)
theorem vB {x:V}{us:List Value}(r:bG [x] us):∃ u,us=[u]/\bN x u:=by
 cases r with
 | cons r1 r2=>cases r2;exact⟨_,rfl,r1⟩
theorem zZ {x y:V}{us:List Value}(r:bG [x,y] us):∃ u w',us=[u,w']/\bN x u/\bN y w':=by
 cases r with
 | cons r1 r2 =>
  cases r2 with
  | cons r3 r4=>cases r4;exact⟨_,_,rfl,r1,r3⟩
theorem aH6:kU X (.builtin "abs") (fun xs H Q=>∃ i,xs=[.int i]/\Q (.int (if i<0 then -i else i)) H):=by
 intro pins s σ H xs us Q I r h;obtain⟨i,rfl,q⟩:=h;obtain⟨u,rfl,t,rfl⟩:=vB r;exact call_abs_int fun u tk=>⟨.int (if i<0 then -i else i),H,I.tok _,⟨_,rfl⟩,q⟩
theorem aF3 (hc:X.calm=true):kU X (.builtin "max") (fun xs H Q=>∃ i j,xs=[.int i,.int j]/\Q (.int (if j>i then j else i)) H):=by
 intro pins s σ H xs us Q I r h;obtain⟨i,j,rfl,q⟩:=h;obtain⟨u,w',rfl,⟨t,rfl⟩,⟨t',rfl⟩⟩:=zZ r;refine max_two_ints (I.ok.hd hc) fun h' tk k=>⟨_,H,I.kept k,?_,q⟩
 by_cases hj:j>i
 · rw[if_pos hj,if_pos hj];exact⟨_,rfl⟩
 · rw[if_neg hj,if_neg hj];exact⟨_,rfl⟩
theorem aFl (hc:X.calm=true):kU X (.builtin "min") (fun xs H Q=>∃ i j,xs=[.int i,.int j]/\Q (.int (if j<i then j else i)) H):=by
 intro pins s σ H xs us Q I r h;obtain⟨i,j,rfl,q⟩:=h;obtain⟨u,w',rfl,⟨t,rfl⟩,⟨t',rfl⟩⟩:=zZ r;refine min_two_ints (I.ok.hd hc) fun h' tk k=>⟨_,H,I.kept k,?_,q⟩
 by_cases hj:j<i
 · rw[if_pos hj,if_pos hj];exact⟨_,rfl⟩
 · rw[if_neg hj,if_neg hj];exact⟨_,rfl⟩
end
end L2
namespace L2
open PySem PySem.Spec PyProof.Rows
structure ObjM (h:Heap)(x dx C:Addr)(mA:Str->Option Value):Prop where
 obj:h.get? x=some (Eu C dx)
 ns:h.Ns1 dx mA
 ne:dx≠x
theorem aFw {h:Heap}{dx:Addr}{mA:Str->Option Value}(n:h.Ns1 dx mA):∃ od,h.get? dx=some od/\∀ name,Jt name od=some (mA name):=by
 obtain⟨o,es,ep,ho,hd,hk,_,hm⟩:=n;refine⟨o,ho,fun name=>?_⟩
 have e:=hm name;unfold nsFind findBy at e;rw[←Array.find?_toList]at e;unfold Jt;rw[hd];dsimp only
 split
 · rename_i y q
   rw[q]at e;exact congrArg some e
 · rename_i q
   rw[q]at e
   have a:es.toList.any (·.refKey)=false:=by
    rw[List.any_eq_false];intro y hy;obtain⟨z,t,hkey⟩:=hk y (Array.mem_toList_iff.mp hy);simp[DictEntry.refKey,hkey]
   have a':¬ es.toList.any (·.refKey)=true:=by rw[a];exact Cd
   rw[if_neg a'];exact congrArg some e
theorem ObjM.look {h:Heap}{x dx C:Addr}{mA:Str->Option Value}(I:ObjM h x dx C mA):∃ od,PySem.W.InstAt h x (Eu C dx) C (some od)/\∀ name,Jt name od=some (mA name) :=
 let ⟨od,ho,hl⟩:=aFw I.ns
 ⟨od,⟨I.obj,rfl,rfl,ho⟩,hl⟩
section
variable {prog:Program}{w:World}{A:Around}{E:Value->Shared->Prop}{s:Shared}{K:PySem.W.Frag}{x dx C f:Addr}{mA:Str->Option Value}{name:Str}{v:Value}
theorem aKy {expr:Bool}{Q:Value->Shared->Prop}(X:K.In s.heap)(I:ObjM s.heap x dx C mA)(hg:Hn K C name=true)(hh:Hf K C=true)
 (ha:Bd K (.ref C) name=some none) (hv:mA name=some v) (hv':PySem.W.handedIn v=true) (h:Q v { s with toks:=s.toks+1 }) :
 wpAny (model prog w) A (getAttr (.ref x) name expr) Q E s:=by
 obtain⟨od,J,hl⟩:=I.look;exact PySem.W.get_value X J (PySem.W.plainGet_of hg).1 (PySem.W.findObj_own hh ha rfl (by rw[hl,hv])) hv' h
theorem aLd {ns:List Str}{Q:Unit->Shared->Prop}(X:K.In s.heap)(I:ObjM s.heap x dx C mA)
 (hs:Bd K (.ref C) "__setattr__" = some (some (.builtin "object.__setattr__"))) (hp:Iy K C=true) (ht:Jn K C name=some none) (hh:Hf K C=true)
 (hw:PySem.Within mA ns) (hsz:ns.length<=sizeLine)
 (h:∀ h',ObjM h' x dx C (fun y=>if y=name then some v else mA y)->Heap.SameBut dx s.heap h'->Q () { s with heap:=h',toks:=s.toks+2 }) :
 wpAny (model prog w) A (setAttr (.ref x) name v) Q E s:=by
 obtain⟨od,J,hl⟩:=I.look;refine PySem.W.set_plain X J hs (PySem.W.osa_open (s:={ s with toks:=s.toks+1 }) (r:=none) X J hp ht fun b=>?_)
 obtain⟨cd,hc,hd'⟩:=PySem.W.any_some hh;have hx:s.heap.get? x=some ⟨.ref C,some dx,.plain,#[]⟩:=I.obj;refine wpAny_bind (wpAny_pure (wpAny_bind (wpAny_bind (wpAny_loadPart hx (wpAny_bind (PySem.W.Looks.here (s:={ s with toks:=s.toks+1 }) (PySem.W.looks_clsIn X hc) ?_))))))
 rw[hd'];refine wpAny_pure (a:=some dx) (wpAny_bind (wpAny_pure (wpAny_bind ?_)))
 refine wpAny_nsSet1 (s:={ s with toks:=s.toks+1 }) I.ns fun h' hn2 hs2=>?_
 obtain⟨oD,esD,epD,hoD,hdD,hcD⟩:=hn2.count (PySem.Within.cons name v hw);refine wpAny_bind (wpAny_lookBehind hoD (by rw[hdD];exact pastItsLine_dict (Bp hcD (by rw[Aq];omega))) ?_)
 exact wpAny_pure (h _ ⟨(hs2.2 _ (Ne.symm I.ne)).trans I.obj,hn2,I.ne⟩ hs2)
theorem aH7 {R:Result->Shared->Prop}{vs:List Value}{kw:List (Str×Value)}(X:K.In s.heap)(hm:Jo K C=true)
 (hi:Bd K (.ref C) "__init__" = some (some (.ref f))) (hf:PySem.W.typeIn K (.ref f)=some (.type "function"))
 (h:codeAny (model prog w) (A.under (.builtin "type.__call__" ⟨.ref C :: vs,kw⟩)) (.call (.ref f) ⟨.ref (s.heap.objs.size+1) :: vs,kw⟩) (PySem.W.InitBack (s.heap.objs.size+1) R)
  { s with heap:=(s.heap.push Ds).push (Eu C s.heap.objs.size) }) :
 codeAny (model prog w) A (.call (.ref C) ⟨vs,kw⟩) R s:=by
 obtain⟨hh,g,d,t,os⟩:=s;exact PySem.W.make_core (PySem.W.makes_of X hm) (PySem.W.looks_findIn X hi) (fun self=>PySem.W.bind_fn X self hf) (.inl rfl) h
end
def lP (f:Str)(v:V):List (Str×V)->List (Str×V)
 | []=>[(f,v)]
 | (g,x) :: r=>if g=f then (g,v) :: r else (g,x) :: lP f v r
theorem pR (f g:Str)(v:V):∀ fs:List (Str×V),(lP f v fs).lookup g=if g=f then some v else fs.lookup g
 | []=>by
  show Fg g [(f,v)]=_
  by_cases h:g=f
  · have hb:(g==f)=true:=beq_iff_eq.mpr h
    simp only[Fg,hb,if_pos h]
  · have hb:(g==f)=false:=beq_eq_false_iff_ne.mpr h
    simp only[Fg,hb,if_neg h]
 | (k,x) :: r=>by
  have ih:=pR f g v r;rw[show lP f v ((k,x) :: r)=(if k=f then (k,v) :: r else (k,x) :: lP f v r) from rfl]
  by_cases hk:k=f
  · rw[if_pos hk]
    by_cases h:g=k
    · have hb:(g==k)=true:=beq_iff_eq.mpr h
      simp only[Fg,hb,if_pos (h.trans hk)]
    · have hb:(g==k)=false:=beq_eq_false_iff_ne.mpr h
      simp only[Fg,hb,if_neg (fun e:g=f=>h (e.trans hk.symm))]
  · rw[if_neg hk]
    by_cases h:g=k
    · have hb:(g==k)=true:=beq_iff_eq.mpr h
      simp only[Fg,hb,if_neg (fun e:g=f=>hk (h.symm.trans e))]
    · have hb:(g==k)=false:=beq_eq_false_iff_ne.mpr h
      simp only[Fg,hb];exact ih
theorem oW (f:Str)(v:V):∀ fs:List (Str×V),f∈(lP f v fs).map (·.1)/\∀ g,g∈fs.map (·.1)->g∈(lP f v fs).map (·.1)
 | []=>⟨by simp[lP],fun g h=>by simp at h⟩
 | (k,x) :: r=>by
  obtain⟨i1,i2⟩:=oW f v r;rw[show lP f v ((k,x) :: r)=(if k=f then (k,v) :: r else (k,x) :: lP f v r) from rfl]
  by_cases hk:k=f
  · rw[if_pos hk]
    subst hk;exact⟨by simp,fun g h=>by simpa using h⟩
  · rw[if_neg hk]
    refine⟨?_,fun g h=>?_⟩
    · rw[Aj]
      exact Ae _ i1
    · rw[Aj]at h ⊢
      rcases Ag.mp h with e | e
      · exact Ag.mpr (.inl e)
      · exact Ae _ (i2 g e)
theorem pG (f:Str)(v:V):∀ fs:List (Str×V),(lP f v fs).length<=fs.length+1
 | []=>by simp[lP]
 | (k,x) :: r=>by
  have ih:=pG f v r;rw[show lP f v ((k,x) :: r)=(if k=f then (k,v) :: r else (k,x) :: lP f v r) from rfl]
  by_cases hk:k=f
  · rw[if_pos hk,Aq,Aq];omega
  · rw[if_neg hk,Aq,Aq];omega
theorem oY.some_of {v:V}{o:Option Value}(r:oY (some v) o):∃ u,o=some u/\bN v u:=by
 cases o with
 | none=>exact(show False from r).elim
 | some u=>exact⟨u,rfl,r⟩
theorem aF1 {v:V}{u:Value}(r:bN v u):PySem.W.handedIn u=true:=by
 cases v with
 | non=>cases (show u=Value.none from r);rfl
 | bl b=>cases (show u=Value.bool b from r);rfl
 | int i=>obtain⟨t,e⟩:=(show ∃ t,u=Value.int i t from r);cases e;rfl
 | str x=>obtain⟨t,e⟩:=(show ∃ t,u=Value.str x t from r);cases e;rfl
 | byt b=>obtain⟨t,e⟩:=(show ∃ t,u=Value.bytes b t from r);cases e;rfl
 | flt b=>obtain⟨t,e⟩:=(show ∃ t,u=Value.float b t from r);cases e;rfl
 | ref a=>cases (show u=Value.ref a from r);rfl
 | ty n=>cases (show u=Value.type n from r);rfl
section
variable {P:Program}{w:World}{H H':Hp}{h h':Heap}{a C dx:Addr}{fs fs':List (Str×V)}
theorem wL (hok:HOk P w H h)(e:H a=some (.ins C dx fs)):∃ mA,ObjM h a dx C mA/\(∀ f,oY (fs.lookup f) (mA f))/\PySem.Within mA (fs.map (·.1))/\fs.length<=1000/\H dx=some (.own a):=by
 obtain⟨d,z,ne,ob,mA,n,r,q⟩:=(show dO P w H h a (.ins C dx fs) from hok a _ e)
 exact⟨mA,⟨ob,n,ne⟩,r,q,z,d⟩
end
structure Cls (K:PySem.W.Frag)(C:Addr):Prop where
 pg:Hn K C Str.empty=true
 hd:Hf K C=true
 po:Iy K C=true
 sa:Bd K (.ref C) "__setattr__" = some (some (.builtin "object.__setattr__"))
theorem Cls.get {K:PySem.W.Frag}{C:Addr}(c:Cls K C)(f:Str):Hn K C f=true:=c.pg
def kW (K:PySem.W.Frag)(C:Addr)(f:Str):Prop:=Bd K (.ref C) f=some none
theorem kW.taker {K:PySem.W.Frag}{C:Addr}{f:Str}(n:kW K C f):Jn K C f=some none:=by
 unfold Jn;rw[show Bd K (.ref C) f=some none from n]
 rfl
section
variable {X:Cx}{pins:List (Addr×Obj)}{σ:St}{H:Hp}{s:Shared}{a C dx:Addr}{fs:List (Str×V)}{f:Str}{v:V}{A:Around}{E:Value->Shared->Prop}
theorem aCs {b:Bool}{Q:Value->Shared->Prop}(I:Inv X pins σ H s)(e:H a=some (.ins C dx fs))(c:Cls X.K C)(n:kW X.K C f)(l:fs.lookup f=some v)
 (h:∀ u s',Inv X pins σ H s'->bN v u->Q u s'):wpAny (model X.prog X.w) A (getAttr (.ref a) f b) Q E s:=by
 obtain⟨mA,O,r,_,_,_⟩:=wL I.hok e;obtain⟨u,hu,ru⟩:=oY.some_of (v:=v) (o:=mA f) (by rw[←l];exact r f)
 exact aKy I.kIn O (c.get f) c.hd n hu (aF1 ru) (h u _ (I.tok _) ru)
theorem aCp {y:V}{u:Value}{Q:Unit->Shared->Prop}(I:Inv X pins σ H s)(e:H a=some (.ins C dx fs))(c:Cls X.K C)(n:kW X.K C f)(hl:fs.length<1000)(ry:bN y u)
 (h:∀ s',Inv X pins σ (upd H a (.ins C dx (lP f y fs))) s'->Q () s'):wpAny (model X.prog X.w) A (setAttr (.ref a) f u) Q E s:=by
 obtain⟨mA,O,r,wi,_,ho⟩:=wL I.hok e;have hz:(fs.map (·.1)).length<=sizeLine:=by rw[Ab,sizeLine_eq];omega
 refine aLd I.kIn O c.sa c.po n.taker c.hd wi hz fun h' O' sb=>h _ ?_
 have hd:∃ o,h'.get? dx=some o:=let ⟨o,_,_,e',_⟩:=O'.ns;⟨o,e'⟩
 refine I.write (x:=a) (e:=dx) (by rw[e];exact True.intro) (.inr ho) (fun b q hb z=>(sb.2 b hb).trans z) hd ?_
 refine⟨by rw[bI O.ne];exact ho,?_,O.ne,O'.obj,_,O'.ns,fun g=>?_,fun g hg=>?_⟩
 · have:=pG f y fs;omega
 · show oY ((lP f y fs).lookup g) (if g=f then some u else mA g)
   rw[pR];by_cases q:g=f
   · rw[if_pos q,if_pos q];exact ry
   · rw[if_neg q,if_neg q];exact r g
 · by_cases q:g=f
   · rw[q];exact(oW f y fs).1
   · refine(oW f y fs).2 g (wi g fun z=>hg ?_)
     show (if g=f then some u else mA g)=none
     rw[if_neg q];exact z
theorem Inv.made (I:Inv X pins σ H s):Inv X pins σ (upd (upd H s.heap.objs.size (.own (s.heap.objs.size+1))) (s.heap.objs.size+1) (.ins C s.heap.objs.size []))
 { s with heap:=(s.heap.push Ds).push (Eu C s.heap.objs.size) }:=by
 have e1:(s.heap.push Ds).get? s.heap.objs.size=some Ds:=Cm s.heap rfl
 have e2:((s.heap.push Ds).push (Eu C s.heap.objs.size)).get? (s.heap.objs.size+1)=some (Eu C s.heap.objs.size):=by
  have:=Cm (s.heap.push Ds) (o:=Eu C s.heap.objs.size) rfl
  rwa [Cw]at this
 have e3:(s.heap.push Ds).Ns s.heap.objs.size (fun _=>none):=⟨Ds,#[],_,e1,rfl,(fun e he=>absurd he (by simp)),fun _=>rfl⟩
 have I1:=I.laid (a:=s.heap.objs.size) (o:=.own (s.heap.objs.size+1)) (h':=s.heap.push Ds) (t':=s.toks) (fun b u q=>As _ q) (Ah _) ⟨_,e1⟩;refine I1.laid (a:=s.heap.objs.size+1) (o:=.ins C s.heap.objs.size []) (t':=s.toks) (fun b u q=>As _ q) (Jl (Cw _ _)) ?_
 have ne:s.heap.objs.size≠s.heap.objs.size+1:=Cb (Ho _);refine⟨by rw[bI ne,cK],De _,ne,e2,fun _=>none,(Heap.Ns1.of_empty e3).at fun o q=>As _ q,fun _=>True.intro,fun y hy=>absurd rfl hy⟩
theorem aNa {prog:Program}{w:World}{env:Env}{e:Expr}{f:Str}{pos:Pos}{s:Shared}{Q:Value->Shared->Prop}(hb:attributeBase e f env (eval e env)=eval e env)
 (h:wpAny (model prog w) A (eval e env) (fun o s₁=>wpAny (model prog w) A (getAttr o f true) Q E s₁) E s):wpAny (model prog w) A (eval (.Attribute e f pos) env) Q E s :=
 Attribute_any_ h (by rw[arm_eval_Attribute,hb])
end
def aUi (K:PySem.W.Frag)(ta:TE)(f:Str):TE:=fun σ H Q=>ta σ H fun x H1=>∃ a C dx fs v,x=.ref a/\H1 a=some (.ins C dx fs)/\Cls K C/\kW K C f/\fs.lookup f=some v/\Q v H1
def aFz (K:PySem.W.Frag)(ta tv:TE)(f:Str):TS:=fun D σ H=>tv σ H fun y H1=>ta σ H1 fun x H2=>∃ a C dx fs,x=.ref a/\H2 a=some (.ins C dx fs)/\Cls K C/\kW K C f/\fs.length<1000 /\
 D.nx σ (upd H2 a (.ins C dx (lP f y fs)))
section
variable {X:Cx}{o e value:Expr}{f:Str}{pos pos' tpos:Pos}{ta tv:TE}
theorem aP0 (he:PE X e ta)(hb:attributeBase e f X.env (eval e X.env)=eval e X.env):PE X (.Attribute e f pos) (aUi X.K ta f):=by
 intro pins s σ H Q I h;refine aNa hb (thn (he pins s σ H _ I h) fun u s1 ⟨x,H1,I1,rx,a,C,dx,fs,v,ex,ea,c,n,l,q⟩=>?_)
 subst ex;obtain rfl:u=Value.ref a:=rx;exact aCs I1 ea c n l fun u' s2 I2 ru=>⟨v,H1,I2,ru,q⟩
theorem rP (ha:PE X o ta)(hv:PE X value tv)(hs:swapsWith value (some (.Attribute o f pos')) pos.line X.env=pure false):PS X (.Assign [.Attribute o f pos'] value pos) (aFz X.K ta tv f):=by
 intro pins s σ H D I h;refine plainObj_wpAny_Assign_Attribute (thn (hv pins s σ H _ I h) fun u s1 ⟨y,H1,I1,ry,q⟩=>thn (ha pins s1 σ H1 _ I1 q) fun ov s2 ⟨x,H2,I2,rx,a,C,dx,fs,ex,ea,c,n,l,q2⟩=>?_) hs
 subst ex;obtain rfl:ov=Value.ref a:=rx;exact aCp I2 ea c n l ry fun s3 I3=>⟨σ,_,I3,q2⟩
end
section
variable {X:Cx}{pins:List (Addr×Obj)}{σ:St}{H:Hp}{s:Shared}{A:Around}{E:Value->Shared->Prop}{Q:Value->Shared->Prop}{c:Value}{b:Bool}
inductive TyOf (K:PySem.W.Frag) (H:Hp):V->Value->Prop where
 | non:TyOf K H .non (.type "NoneType")
 | bl (x:Bool):TyOf K H (.bl x) (.type "bool")
 | int (i:Int):TyOf K H (.int i) (.type "int")
 | str (x:Str):TyOf K H (.str x) (.type "str")
 | flt (x:UInt64):TyOf K H (.flt x) (.type "float")
 | lst {a:Addr} {xs:List V} (e:H a=some (.lst xs)):TyOf K H (.ref a) (.type "list")
 | frz {a:Addr} {o:Obj} {xs:List V} (e:H a=some (.frz o (.lst xs))):TyOf K H (.ref a) (.type "list")
 | tup {a:Addr} {xs:List V} (e:H a=some (.tup xs)):TyOf K H (.ref a) (.type "tuple")
 | dK {a:Addr} {kvs:List (Key×V)} (e:H a=some (.dK kvs)):TyOf K H (.ref a) (.type "dict")
 | dT {a:Addr} {kvs:List (List Key×V)} (e:H a=some (.dT kvs)):TyOf K H (.ref a) (.type "dict")
 | ins {a C dx:Addr} {fs:List (Str×V)} (e:H a=some (.ins C dx fs)) (cl:Cls K C) (ha:Bd K (.ref C) "__class__" = some (some (.builtin "object.__class__")))
  (hn:PySem.W.specialIn K (.builtin "object.__class__") "__get__" = some (some (.builtin "getset_descriptor.__get__"))) (htk:PySem.W.takesIn K (.builtin "object.__class__")=some true)
  (hm:PySem.W.mroIn K C (.type "object")=some true):TyOf K H (.ref a) (.ref C)
theorem aE0 {x:V}{u t:Value}(I:Inv X pins σ H s)(rx:bN x u)(ty:TyOf X.K H x t)(e:Iu X.K t c=some b)(h:∀ tk,Q (.bool b) { s with toks:=tk }) :
 wpAny (model X.prog X.w) A (call (.builtin "isinstance") [u,c]) Q E s:=by
 cases ty with
 | non=>cases (show u=Value.none from rx);exact Dk PySem.W.kitx_none I.kIn True.intro e (fun z=>nomatch z) h
 | bl y=>cases (show u=Value.bool y from rx);exact Dk PySem.W.kitx_bool I.kIn True.intro e (fun z=>nomatch z) h
 | int i=>obtain⟨t,q⟩:=(show ∃ t,u=Value.int i t from rx);cases q;exact Dk PySem.W.kitx_int I.kIn True.intro e (fun z=>nomatch z) h
 | str y=>obtain⟨t,q⟩:=(show ∃ t,u=Value.str y t from rx);cases q;exact Dk PySem.W.kitx_str I.kIn True.intro e (fun z=>nomatch z) h
 | flt y=>obtain⟨t,q⟩:=(show ∃ t,u=Value.float y t from rx);cases q;exact Dk PySem.W.kitx_float I.kIn True.intro e (fun z=>nomatch z) h
 | @lst a xs ea =>
  cases (show u=Value.ref a from rx)
  obtain⟨_,_,n,_,h1⟩:=(show dO X.prog X.w H s.heap a (.lst xs) from I.hok a _ ea)
  exact Dk PySem.W.kitx_list I.kIn ⟨_,h1,rfl⟩ e (fun z=>nomatch z) h
 | @frz a ob xs ea =>
  cases (show u=Value.ref a from rx)
  obtain⟨_,_,_,n,_,h1⟩:=(show dO X.prog X.w H s.heap a (.frz ob (.lst xs)) from I.hok a _ ea)
  exact Dk PySem.W.kitx_list I.kIn ⟨_,h1,rfl⟩ e (fun z=>nomatch z) h
 | @tup a xs ea =>
  cases (show u=Value.ref a from rx)
  obtain⟨_,_,_,p⟩:=(show dO X.prog X.w H s.heap a (.tup xs) from I.hok a _ ea)
  obtain⟨o,h1,h2,_⟩:=p;exact Dk PySem.W.kitx_tuple I.kIn ⟨o,h1,h2⟩ e (fun z=>nomatch z) h
 | @dK a kvs ea =>
  cases (show u=Value.ref a from rx)
  obtain⟨_,_,vs,_,p⟩:=(show dO X.prog X.w H s.heap a (.dK kvs) from I.hok a _ ea)
  obtain⟨o,es,ep,h1,h2,_⟩:=p;exact Dk PySem.W.kitx_dict I.kIn ⟨o,h1,h2.1⟩ e (fun z=>nomatch z) h
 | @dT a kvs ea =>
  cases (show u=Value.ref a from rx)
  obtain⟨_,_,xs,_,o,es,ep,h1,h2,_⟩:=(show dO X.prog X.w H s.heap a (.dT kvs) from I.hok a _ ea)
  exact Dk PySem.W.kitx_dict I.kIn ⟨o,h1,h2.1⟩ e (fun z=>nomatch z) h
 | @ins a C dx fs ea cl ha hn htk hm =>
  cases (show u=Value.ref a from rx)
  obtain⟨mA,O,_⟩:=wL I.hok ea;obtain⟨od,J,_⟩:=O.look;exact Dk (PySem.W.kitx_own (cl.get _) cl.hd ha hn htk hm) I.kIn J e (fun z=>nomatch z) h
end
end L2
namespace L2
open PySem PySem.Spec PyProof.Rows
structure Room (k:Nat)(A:Around):Prop where
 hd:A.handled=none
 dp:A.depth+3*k+5<recursionLimit
 un:A.units+16*k+200<cLine
theorem Room.mono {j k:Nat}{A:Around}(r:Room k A)(h:j<=k):Room j A:=⟨r.hd,by have:=r.dp;omega,by have:=r.un;omega⟩
theorem Room.deeper {k:Nat}{A:Around}(r:Room (k+1) A)(env:Env):Room k (A.deeper env) :=
 ⟨r.hd,by have:=r.dp;show A.depth+1+3*k+5<_;omega,by have:=r.un;show A.units+3+16*k+200<_;omega⟩
theorem aBz {A:Around}{C:Addr}{us:List Value}{kw:List (Str×Value)}:(A.under (.builtin "type.__call__" ⟨.ref C :: us,kw⟩)).depth=A.depth+1:=by
 first | rfl | simp[Around.under,Code.weight,Code.isCreation,Code.isGuard,Code.isCaller,Code.frames,Code.isFrame,guardIds]
theorem aCv {A:Around}{C:Addr}{us:List Value}{kw:List (Str×Value)}:(A.under (.builtin "type.__call__" ⟨.ref C :: us,kw⟩)).units=A.units+1:=by
 first | rfl | simp[Around.under,Code.cUnits,Code.frames,Code.isFrame]
theorem Room.make {k:Nat}{A:Around}(r:Room (k+1) A)(C:Addr)(us:List Value)(kw:List (Str×Value)):Room k (A.under (.builtin "type.__call__" ⟨.ref C :: us,kw⟩)) :=
 ⟨r.hd,by have:=r.dp;rw[aBz];omega,by have:=r.un;rw[aCv];omega⟩
theorem Room.depth {k:Nat}{A:Around}(r:Room k A):A.depth<recursionLimit:=by have:=r.dp;omega
theorem Room.units {k:Nat}{A:Around}(r:Room k A):A.units+64<cLine:=by have:=r.un;omega
def aU0:TA:=fun _ H Q=>Q [] H
def aT7 (ta:TE)(tr:TA):TA:=fun σ H Q=>ta σ H fun x H1=>tr σ H1 fun xs H2=>Q (x :: xs) H2
section
variable {X:Cx}{e:Expr}{es:List Expr}{te:TE}{t:TA}{pos:Pos}
theorem xZ:PA X [] aU0:=fun _ _ _ _ H Q I h=>Calls.spliced_nil ⟨[],H,I,.nil,h⟩
theorem kX (ha:PE X e te)(hr:PA X es t)(hs:starEach (e :: es) X.env=(false,eval e X.env) :: starEach es X.env:=by rfl):PA X (e :: es) (aT7 te t):=by
 intro pos pins s σ H Q I h;rw[hs];show wpAny _ _ (spliced ((false,eval e X.env) :: backTo pos (starEach es X.env))) _ _ s
 refine Calls.spliced_cons (thn (ha pins s σ H _ I h) fun u s1 ⟨x,H1,I1,r1,q1⟩=>?_)
 exact thn (hr pos pins s1 σ H1 _ I1 q1) fun us s2 ⟨xs,H2,I2,r2,q2⟩=>⟨x :: xs,H2,I2,.cons r1 r2,q2⟩
def aUf (t:TA):TE:=fun σ H Q=>t σ H fun xs H1=>xs.length<=sizeLine/\∀ p,H1 p=none->Q (.ref p) (upd H1 p (.lst xs))
theorem aQ1 (h:PA X es t):PE X (.List es pos) (aUf t):=by
 intro pins s σ H Q I hq;refine wpAny_List_spliced (thn (h pos pins s σ H _ I hq) fun us s1 ⟨xs,H1,I1,r,z,q⟩=>⟨by rw[←r.length];exact z,?_⟩)
 have hf:H1 s1.heap.objs.size=none:=I1.hok.fresh (Ah _);refine⟨.ref s1.heap.objs.size,upd H1 s1.heap.objs.size (.lst xs),I1.laid (t':=s1.toks) (fun b u e=>As _ e) (Ah _) ?_,rfl,q _ hf⟩
 exact⟨z,us,0,r,Cm _ rfl⟩
end
abbrev Sp:=List V->Hp->VK->XK->Prop
abbrev CXT:=List Env->Hp->Shared->XK->Value->Shared->Prop
structure Env0 (P:Program)(w:World)(K:PySem.W.Frag)(mg:Str->Option Value)(base:Heap)(A:Around)(outer:List Env)(s:Shared)(H:Hp):Prop where
 frames:A.frames=some outer
 mod:Mod K mg base
 bs:∀ b o,base.get? b=some o->s.heap.get? b=some o/\H b=none
 bsz:base.objs.size<=s.heap.objs.size
 funs:s.heap.FunFrames base outer
 frf:∀ b∈frs outer,H b=none
 hok:HOk P w H s.heap
 bare:AllBare s.gens
def CE (outer:List Env)(P:Program)(w:World)(H:Hp)(s:Shared)(Q:VK)(u:Value)(s':Shared):Prop :=
 ∃ v H',s'.os=s.os/\AllBare s'.gens/\Un (frs outer) [] H H' s.heap s'.heap/\HOk P w H' s'.heap/\bN v u/\Q v H'
def CR (CX:CXT)(outer:List Env)(P:Program)(w:World)(H:Hp)(s:Shared)(Q:VK)(E:XK)(r:Result)(s':Shared):Prop :=
 match r with
 | .ok (.ret u)=>CE outer P w H s Q u s'
 | .ok _=>False
 | .error e=>CX outer H s E e s'
structure FnOk (P:Program)(w:World)(K:PySem.W.Frag)(mg:Str->Option Value)(base:Heap)(CX:CXT)(k:Nat)(f:Addr)(fd:FuncData)(ps:List Str)(sp:Sp):Prop where
 len:∀ vs H Q E,sp vs H Q E->vs.length=ps.length
 run:∀ (A:Around) (outer:List Env) (s:Shared) (H:Hp) (args:Args) (us:List Value) (vs:List V) (Q:VK) (E:XK),Room k A->Env0 P w K mg base A outer s H->BindsTo s fd args (ps.zip us)->bG vs us->sp vs H Q E ->
  codeAny (model P w) A (.call (.ref f) args) (CR CX outer P w H s Q E) s
theorem FnOk.mono {P:Program}{w:World}{K:PySem.W.Frag}{mg:Str->Option Value}{base:Heap}{CX:CXT}{j k:Nat}{f:Addr}{fd:FuncData}{ps:List Str}{sp:Sp}(F:FnOk P w K mg base CX j f fd ps sp)(h:j<=k) :
 FnOk P w K mg base CX k f fd ps sp:=⟨F.len,fun A outer s H args us vs Q E hr=>F.run A outer s H args us vs Q E (hr.mono h)⟩
theorem Env0.make {P:Program}{w:World}{K:PySem.W.Frag}{mg:Str->Option Value}{base:Heap}{A:Around}{outer:List Env}{s:Shared}{H:Hp}(e:Env0 P w K mg base A outer s H)(C:Addr)(us:List Value)(kw:List (Str×Value)) :
 Env0 P w K mg base (A.under (.builtin "type.__call__" ⟨.ref C :: us,kw⟩)) outer s H:=⟨by first | exact e.frames | (simpa[Around.under,Code.envs,Code.isFrame,pushEnvs] using e.frames),e.mod,e.bs,e.bsz,e.funs,e.frf,e.hok,e.bare⟩
section
variable {X:Cx}{pins:List (Addr×Obj)}{σ:St}{H:Hp}{s s':Shared}
theorem Inv.env0 (I:Inv X pins σ H s):Env0 X.prog X.w X.K X.mg X.base X.A X.stack s H :=
 ⟨I.ok.frames,I.ok.mod,I.bs,Bp I.ok.bsz I.sz,I.stack,I.stkFree,I.hok,I.bare⟩
theorem Inv.after {Q:VK}{u:Value}(I:Inv X pins σ H s)(h:CE X.stack X.prog X.w H s Q u s'):EP X pins σ Q u s':=by
 obtain⟨v,H',os,bare,un,hok,r,q⟩:=h;obtain⟨hh,g,d,t,os'⟩:=s';obtain rfl:os'=s.os:=os;exact⟨v,H',I.call (h':=hh) (g':=g) (d':=d) (t':=t) (ch:=[]) un hok bare (fun b z=>absurd z (by simp)),r,q⟩
end
def aSn (C:Addr)(sp:Sp)(dvs:List V)(E:XK)(t:TA):TE:=fun σ H Q=>t σ H fun vs H1=>∀ x dx,H1 x=none->H1 dx=none->dx≠x ->
 sp (.ref x :: (vs++dvs)) (upd (upd H1 dx (.own x)) x (.ins C dx [])) (fun v H2=>v=.non/\Q (.ref x) H2) E
def lV (K:PySem.W.Frag)(fd:FuncData)(ps:List Str)(ds:List Value):Prop :=
 ∀ (s:Shared) (us:List Value),K.In s.heap->(us++ds).length=ps.length->BindsTo s fd ⟨us,[]⟩ (ps.zip (us++ds))
theorem lV.all {K:PySem.W.Frag}{fd:FuncData}{ps:List Str}(h:∀ us:List Value,us.length=ps.length->bindArgs fd ⟨us,[]⟩=pure (ps.zip us)):lV K fd ps []:=fun s us _ hl=>by
 rw[Cv]at hl ⊢;exact .of_eq (h us hl)
def aCh (CX:CXT)(X:Cx)(E:XK):Prop:=∀ (pins:List (Addr×Obj)) (σ:St) (H:Hp) (s:Shared) (e:Value) (s':Shared),Inv X pins σ H s->CX X.stack H s E e s'->X.xe e s'
section
variable {X:Cx}{CX:CXT}{k:Nat}{f C:Addr}{fd:FuncData}{ps:List Str}{sp:Sp}{dvs:List V}{ds:List Value}{E:XK}{x m:Str}{p pos apos:Pos}{e o:Expr}{es:List Expr}{ta:TE}{t:TA}
structure Mk (K:PySem.W.Frag)(C f:Addr):Prop where
 makes:Jo K C=true
 init:Bd K (.ref C) "__init__" = some (some (.ref f))
 fn:PySem.W.isFn K (.ref f)=true
 kp:Er K (.ref C)=true
theorem aGs {pins:List (Addr×Obj)}{σ:St}{H:Hp}{s:Shared}{Q:VK}{us:List Value}{vs:List V}(M:Mk X.K C f)(F:FnOk X.prog X.w X.K X.mg X.base CX k f fd ps sp)(hr:Room (k+1) X.A)(hb:lV X.K fd ps ds)(hd:bG dvs ds)
 (hx:aCh CX X E) (I:Inv X pins σ H s) (r:bG vs us)
 (h:∀ x dx,H x=none->H dx=none->dx≠x->sp (.ref x :: (vs++dvs)) (upd (upd H dx (.own x)) x (.ins C dx [])) (fun v H2=>v=.non/\Q (.ref x) H2) E) :
 wpAny (model X.prog X.w) X.A (call (.ref C) us) (EP X pins σ Q) X.xe s:=by
 have hq:=h (s.heap.objs.size+1) s.heap.objs.size (I.hok.fresh (Nat.le_succ _)) (I.hok.fresh (Ah _)) (Cb (Ho _));have I2:=Inv.made (C:=C) I;have r2:bG (V.ref (s.heap.objs.size+1) :: (vs++dvs)) (Value.ref (s.heap.objs.size+1) :: (us++ds)):=.cons rfl (r.append hd)
 have hl:(Value.ref (s.heap.objs.size+1) :: us++ds).length=ps.length:=by
  have e:=r2.length;rw[F.len _ _ _ _ hq]at e;exact e.symm
 refine wpAny_call (aH7 (f:=f) I.kIn M.makes M.init (beq_iff_eq.mp M.fn) (codeAny_mono (F.run _ X.stack _ _ ⟨Value.ref (s.heap.objs.size+1) :: us,[]⟩ (Value.ref (s.heap.objs.size+1) :: (us++ds)) _ _ E (hr.make C us [])
  (I2.env0.make C us []) (hb _ (Value.ref (s.heap.objs.size+1) :: us) I2.kIn hl) r2 hq) fun r s' hq'=>?_))
 cases r with
 | error e=>exact hx pins σ _ _ e s' I2 hq'
 | ok fl =>
  cases fl with
  | ret u =>
   obtain⟨v,H',I3,rv,ev,q3⟩:=I2.after hq';subst ev;exact⟨rv,⟨V.ref (s.heap.objs.size+1),H',I3,rfl,q3⟩⟩
  | next=>exact False.elim hq'
  | brk=>exact False.elim hq'
  | cont=>exact False.elim hq'
theorem aLe (M:Mk X.K C f)(F:FnOk X.prog X.w X.K X.mg X.base CX k f fd ps sp)(hr:Room (k+1) X.A)(hg:Gl X x)(hm:X.mg x=some (.ref C))(hb:lV X.K fd ps ds)(hd:bG dvs ds)(hx:aCh CX X E)
 (ha:PA X (e :: es) t) (hdb:(x==("__debug__":Str))=false:=by decide) (he:starEach (e :: es) X.env=(false,eval e X.env) :: starEach es X.env:=by rfl) (hpl:(backTo pos (starEach es X.env)).any (·.1)=false:=by rfl) :
 PE X (.Call (.Name x p) (e :: es) [] pos) (aSn C sp dvs E t):=by
 intro pins s σ H Q I h;refine wpAny_Call_Name_kw (qN I hg hm ?_ hdb)
 refine Iw (h₀:=X.base) I.ok.mod.kin M.kp (thn (ha pos pins s σ H _ I h) fun us s1 ⟨vs,H1,I1,r,q⟩=>⟨I1.kIn,?_⟩) he hpl
 exact aGs M F hr hb hd hx I1 r q
end
structure FnScope (N P:List Str)(sc:Scope):Prop where
 kind:sc.kind=.function
 co:sc.isCoroutine=false
 gen:sc.isGenerator=false
 nd:N.Nodup
 pre:N.take P.length=P
 par:∀ x∈P,sc.names.lookup x=some .local\/sc.names.lookup x=some .cell
 nofree:∀ y∈sc.names,y.2≠.free
theorem vA {kindOf:Str->Option NameKind}{x:Str}:∀ {binds:List (Str×Value)} {m:Str->Option Value},(∀ v,(x,v)∉binds)->bindL kindOf binds m x=m x
 | [],_,_=>rfl
 | (n,v) :: r,m,h=>by
  unfold bindL;rw[vA fun w hw=>h w (Ae _ hw)];split
  · have:x≠n:=by rintro rfl;exact h v Ad
    simp[this]
  · rfl
theorem uY {kindOf:Str->Option NameKind}{x:Str}:∀ {binds:List (Str×Value)} {m:Str->Option Value},(∀ v,(x,v)∉binds)->bindC kindOf binds m x=m x
 | [],_,_=>rfl
 | (n,v) :: r,m,h=>by
  unfold bindC;rw[uY fun w hw=>h w (Ae _ hw)];split
  · rfl
  · have:x≠n:=by rintro rfl;exact h v Ad
    simp[this]
theorem vZ {kindOf:Str->Option NameKind}{x:Str}{v:Value}:∀ {P:List Str} {vs:List Value} {i:Nat} {m:Str->Option Value},P.Nodup->P[i]?=some x->vs[i]?=some v->kindOf x=some .local ->
 bindL kindOf (P.zip vs) m x=some v
 | [],_,_,_,_,h,_,_=>by simp at h
 | _ :: _,[],_,_,_,_,h,_=>by simp at h
 | p :: P,w :: vs,0,m,nd,h1,h2,hk=>by
  simp at h1 h2;subst h1;subst h2
  show bindL kindOf ((p,w) :: P.zip vs) m p=_
  unfold bindL;rw[vA fun v hv=>(Dy.mp nd).1 (Bx hv).1,if_pos hk];simp
 | p :: P,w :: vs,i+1,m,nd,h1,h2,hk=>by
  show bindL kindOf ((p,w) :: P.zip vs) m x=_
  unfold bindL;exact vZ (i:=i) (Dy.mp nd).2 (by simpa using h1) (by simpa using h2) hk
theorem wA {kindOf:Str->Option NameKind}{x:Str}{v:Value}:∀ {P:List Str} {vs:List Value} {i:Nat} {m:Str->Option Value},P.Nodup->P[i]?=some x->vs[i]?=some v->kindOf x≠some .local ->
 bindC kindOf (P.zip vs) m x=some v
 | [],_,_,_,_,h,_,_=>by simp at h
 | _ :: _,[],_,_,_,_,h,_=>by simp at h
 | p :: P,w :: vs,0,m,nd,h1,h2,hk=>by
  simp at h1 h2;subst h1;subst h2
  show bindC kindOf ((p,w) :: P.zip vs) m p=_
  unfold bindC;rw[uY fun v hv=>(Dy.mp nd).1 (Bx hv).1,if_neg hk];simp
 | p :: P,w :: vs,i+1,m,nd,h1,h2,hk=>by
  show bindC kindOf ((p,w) :: P.zip vs) m x=_
  unfold bindC;exact wA (i:=i) (Dy.mp nd).2 (by simpa using h1) (by simpa using h2) hk
def start (N:List Str)(vs:List V):St:=vs.map some++Ao (N.length-vs.length) none
def lO (CX:CXT)(P:Program)(w:World)(K:PySem.W.Frag)(mg:Str->Option Value)(base:Heap)(N:List Str)(qual:Str)(scope:Scope)(f:Addr)(cd:Value)(A:Around)(outer:List Env)(s:Shared)(H:Hp)(E:XK):Cx where
 prog:=P
 w:=w
 K:=K
 mg:=mg
 base:=base
 A:=A.deeper (envOfC qual scope s.heap.objs.size f cd)
 N:=N
 s₀:=s
 H₀:=H
 env:=envOfC qual scope s.heap.objs.size f cd
 outer:=outer
 stack:=envOfC qual scope s.heap.objs.size f cd :: outer
 ex:=[]
 calm:=true
 fn:=fun _=>true
 pn:=[]
 xe:=fun e s'=>wpAny (model P w) (A.deeper (envOfC qual scope s.heap.objs.size f cd)) (leaving (envOfC qual scope s.heap.objs.size f cd) e) (fun _ s''=>CX outer H s E e s'') (fun e' s''=>CX outer H s E e' s'') s'
theorem aA6 {sc:Scope}{n:Nat}{x:Str}(h:sc.names.lookup x=some .cell):∃ c,(cellsFrom n sc.names []).lookup x=some c:=by
 have q:=Fv sc.names n [] (.inl h);exact Gp.mp q
theorem aFg {CX:CXT}{P:Program}{w:World}{K:PySem.W.Frag}{mg:Str->Option Value}{base:Heap}{N ps:List Str}{qual:Str}{scope:Scope}{f:Addr}{cd:Value}{A:Around}{outer:List Env}{s s1:Shared}{H:Hp}{E:XK}{us:List Value}{vs:List V}
 (S:FnScope N ps scope) (hd:A.handled=none) (e0:Env0 P w K mg base A outer s H) (hl:vs.length=ps.length) (r:bG vs us)
 (x:InCallC s s.heap.objs.size (bindL (envOfC qual scope s.heap.objs.size f cd).kindOf (ps.zip us) fun _=>none) (cellsFrom (s.heap.objs.size+1) scope.names []) (bindC (envOfC qual scope s.heap.objs.size f cd).kindOf (ps.zip us) fun _=>none) s1) :
 Inv (lO CX P w K mg base N qual scope f cd A outer s H E) [] (start N vs) H s1:=by
 have hpl:ps.length<=N.length:=by have:=congrArg List.length S.pre;rw[Bj]at this;omega
 obtain⟨h1,tk,rfl,hk⟩:=x.done;have noA:∀ b:Addr,b∉(lO CX P w K mg base N qual scope f cd A outer s H E).ex:=fun b z=>absurd (show b∈([]:List Addr) from z) (by simp)
 refine⟨⟨e0.mod,S.kind,rfl,rfl,Ah _,fun y z c h1 h2=>?_,fun y hy=>?_,fun y c _ h=>?_,fun _=>hd,Around.frames_deeper e0.frames,.inr ⟨rfl,rfl⟩,fun b z=>absurd z (noA b),e0.bs,e0.bsz,fun b _ _=>noA b,fun b z=>absurd z (noA b),e0.funs,e0.frf⟩,
  rfl,e0.bare,Un.kept hk,⟨_,x.toInCall.ns,fun i y v h1 h2 h3=>?_⟩,fun y c h=>⟨_,x.cell y c h⟩,e0.hok.fresh (Ah _),fun y c h=>?_,fun p hp=>absurd (show p∈([]:List (Addr×Obj)) from hp) (by simp),e0.hok.kept hk,?_⟩
 · exact name_of_addr x.apart (PySem.mem_of_lookup h1) (PySem.mem_of_lookup h2)
 · have hy:scope.names.lookup y=some .cell\/scope.names.lookup y=some .free:=hy
   rcases hy with hy | hy
   · exact aA6 hy
   · exact absurd rfl (S.nofree _ (PySem.mem_of_lookup hy))
 · exact Gh (x.above y c (PySem.mem_of_lookup h))
 · have hi:i<vs.length:=by
    unfold start at h2;by_cases hi:i<vs.length
    · exact hi
    · rw[Bb (by simpa using hi)]at h2
      rw[Ci]at h2;split at h2<;>cases h2
   have ha:vs[i]?=some v:=by
    unfold start at h2;rw[Bl (by simpa using hi),Ax]at h2
    cases e:vs[i]? with
    | none=>rw[e]at h2;cases h2
    | some a=>rw[e]at h2;cases h2;rfl
   obtain⟨u,hu,rv⟩:=r.get ha
   have hp:ps[i]?=some y:=by
    rw[←S.pre,Dw (by omega)];exact h1
   have ndP:ps.Nodup:=by rw[←S.pre];exact S.nd.sublist (List.take_sublist _ _)
   refine⟨u,rv,?_⟩
   rcases S.par y (Dj hp) with k | k
   · exact .inl ⟨k,vZ ndP hp hu k⟩
   · obtain⟨c,e⟩:=aA6 (n:=s.heap.objs.size+1) k
     refine .inr ⟨.inl k,c,e,?_⟩
     have q:=x.cell y c e;rw[wA ndP hp hu (by show scope.names.lookup y≠_;rw[k];decide)]at q
     exact q
 · exact e0.hok.fresh (Gh (x.above y c (PySem.mem_of_lookup h)))
 · unfold start
   show _=N.length
   rw[Al,Ab,Bu];omega
theorem yT {CX:CXT}{P:Program}{w:World}{K:PySem.W.Frag}{mg:Str->Option Value}{base:Heap}{k:Nat}{f:Addr}{name qual:Str}{params:Arguments}{body:List Stmt}{scope:Scope}{dV kV doc pm cdv ct oc:Value}{an od:Option Addr}
 {osl:Array (Option Value)} {N ps:List Str} {sp:Sp} (lk:K.lookup f=some ⟨oc,od,.func (Ef name qual params body scope dV kV doc pm an cdv ct),osl⟩) (hcd:Fn K cdv qual=true) (S:FnScope N ps scope)
 (len:∀ vs H Q E,sp vs H Q E->vs.length=ps.length)
 (hbody:∀ (A:Around) (outer:List Env) (s:Shared) (H:Hp) (vs:List V) (Q:VK) (E:XK),Room k (A.deeper (envOfC qual scope s.heap.objs.size f cdv))->sp vs H Q E ->
  ∃ t,PSs (lO CX P w K mg base N qual scope f cdv A outer s H E) body t/\t { nx:=fun _ H'=>Q .non H',rt:=Q } (start N vs) H) :
 FnOk P w K mg base CX (k+1) f (Ef name qual params body scope dV kV doc pm an cdv ct) ps sp:=by
 refine⟨len,fun A outer s H args us vs Q E hr e0 hb r hsp=>?_⟩
 have hl:=len _ _ _ _ hsp;have KX:K.In s.heap:=e0.mod.kin.keeps fun b o e=>(e0.bs b o e).1;have lim:s.heap.NoLimit:=e0.mod.nolimit.keeps fun b o e=>(e0.bs b o e).1
 have hkind:∀ y∈ps.zip us,scope.names.lookup y.1=some .local\/(scope.names.lookup y.1=some .cell/\((cellsFrom (s.heap.objs.size+1) scope.names []).lookup y.1).isSome=true):=fun⟨n,v⟩ hy=>by
  rcases S.par n (Bx hy).1 with q | q
  · exact .inl q
  · exact .inr ⟨q,Fv _ _ _ (.inl q)⟩
 refine codeAny_call_function hr.depth (KX _ _ lk) rfl S.co S.gen rfl (PySem.W.codeRec_of KX hcd) (hb _ _ _ _ ?_)
 refine wpAny_newFunctionEnv_cells S.kind hkind fun env he s1 x=>?_
 subst he;refine⟨lim.keeps x.toInCall.keep,codeAny_func ?_⟩
 obtain⟨t,ht,hq⟩:=hbody A outer s H vs Q E (hr.deeper _) hsp;have I:Inv (lO CX P w K mg base N qual scope f cdv A outer s H E) [] (start N vs) H s1:=aFg S hr.hd e0 hl r x;refine wpAny_mono (ht [] s1 (start N vs) H _ I hq) (fun fl s' hs=>?_) fun e s' hs=>hs
 have fin:∀ {σ':St} {H':Hp} {v:V} {u:Value},Inv (lO CX P w K mg base N qual scope f cdv A outer s H E) [] σ' H' s'->bN v u->Q v H'->CE outer P w H s Q u s' :=
  fun {σ' H' v u} J rv q=>⟨v,H',J.os,J.bare,J.base,J.hok,rv,q⟩
 cases fl with
 | ret u =>
  obtain⟨v,σ',H',J,rv,q⟩:=hs;exact fin J rv q
 | next =>
  obtain⟨σ',H',J,q⟩:=hs;exact fin (v:=V.non) (u:=Value.none) J rfl q
 | brk =>
  obtain⟨_,_,_,q⟩:=hs;exact False.elim q
 | cont =>
  obtain⟨_,_,_,q⟩:=hs;exact False.elim q
end L2
namespace L2
open PySem PySem.Spec PyProof.Rows
section
variable {X:Cx}{x:Str}{p pos:Pos}{e:Expr}{es:List Expr}{t:TA}{id T:String}{r:List V->Hp->VK->Prop}
def tCB (r:List V->Hp->VK->Prop)(t:TA):TE:=fun σ H Q=>t σ H fun vs H1=>r vs H1 Q
theorem iP (hc:kU X (.builtin id) r)(hg:Gl X x)(hm:X.mg x=none)(hv:bootBuiltins x=some (.builtin id))(ha:PA X (e :: es) t)(hn:x ≠ "__name__":=by decide)(hdb:(x==("__debug__":Str))=false:=by decide)
 (he:starEach (e :: es) X.env=(false,eval e X.env) :: starEach es X.env:=by rfl) (hpl:(backTo pos (starEach es X.env)).any (·.1)=false:=by rfl):PE X (.Call (.Name x p) (e :: es) [] pos) (tCB r t):=by
 intro pins s σ H Q I h;refine wpAny_Call_Name_kw (gO I hg hm hv ?_ hn hdb)
 exact PyProof.Rows.callWith_builtin1 (thn (ha pos pins s σ H _ I h) fun us s1 ⟨vs,H1,I1,r1,q1⟩=>hc pins s1 σ H1 vs us Q I1 r1 q1) he hpl
theorem aFr (hc:kU X (.type T) r)(hg:Gl X x)(hm:X.mg x=none)(hv:bootBuiltins x=some (.type T))(ha:PA X (e :: es) t)(hn:x ≠ "__name__":=by decide)(hdb:(x==("__debug__":Str))=false:=by decide)
 (he:starEach (e :: es) X.env=(false,eval e X.env) :: starEach es X.env:=by rfl) (hpl:(backTo pos (starEach es X.env)).any (·.1)=false:=by rfl):PE X (.Call (.Name x p) (e :: es) [] pos) (tCB r t):=by
 intro pins s σ H Q I h;refine wpAny_Call_Name_kw (gO I hg hm hv ?_ hn hdb)
 exact Bw (thn (ha pos pins s σ H _ I h) fun us s1 ⟨vs,H1,I1,r1,q1⟩=>hc pins s1 σ H1 vs us Q I1 r1 q1) he hpl
end
end L2
namespace HT
open PySem PyProof.Rows
def aOd:List Int->List Int->Bool
 | [],[]=>false
 | [],_ :: _=>true
 | _ :: _,[]=>false
 | x :: xs,y :: ys=>if x=y then aOd xs ys else decide (x<y)
section
variable {prog:Program}{w:World}{A:Around}{E:Value->Shared->Prop}{s:Shared}
def sIx (n d:Nat):Option Int->Nat
 | none=>d
 | some v=>if v<0 then (v+(n:Int)).toNat else min v.toNat n
theorem zL (n d:Nat):sIx n d none=d:=rfl
theorem qZ (n d k:Nat):sIx n d (some (k:Int))=min k n:=by
 show (if (k:Int)<0 then ((k:Int)+(n:Int)).toNat else min (k:Int).toNat n)=min k n
 rw[if_neg (by omega),Du]
end
end HT
namespace L2
open PySem PySem.Spec PyProof.Rows
abbrev TO:=St->Hp->(Option Int->Hp->Prop)->Prop
def PO (X:Cx)(e:Option Expr)(t:TO):Prop :=
 ∀ (pins:List (Addr×Obj)) (s:Shared) (σ:St) (H:Hp) (Q:Option Int->Hp->Prop),Inv X pins σ H s->t σ H Q ->
  wpAny (model X.prog X.w) X.A (evalPart e X.env) (fun u s'=>∃ o H',Inv X pins σ H' s'/\IsPart u o/\Q o H') X.xe s
def aKv:TO:=fun _ H Q=>Q none H
def aS2 (t:TE):TO:=fun σ H Q=>t σ H fun x H1=>∃ i,x=.int i/\Q (some i) H1
theorem aB2 {ns:List Int}:∀ {us:List Value},bG (ns.map V.int) us->IntsAre us ns:=by
 induction ns with
 | nil=>intro us r;rw[List.map_nil]at r;cases r;exact .nil
 | cons n ns ih =>
  intro us r;rw[Aj]at r;cases r with
  | cons r1 r2 =>
   obtain⟨t,e⟩:=r1;subst e;exact .cons n t (ih r2)
section
variable {X:Cx}{e:Expr}{te:TE}{lo hi:Option Expr}{tl th:TO}{pos p2:Pos}
theorem aKs:PO X none aKv:=by
 intro pins s σ H Q I h;rw[evalPart_none];exact wpAny_pure ⟨none,H,I,.none,h⟩
theorem aLu (h:PE X e te):PO X (some e) (aS2 te):=by
 intro pins s σ H Q I hw;rw[evalPart_some];refine thn (h pins s σ H _ I hw) fun u s1 ⟨x,H1,I1,r1,q1⟩=>?_
 obtain⟨i,rfl,q⟩:=q1;obtain⟨t,rfl⟩:=r1;exact⟨some i,H1,I1,.int i t,q⟩
def SlR (X:Cx)(r:V->Option Int->Option Int->Hp->VK->Prop):Prop :=
 ∀ (pins:List (Addr×Obj)) (s:Shared) (σ:St) (H:Hp) (x:V) (v vl vu:Value) (lo hi:Option Int) (sl:Addr) (Q:VK),Inv X pins σ H s->bN x v->s.heap.IsSliceOf sl vl vu .none->IsPart vl lo->IsPart vu hi->r x lo hi H Q ->
  ∃ T id,typeLookup (.type T) "__getitem__" = pure (some (.builtin id))/\s.TypeIs v T/\wpAny (model X.prog X.w) X.A (getItem v (.ref sl)) (EP X pins σ Q) X.xe s
def tSl (r:V->Option Int->Option Int->Hp->VK->Prop)(te:TE)(tl th:TO):TE:=fun σ H Q=>te σ H fun x H1=>tl σ H1 fun l H2=>th σ H2 fun u H3=>r x l u H3 Q
theorem aIa {r:V->Option Int->Option Int->Hp->VK->Prop}(hr:SlR X r)(he:PE X e te)(hl:PO X lo tl)(hu:PO X hi th):PE X (.Subscript e (.Slice lo hi none p2) pos) (tSl r te tl th):=by
 intro pins s σ H Q I h;refine Subscript_ (thn (he pins s σ H _ I h) fun v s1 ⟨x,H1,I1,r1,q1⟩=>?_)
 refine wpAny_Slice (thn (hl pins s1 σ H1 _ I1 q1) fun vl s2 ⟨l,H2,I2,pl,q2⟩=>thn (hu pins s2 σ H2 _ I2 q2) fun vu s3 ⟨u,H3,I3,pu,q3⟩=>?_)
 rw[evalPart_none];refine wpAny_pure ?_
 have I4:Inv X pins σ H3 { s3 with heap:=s3.heap.push { cls:=.type "slice",data:=.fields #[vl,vu,.none] } }:=I3.kept (t':=s3.toks) fun b ob q=>As _ q
 obtain⟨T,id,hT,ht,hg⟩:=hr pins { s3 with heap:=s3.heap.push { cls:=.type "slice",data:=.fields #[vl,vu,.none] } } σ H3 x v vl vu l u s3.heap.objs.size Q I4 r1 (Heap.IsSliceOf.new ..) pl pu q3
 show wpAny (model X.prog X.w) X.A (subscriptTail e (.Slice lo hi none p2) v (.ref s3.heap.objs.size)) (EP X pins σ Q) X.xe { s3 with heap:=s3.heap.push { cls:=.type "slice",data:=.fields #[vl,vu,.none] } }
 exact tail_any (ops:=[.ref s3.heap.objs.size,v]) ht hT hg (by with_unfolding_all rfl)
def aE3 (xs:List V)(lo hi:Option Int):List V:=(xs.drop (HT.sIx xs.length 0 lo)).take (HT.sIx xs.length xs.length hi-HT.sIx xs.length 0 lo)
theorem zO (xs:List V)(lo hi:Option Int):(aE3 xs lo hi).length<=xs.length:=by
 unfold aE3;rw[Bj,Eo];omega
end
end L2
namespace L2
open PySem PySem.Spec PyProof.Rows
def ixN (n:Nat)(i:Int):Option Nat:=if 0<=i then (if i<n then some i.toNat else none) else if -(n:Int)<=i then some (i+n).toNat else none
def atI {α:Type}(xs:List α)(i:Int):Option α:=(ixN xs.length i).bind fun j=>xs[j]?
theorem aEq {n:Nat}{i:Int}{j:Nat}(h:ixN n i=some j):seqIndex? i n=some j/\j<n/\-(n:Int)<=i/\i<n:=by
 unfold ixN at h;by_cases h0:0<=i
 · rw[if_pos h0]at h
   by_cases h1:i<n
   · rw[if_pos h1]at h
     have e:i.toNat=j:=Dh.inj h;exact⟨by rw[seqIndex_of h0 h1,e],by omega,by omega,h1⟩
   · rw[if_neg h1]at h;cases h
 · rw[if_neg h0]at h
   by_cases h1:-(n:Int)<=i
   · rw[if_pos h1]at h
     have e:(i+n).toNat=j:=Dh.inj h;exact⟨by rw[seqIndex_neg (by omega) h1,e],by omega,h1,by omega⟩
   · rw[if_neg h1]at h;cases h
theorem aD1 {α:Type}{xs:List α}{i:Int}{v:α}(h:atI xs i=some v):∃ j,seqIndex? i xs.length=some j/\xs[j]?=some v/\j<xs.length/\-(xs.length:Int)<=i/\i<xs.length:=by
 unfold atI at h;cases e:ixN xs.length i with
 | none=>rw[e]at h;cases h
 | some j =>
  rw[e]at h;obtain⟨h1,h2,h3,h4⟩:=aEq e;exact⟨j,h1,h,h2,h3,h4⟩
theorem aEz {α:Type}{xs:List α}{j:Nat}{v:α}(h:xs[j]?=some v):atI xs (j:Int)=some v:=by
 have hj:j<xs.length:=(Aw.mp h).1
 have e:ixN xs.length (j:Int)=some j:=by
  unfold ixN;rw[if_pos (by omega),if_pos (by omega)];simp
 unfold atI;rw[e];exact h
def aDp (b:Expr):Prop:=∀ o i,subscripted b false o i=operate [o,i] (getItem o i)
def IxR (X:Cx)(r:R2):Prop :=
 ∀ (value slice:Expr) (pins:List (Addr×Obj)) (s:Shared) (σ:St) (H:Hp) (x y:V) (v u:Value) (Q:VK),Inv X pins σ H s->bN x v->bN y u->r x y H Q ->
  subscripted slice false v u=operate [v,u] (getItem v u)->wpAny (model X.prog X.w) X.A (subscriptTail value slice v u) (EP X pins σ Q) X.xe s
def MtR (X:Cx)(id:String)(r:V->List V->Hp->VK->Prop):Prop :=
 ∀ (pins:List (Addr×Obj)) (s:Shared) (σ:St) (H:Hp) (x:V) (xs:List V) (v:Value) (us:List Value) (Q:VK),Inv X pins σ H s->bN x v->bG xs us->r x xs H Q ->
  wpAny (model X.prog X.w) X.A (call (.builtin id) (v :: us)) (EP X pins σ Q) X.xe s
section
variable {X:Cx}{a b:Expr}{ta tb:TE}{pos:Pos}
theorem aR7 {r:R2}(hr:IxR X r)(ha:PE X a ta)(hb:PE X b tb)(hs:aDp b):PE X (.Subscript a b pos) (tOp r ta tb):=by
 intro pins s σ H Q I h;exact Subscript_ (aQa ha hb I h fun v u s2 x y H2 I2 rx ry q=>hr a b pins s2 σ H2 x y v u Q I2 rx ry q (hs _ _))
def aM9 (K:PySem.W.Frag):R2:=fun x y H Q=>∃ p xs i v,x=.ref p/\y=.int i/\SqL K H p xs/\atI xs i=some v/\Q v H
def aKt (K:PySem.W.Frag):R2:=fun x y H Q=>∃ p xs i v,x=.ref p/\y=.int i/\SqT K H p xs/\atI xs i=some v/\Q v H
theorem aM2:IxR X (aM9 X.K):=by
 intro value slice pins s σ H x y v u Q I rx ry h hs;obtain⟨p,xs,i,z,rfl,rfl,hq,he,q⟩:=h;cases rx;obtain⟨t,rfl⟩:=ry;obtain⟨its,r,pl,hz⟩:=I.list hq;obtain⟨j,h1,h2,h3,h4,h5⟩:=aD1 he;obtain⟨w,ew,rw'⟩:=r.get h2;have hl:=r.length;have hn:=sU;have fin:EP X pins σ Q w s:=⟨z,H,I,rw',q⟩;by_cases h0:0<=i
 · have hj:i.toNat=j:=by
    rw[seqIndex_of h0 h5]at h1;exact Dh.inj h1
   exact item_listR pl.isList h0 (by omega) (by rw[hj];simpa using ew) fin hs
 · have hj:(i+(its.toArray.size:Int)).toNat=j:=by
    rw[seqIndex_neg (by omega) h4]at h1
    rw[Az,←hl];exact Dh.inj h1
   exact subscriptTail_builtinR (x:=w) pl.isList.typeIs slot_list_getitem.lookup
    (wpAny_getItem_list_neg (Q:=fun r s'=>r=w/\EP X pins σ Q r s') pl.isList (by omega) (by rw[Az]<;>omega) (by omega) (by rw[hj];simpa using ew) ⟨rfl,fin⟩) hs
theorem aO4:IxR X (aKt X.K):=by
 intro value slice pins s σ H x y v u Q I rx ry h hs;obtain⟨p,xs,i,z,rfl,rfl,hq,he,q⟩:=h;cases rx;obtain⟨t,rfl⟩:=ry;obtain⟨its,r,pl,hz⟩:=I.tuple hq;obtain⟨j,h1,h2,h3,h4,h5⟩:=aD1 he;obtain⟨w,ew,rw'⟩:=r.get h2;have hl:=r.length;have hn:=sU;have fin:EP X pins σ Q w s:=⟨z,H,I,rw',q⟩
 exact subscriptTail_builtinR (x:=w) pl.typeIs slot_tuple_getitem.lookup
  (getItem_tuple (j:=j) (Q:=fun r s'=>r=w/\EP X pins σ Q r s') pl (by omega) (by omega) (by rw[Az,←hl];exact h1) (by simpa using ew) ⟨rfl,fin⟩) hs
theorem aCm (its:List Value)(n j:Nat)(u:Value):Obj.mapSeq (·.setIfInBounds j u) { cls:=.type "list",data:=.seq its.toArray n }={ cls:=.type "list",data:=.seq (its.set j u).toArray n }:=by
 simp[Obj.mapSeq]
theorem Inv.lst {pins:List (Addr×Obj)}{σ:St}{H:Hp}{s:Shared}{p:Addr}{xs:List V}(I:Inv X pins σ H s)(h:H p=some (.lst xs)) :
 ∃ (its:List Value) (n:Nat),bG xs its/\s.heap.get? p=some { cls:=.type "list",data:=.seq its.toArray n }/\xs.length<=sizeLine:=by
 obtain⟨z,its,n,r,e⟩:=I.hok p _ h;exact⟨its,n,r,e,z⟩
theorem Inv.lstUpd {pins:List (Addr×Obj)}{σ:St}{H:Hp}{s:Shared}{p:Addr}{xs ys:List V}{its its':List Value}{n n':Nat}{f:Obj->Obj}(I:Inv X pins σ H s)(h:H p=some (.lst xs))
 (ho:s.heap.get? p=some { cls:=.type "list",data:=.seq its.toArray n }) (hf:f { cls:=.type "list",data:=.seq its.toArray n }={ cls:=.type "list",data:=.seq its'.toArray n' }) (r:bG ys its') (hz:ys.length<=sizeLine) (t:Nat) :
 Inv X pins σ (upd H p (.lst ys)) { s with heap:=s.heap.update p f,toks:=t }:=by
 have e:(s.heap.update p f).get? p=some { cls:=.type "list",data:=.seq its'.toArray n' }:=by
  rw[Ga f ho (by rw[hf]<;>rfl),hf]
 refine I.write (x:=p) (e:=p) (by rw[h];trivial) (.inl rfl) (fun b u hb q=>(Hk _ _ (Ne.symm hb)).trans q) ⟨_,e⟩ ?_
 exact⟨hz,its',n',r,e⟩
def aJj:V->V->V->Hp->(Hp->Prop)->Prop:=fun o i v H Q=>∃ p xs k j,o=.ref p/\i=.int k/\H p=some (.lst xs)/\ixN xs.length k=some j/\Q (upd H p (.lst (xs.set j v)))
theorem zS:aT4 X aJj:=by
 intro pins s σ H o i v ov iv u Q I ro ri rv h;obtain⟨p,xs,k,j,rfl,rfl,hp,hj,q⟩:=h;cases ro;obtain⟨t,rfl⟩:=ri;obtain⟨its,n,r,ho,hz⟩:=I.lst hp;obtain⟨h1,h2,h3,h4⟩:=aEq hj;have hl:=r.length;have hn:=sU
 have I':Inv X pins σ (upd H p (.lst (xs.set j v))) { s with heap:=s.heap.update p (Obj.mapSeq (·.setIfInBounds j u)) } :=
  I.lstUpd hp ho (aCm its n j u) (r.set rv j) (by rw[Ar];exact hz) s.toks
 by_cases h0:0<=k
 · have hk:k.toNat=j:=by
    rw[seqIndex_of h0 h4]at h1;exact Dh.inj h1
   exact PySem.W.ki_setAt ho h0 (by omega) (by rw[Az,←hl];exact h4) (by rw[hk];exact⟨_,I',q⟩)
 · have hk:(k+(its.toArray.size:Int)).toNat=j:=by
    rw[seqIndex_neg (by omega) h3]at h1
    rw[Az,←hl];exact Dh.inj h1
   exact PySem.W.ki_setBack ho (by omega) (by rw[Az,←hl];exact h3) (by omega) (by rw[hk];exact⟨_,I',q⟩)
theorem xY (lo hi:Option Int)(n:Nat):(sliceBounds lo hi none n).1=((HT.sIx n 0 lo:Nat):Int)/\(sliceBounds lo hi none n).2.1=((HT.sIx n n hi:Nat):Int)/\(sliceBounds lo hi none n).2.2=1:=by
 refine⟨?_,?_,rfl⟩
 · cases lo with
   | none=>simp[sliceBounds,HT.sIx]
   | some i =>
    simp only[sliceBounds,HT.sIx,Option.getD_none,show (1:Int)>0 by decide,if_true]
    by_cases h:i<0
    · simp only[h,if_true]<;>omega
    · simp only[h,if_false]<;>omega
 · cases hi with
   | none=>simp[sliceBounds,HT.sIx]
   | some i =>
    simp only[sliceBounds,HT.sIx,Option.getD_none,show (1:Int)>0 by decide,if_true]
    by_cases h:i<0
    · simp only[h,if_true]<;>omega
    · simp only[h,if_false]<;>omega
theorem uF (its:List Value)(lo hi:Option Int):slicePick its.toArray lo hi none=((its.drop (HT.sIx its.length 0 lo)).take (HT.sIx its.length its.length hi-HT.sIx its.length 0 lo)).toArray:=by
 obtain⟨h1,h2,h3⟩:=xY lo hi its.toArray.size;unfold slicePick;rw[h1,h2,h3];simp only[sliceRange_one,pick_run,Az]<;>rfl
def aRt (K:PySem.W.Frag):V->Option Int->Option Int->Hp->VK->Prop:=fun x lo hi H Q=>∃ a xs,x=.ref a/\SqL K H a xs/\∀ p,H p=none->Q (.ref p) (upd H p (.lst (aE3 xs lo hi)))
theorem aKm:SlR X (aRt X.K):=by
 intro pins s σ H x v vl vu lo hi sl Q I rx hs pl pu h;obtain⟨a,xs,rfl,hx,q⟩:=h;cases rx;obtain⟨its,r,ht,hz⟩:=I.list hx;have hlen:=r.length;refine⟨"list",_,slot_list_getitem.lookup,ht.isList.typeIs,?_⟩
 refine wpAny_getItem_list_slice ht.isList hs pl pu .none (by simp) ?_ (by rw[Az]<;>omega)
 rw[uF,←hlen];refine⟨.ref s.heap.objs.size,_,I.laid (t':=s.toks) (o:=.lst (aE3 xs lo hi)) (fun b ob q=>As _ q) (Ah _) ?_,rfl,q _ (I.hok.fresh (Ah _))⟩
 exact⟨Bp (zO xs lo hi) hz,_,0,(r.drop (HT.sIx xs.length 0 lo)).take (HT.sIx xs.length xs.length hi-HT.sIx xs.length 0 lo),Cm _ rfl⟩
def nZ:V->Bool
 | .non=>true
 | .bl _=>true
 | .int _=>true
 | .str _=>true
 | _=>false
def eqV:V->V->Bool
 | .non,.non=>true
 | .bl a,.bl b=>a==b
 | .bl a,.int b=>(if a then 1 else 0)==b
 | .int a,.bl b=>a==(if b then 1 else 0)
 | .int a,.int b=>a==b
 | .str a,.str b=>a==b
 | _,_=>false
theorem aOx {A:Around}{s:Shared}{y x:V}{u v:Value}(ry:bN y u)(rx:bN x v)(fy:nZ y=true)(fx:nZ x=true):SeqAt.EqAt A s u v (eqV y x):=by
 cases y with
 | non =>
  cases ry;cases x with
  | non=>cases rx;exact SeqAt.EqAt.same _
  | bl b=>cases rx;exact SeqAt.EqAt.none_bool b
  | int b=>obtain⟨t,rfl⟩:=rx;exact SeqAt.EqAt.none_int b t
  | str b=>obtain⟨t,rfl⟩:=rx;exact SeqAt.EqAt.none_str b t
  | _=>exact absurd (show false=true from fx) Cd
 | bl a =>
  cases ry;cases x with
  | non=>cases rx;exact SeqAt.EqAt.bool_none a
  | bl b=>cases rx;exact SeqAt.EqAt.bool_bool a b
  | int b=>obtain⟨t,rfl⟩:=rx;exact SeqAt.EqAt.bool_int a b t
  | str b=>obtain⟨t,rfl⟩:=rx;exact SeqAt.EqAt.bool_str a b t
  | _=>exact absurd (show false=true from fx) Cd
 | int a =>
  obtain⟨t',rfl⟩:=ry;cases x with
  | non=>cases rx;exact SeqAt.EqAt.int_none a t'
  | bl b=>cases rx;exact SeqAt.EqAt.int_bool a t' b
  | int b=>obtain⟨t,rfl⟩:=rx;exact SeqAt.EqAt.int_int a t' b t
  | str b=>obtain⟨t,rfl⟩:=rx;exact SeqAt.EqAt.int_str a t' b t
  | _=>exact absurd (show false=true from fx) Cd
 | str a =>
  obtain⟨t',rfl⟩:=ry;cases x with
  | non=>cases rx;exact SeqAt.EqAt.str_none a t'
  | bl b=>cases rx;exact SeqAt.EqAt.str_bool a t' b
  | int b=>obtain⟨t,rfl⟩:=rx;exact SeqAt.EqAt.str_int a t' b t
  | str b=>obtain⟨t,rfl⟩:=rx;exact SeqAt.EqAt.str_str a t' b t
  | _=>exact absurd (show false=true from fx) Cd
 | _=>exact absurd (show false=true from fy) Cd
def eqU (x:V)(u:Value):Bool:=match u with
 | .none=>eqV .non x
 | .bool b=>eqV (.bl b) x
 | .int i _=>eqV (.int i) x
 | .str z _=>eqV (.str z) x
 | _=>false
theorem aJt {x y:V}{u:Value}(r:bN y u)(f:nZ y=true):eqU x u=eqV y x:=by
 cases y with
 | non=>cases r;rfl
 | bl b=>cases r;rfl
 | int i=>obtain⟨t,rfl⟩:=r;rfl
 | str z=>obtain⟨t,rfl⟩:=r;rfl
 | _=>exact absurd (show false=true from f) Cd
theorem yA {x:V}:∀ {xs:List V} {us:List Value},bG xs us->xs.all nZ=true->us.any (eqU x)=xs.any fun y=>eqV y x
 | _,_,.nil,_=>rfl
 | y :: xs,u :: us,.cons r t,f=>by
  rw[List.all_cons,Ed]at f;rw[Gn,Gn,aJt r f.1,yA t f.2]
theorem sW {A:Around}{s:Shared}{x:V}{v:Value}(rx:bN x v)(fx:nZ x=true):∀ {xs:List V} {us:List Value},bG xs us->xs.all nZ=true->∀ u∈us,SeqAt.EqAt A s u v (eqU x u)
 | _,_,.nil,_=>fun u hu=>by cases hu
 | y :: xs,u :: us,.cons r t,f=>fun u' hu=>by
  rw[List.all_cons,Ed]at f;rcases Ag.mp hu with rfl | hu
  · rw[aJt r f.1];exact aOx r rx f.1 fx
  · exact sW rx fx t f.2 u' hu
def inV (x:V)(xs:List V):Bool:=xs.any fun y=>eqV y x
def rIn (K:PySem.W.Frag)(neg:Bool):R2:=fun x y H Q=>∃ p xs,y=.ref p/\(SqL K H p xs\/SqT K H p xs)/\nZ x=true/\xs.all nZ=true/\Q (.bl (if neg then !inV x xs else inV x xs)) H
theorem wS:OpR X (compareOp .NotIn) (rIn X.K true):=by
 intro pins s σ H x y v u Q I rx ry h;obtain⟨p,xs,rfl,hq,fx,fs,q⟩:=h;cases ry;rcases hq with hq | hq
 · obtain⟨its,r,pl,hz⟩:=I.list hq
   refine SeqAt.notIn_listAt (eqU x) pl.isList (fun w hw=>sW rx fx r fs w (by simpa using hw)) ⟨.bl _,H,I,rfl,?_⟩
   rw[show its.toArray.any (eqU x)=its.any (eqU x) by simp,yA r fs]
   exact q
 · obtain⟨its,r,pl,hz⟩:=I.tuple hq
   refine SeqAt.notIn_tupleAt (eqU x) pl (fun w hw=>sW rx fx r fs w (by simpa using hw)) ⟨.bl _,H,I,rfl,?_⟩
   rw[show its.toArray.any (eqU x)=its.any (eqU x) by simp,yA r fs]
   exact q
theorem yC:kU X (.builtin "len") (fun xs H Q=>∃ p ys,xs=[.ref p]/\(SqL X.K H p ys\/SqT X.K H p ys)/\Q (.int ys.length) H):=by
 intro pins s σ H xs us Q I r h;obtain⟨p,ys,rfl,hq,q⟩:=h;obtain⟨u,rfl,rx⟩:=vB r;cases rx;have hn:=sU;rcases hq with hq | hq
 · obtain⟨its,r',pl,hz⟩:=I.list hq
   have hlen:=r'.length;exact Calls.call_len_list pl.isList (by simp only[Az]<;>omega) ⟨.int ys.length,H,I.tok _,⟨s.toks+1,by rw[Az,hlen]⟩,q⟩
 · obtain⟨its,r',pl,hz⟩:=I.tuple hq
   have hlen:=r'.length;exact len_tuple pl (by simp only[Az]<;>omega) ⟨.int ys.length,H,I.tok _,⟨s.toks+1,by rw[Az,hlen]⟩,q⟩
theorem wZ:kU X (.type "list") (fun xs H Q=>∃ p ys,xs=[.ref p]/\(SqL X.K H p ys\/SqT X.K H p ys)/\∀ l,H l=none->Q (.ref l) (upd H l (.lst ys))):=by
 intro pins s σ H xs us Q I r h;obtain⟨p,ys,rfl,hq,q⟩:=h;obtain⟨u,rfl,rx⟩:=vB r;cases rx
 have fin:∀ (its:List Value),bG ys its->ys.length<=sizeLine->∀ (h':Heap) (c':Nat),(∀ b o',s.heap.get? b=some o'->h'.get? b=some o') ->
  h'.get? s.heap.objs.size=some { cls:=.type "list",dict:=none,data:=.seq its.toArray c',slots:=#[] }->EP X pins σ Q (.ref s.heap.objs.size) { s with heap:=h' }:=fun its r' hz h' c' kp e =>
  ⟨.ref s.heap.objs.size,_,I.laid (t':=s.toks) kp (Ah _) (show dO X.prog X.w _ h' _ (.lst ys) from ⟨hz,its,c',r',e⟩),rfl,q _ (I.hok.fresh (Ah _))⟩
 rcases hq with hq | hq
 · obtain⟨its,r',pl,hz⟩:=I.list hq
   have hlen:=r'.length;obtain⟨o,ho,hc,n,hd⟩:=pl.isList;exact call_list_seq p (.inl rfl) ho hc hd (fun h' c' kp e=>fin its r' hz h' c' kp e) (by simp only[Az]<;>omega)
 · obtain⟨its,r',pl,hz⟩:=I.tuple hq
   have hlen:=r'.length;obtain⟨o,ho,hc,n,hd⟩:=pl;exact call_list_seq p (.inr rfl) ho hc hd (fun h' c' kp e=>fin its r' hz h' c' kp e) (by simp only[Az]<;>omega)
def tyV (K:PySem.W.Frag)(T:String)(x:V)(H:Hp):Prop:=match x with
 | .str _=>T = "str"
 | .int _=>T = "int"
 | .ref p=>(T = "list"/\∃ xs,SqL K H p xs)\/(T = "tuple"/\∃ o,K.lookup p=some o/\o.cls=.type "tuple"/\o.dict=none) \/
  (T = "dict"/\((∃ kvs,H p=some (.dK kvs))\/∃ kvs,H p=some (.dT kvs)))\/(T = "set"/\∃ S n,H p=some (.set S n))
 | _=>False
theorem aRa {pins:List (Addr×Obj)}{σ:St}{H:Hp}{s:Shared}{T:String}{x:V}{v:Value}(I:Inv X pins σ H s)(r:bN x v)(ty:tyV X.K T x H) :
 s.TypeIs v T/\∀ a,v=.ref a->∃ ob,s.heap.get? a=some ob/\ob.dict=none:=by
 cases x with
 | str z =>
  obtain⟨t,rfl⟩:=r;cases (show T = "str" from ty)
  exact⟨typeIs_str s z t,fun _ e=>nomatch e⟩
 | int i =>
  obtain⟨t,rfl⟩:=r;cases (show T = "int" from ty)
  exact⟨typeIs_int s i t,fun _ e=>nomatch e⟩
 | ref p =>
  cases r;rcases ty with ⟨rfl,xs,hq⟩ | ⟨rfl,o,hk,hc,hd⟩ | ⟨rfl,hk⟩ | ⟨rfl,S,n,hk⟩
  · obtain⟨its,_,pl,_⟩:=I.list hq
    refine⟨pl.isList.typeIs,fun a e=>?_⟩
    cases e;obtain⟨o,n,e,c,hd,_⟩:=pl;exact⟨o,e,hd⟩
  · refine⟨⟨o,I.kIn p o hk,hc⟩,fun a e=>?_⟩
    cases e;exact⟨o,I.kIn _ o hk,hd⟩
  · have z:∃ o,s.heap.get? p=some o/\o.ExactDict:=by
     rcases hk with ⟨kvs,hk⟩ | ⟨kvs,hk⟩
     · obtain⟨_,_,_,_,o,_,_,e,ex,_⟩:=I.hok p _ hk
       exact⟨o,e,ex⟩
     · obtain⟨_,_,_,_,o,_,_,e,ex,_⟩:=I.hok p _ hk
       exact⟨o,e,ex⟩
    obtain⟨o,e,ex⟩:=z;refine⟨⟨o,e,ex.1⟩,fun a e2=>?_⟩
    cases e2;exact⟨o,e,ex.2.1⟩
  · obtain⟨o,_,_,_,e,ex,_⟩:=I.hok p _ hk
    refine⟨⟨o,e,ex.1⟩,fun a e2=>?_⟩
    cases e2;exact⟨o,e,ex.2.1⟩
 | _=>exact False.elim ty
def tBM (K:PySem.W.Frag)(T:String)(r:V->List V->Hp->VK->Prop)(to:TE)(t:TA):TE:=fun σ H Q=>to σ H fun x H1=>tyV K T x H1/\t σ H1 fun xs H2=>r x xs H2 Q
variable {o e:Expr}{es:List Expr}{to:TE}{t:TA}{name:Str}{apos cpos:Pos}{T id:String}{r:V->List V->Hp->VK->Prop}
theorem aOe (pa:PlainAttrs T)(slot:Slot T name id)(hty:typeOf (.builtin id)=pure (.type "method_descriptor"))(hm:MtR X id r)(ho:PE X o to)(ha:PA X (e :: es) t)
 (hbase:attributeBase o name X.env (eval o X.env)=eval o X.env:=by rfl)
 (hfew:((backTo cpos (starEach (e :: es) X.env)).all (fun x=>!x.1)&&(backToKw cpos (keywordEach [] X.env)).all (fun x=>x.1.isSome)
  && decide ((e :: es).length+([]:List Keyword).length+(if ([]:List Keyword).isEmpty then 0 else 1)<30))=true:=by rfl)
 (hline:(apos.endLine==cpos.line)=true:=by rfl) (hs:starEach (e :: es) X.env=(false,eval e X.env) :: starEach es X.env:=by rfl) (hplain:(backTo cpos (starEach es X.env)).any (·.1)=false:=by rfl) :
 PE X (.Call (.Attribute o name apos) (e :: es) [] cpos) (tBM X.K T r to t):=by
 intro pins s σ H Q I h;refine wpAny_Call_method_late hbase hfew hline rfl (thn (ho pins s σ H _ I h) fun v s1 ⟨x,H1,I1,r1,ty,q1⟩=>?_)
 obtain⟨h1,h2⟩:=aRa I1 r1 ty;refine⟨T,id,pa,slot,hty,h1,h2,?_⟩
 have hA:=ha cpos pins s1 σ H1 _ I1 q1;rw[hs]at hA ⊢;refine Calls.callWith_builtin (by show (false||(backTo cpos (starEach es X.env)).any (·.1))=false;rw[hplain]<;>rfl) (Calls.evalArgs_plain ?_)
 exact thn hA fun us s2 ⟨vs,H2,I2,r2,q2⟩=>hm pins s2 σ H2 x vs v us Q I2 r1 r2 q2
end
end L2
namespace L2
open PySem PySem.Spec PyProof.Rows
def MtM (X:Cx)(id:String)(r:V->List V->Hp->VK->Prop):Prop :=
 ∀ (pins:List (Addr×Obj)) (s:Shared) (σ:St) (H:Hp) (x:V) (xs:List V) (v:Value) (us:List Value) (Q:VK),Inv X pins σ H s->bN x v->bG xs us->r x xs H Q ->
  wpAny (model X.prog X.w) X.A (call (.builtin id) (v :: us)) (EP X pins σ Q) X.xe s
theorem bG.one:∀ {x:V} {us:List Value},bG [x] us->∃ u,us=[u]/\bN x u
 | _,_,.cons r .nil=>⟨_,rfl,r⟩
theorem bG.zero:∀ {us:List Value},bG [] us->us=[]
 | _,.nil=>rfl
theorem bG.reverse {xs:List V}{us:List Value}(h:bG xs us):bG xs.reverse us.reverse:=by
 induction h with
 | nil=>exact .nil
 | cons r t ih=>rw[Jc,Jc];exact bG.append ih (.cons r .nil)
theorem bG.rep {xs:List V}{us:List Value}(h:bG xs us):∀ k:Nat,bG (Ao k xs).flatten (Ao k us).flatten
 | 0=>.nil
 | k+1=>by
  rw[Ck,Ck,Ek,Ek];exact bG.append h (bG.rep h k)
theorem vL (its:List Value):∀ (k:Nat) (acc:List Value),
 List.foldl (fun x1 x2=>x1++x2) acc.toArray (Ao k its.toArray)=(acc++(Ao k its).flatten).toArray
 | 0,acc=>by simp
 | k+1,acc=>by
  have e:acc.toArray++its.toArray=(acc++its).toArray:=by simp
  have e2:(acc++its)++(Ao k its).flatten=acc++(Ao (k+1) its).flatten:=by
   rw[Ck,Ek,Co]
  rw[←e2,←vL its k (acc++its),←e,Ck,Ea]
section
variable {X:Cx}{pins:List (Addr×Obj)}{σ:St}{H:Hp}{s:Shared}{l b:Addr}{xs ys zs:List V}
theorem Inv.lset {its its':List Value}{n:Nat}{f:Array Value->Array Value}{t':Nat}(I:Inv X pins σ H s)(hH:H l=some (.lst xs))
 (e:s.heap.get? l=some { cls:=.type "list",data:=.seq its.toArray n }) (hf:f its.toArray=its'.toArray) (hv:bG ys its') (hz:ys.length<=sizeLine) :
 Inv X pins σ (upd H l (.lst ys)) { s with heap:=s.heap.update l (Obj.mapSeq f),toks:=t' }:=by
 have q:=PySem.IsL.update e f;rw[hf]at q;refine I.write (x:=l) (e:=l) (by rw[hH];exact trivial) (.inl rfl) (fun b' u hb hu=>(Hk s.heap (Obj.mapSeq f) (Ne.symm hb)).trans hu) ⟨_,q⟩ ?_
 exact⟨hz,its',_,hv,q⟩
theorem Inv.lnew {its:List Value}{t':Nat}(I:Inv X pins σ H s)(hv:bG ys its)(hz:ys.length<=sizeLine) :
 Inv X pins σ (upd H s.heap.objs.size (.lst ys)) { s with heap:=s.heap.push { cls:=.type "list",data:=.seq its.toArray },toks:=t' } :=
 I.laid (fun _ _ q=>As _ q) (Ah _) ⟨hz,its,0,hv,Cm _ rfl⟩
theorem Inv.fresh (I:Inv X pins σ H s):H s.heap.objs.size=none:=I.hok.fresh (Ah _)
theorem Inv.lstM (I:Inv X pins σ H s)(hH:H l=some (.lst xs)):xs.length<=sizeLine/\∃ (its:List Value) (n:Nat),bG xs its/\xs.length=its.length/\s.heap.get? l=some { cls:=.type "list",data:=.seq its.toArray n }:=by
 obtain⟨z,its,n,r,e⟩:=I.hok l _ hH;exact⟨z,its,n,r,r.length,e⟩
theorem aGm {n:Nat}(h:n<=sizeLine):Builtin.List.listTooLong n=false:=by
 unfold Builtin.List.listTooLong;exact decide_eq_false (by omega)
end
section
variable {X:Cx}
def aKp:V->List V->Hp->VK->Prop:=fun x vs H Q=>∃ l xs y,x=.ref l/\vs=[y]/\H l=some (.lst xs)/\xs.length<sizeLine/\Q .non (upd H l (.lst (xs++[y])))
theorem oZ:MtM X "list.append" aKp:=by
 intro pins s σ H x vs v us Q I rx rv h;obtain⟨l,xs,y,rfl,rfl,hH,hz,q⟩:=h;cases rx;obtain⟨u,rfl,ru⟩:=rv.one;obtain⟨z,its,n,r,hl,e⟩:=I.lstM hH;refine call_meets F.slot_list_append ⟨_,e,rfl⟩ F.entry_list_append (F.args_list_append_2 _ _) (PySem.list_append l its.toArray n u (by rw[Az];omega)) ⟨e,?_⟩
 refine⟨.non,_,I.lset (its':=its++[u]) hH e (by simp) (r.append (.cons ru .nil)) ?_,rfl,q⟩
 rw[Al,Bn];omega
def aTs:R2:=fun x y H Q=>∃ l k xs,x=.ref l/\y=.int k/\H l=some (.lst xs)/\-(2^63)<=k/\k<2^63/\xs.length*k.toNat<=sizeLine /\
 ∀ p,H p=none->Q (.ref p) (upd H p (.lst (Ao k.toNat xs).flatten))
theorem aK6 {α:Type}(xs:List α)(k:Nat):(Ao k xs).flatten.length=k*xs.length:=by
 induction k with
 | zero=>simp
 | succ k ih=>rw[Ck,Ek,Al,ih,Fs,Hc]
theorem aO5:OpR X (binaryOp .Mult) aTs:=by
 intro pins s σ H x y v u Q I rx ry h;obtain⟨l,k,xs,rfl,rfl,hH,h1,h2,hz,q⟩:=h;cases rx;obtain⟨t,rfl⟩:=ry;obtain⟨z,its,n,r,hl,e⟩:=I.lstM hH;have hlen:its.toArray.size*k.toNat<=sizeLine:=by rw[Az,←hl];exact hz
 have hcap:¬ its.toArray.size*k.toNat>(2^63-1)/8:=by
  have:(sizeLine:Nat)<=(2^63-1)/8:=by decide
  omega
 have hfit:¬ (!Builtin.List.listFitsIndex k)=true:=by
  rw[fitsIndex_both h1 h2];exact Cd
 have hlong:¬ Builtin.List.listTooLong (its.toArray.size*k.toNat)=true:=by
  rw[aGm hlen];exact Cd
 have hnew:List.foldl (fun x1 x2=>x1++x2) #[] (Ao (if its.toArray.isEmpty=true then 0 else k.toNat) its.toArray)=(Ao k.toNat its).flatten.toArray:=by
  have f0:∀ m:Nat,List.foldl (fun x1 x2=>x1++x2) #[] (Ao m its.toArray)=(Ao m its).flatten.toArray:=fun m=>by
   have:=vL its m []
   rw[Dz]at this;exact this
  rw[f0];cases its with
  | nil=>simp
  | cons a r'=>rw[if_neg (by simp)]
 refine wpAny_binaryOp_repeat_ref (T:="list") (U:="int") (by decide) ⟨_,e,rfl⟩ (fun s'=>typeIs_int s' k t) noFill_list_mul F.fills_int_mul F.slot_int_rmul repeat_list F.slot_int_index.lookup
  (call_meets F.slot_int_rmul (typeIs_int s k t) F.entry_int_rmul (F.args_int_rmul_2 _ _) (int___rmul___int_list k t l its.toArray n)
   ⟨e,rfl,⟨_,e,rfl⟩,call_meets F.slot_list_mul ⟨_,e,rfl⟩ F.entry_list_mul (F.args_list_mul_2 _ _) (AutoListH.list___mul___list_int_3 l its.toArray n k t hfit hcap hlong) ⟨e,?_⟩⟩)
 rw[hnew];exact⟨.ref _,_,I.lnew (t':=s.toks) (r.rep k.toNat) (by rw[aK6,Ey];exact hz),rfl,q _ I.fresh⟩
end
end L2
namespace Att
open PySem PySem.W PySem.Calls PyProof.Rows
theorem pV {P:Params}{h:Heap}:∀ (ns:List Int) (vs:List Value),WellAll P h vs (ns.map WData.int)->IntsAre vs ns:=by
 intro ns;induction ns with
 | nil =>
  intro vs w;rw[List.map_nil]at w;cases w;exact .nil
 | cons n ns ih =>
  intro vs w;rw[Aj]at w;cases w with
  | cons a b =>
   cases a;exact .cons _ _ (ih _ b)
theorem aFv {l:OpenLaw}{n:Nat}(hn:l.most=some n){P:Params}{h:Heap}{args:List WData}{vals:List Value}
 (hpre:l.row.toRowW.claim.pre args=true) (hwl:WellAll P h vals args) :
 ∃ a vs ns,vals=[Value.ref a]/\args=[WData.list (ns.map WData.int)]/\h.get? a=some { cls:=.type "list",data:=.seq vs.toArray }/\IntsAre vs ns/\ns.length<=n:=by
 have hsh:WShape.hasAll [] args [.list .int]=true:=(pre_splitW hpre).1;have hc:l.pre.holds [] { args:=args }=true:=(pre_splitW hpre).2;obtain⟨d,r,rfl,h1,h2⟩:=hasAllW_cons hsh;obtain rfl:=hasAllW_nil h2;obtain⟨xs,rfl,h3⟩:=hasW_list h1;obtain⟨ns,rfl⟩:=items_int h3
 have hlen:ns.length<=n:=by
  unfold OpenLaw.pre at hc
  have h4:(WTm.not (.lt (.lit (.int (n:Int))) (.len (.arg 0)))).holds [] { args:=[.list (ns.map .int)] }=true:=by
   have h4:=(holds_andW hc).1;rw[hn]at h4;exact h4
  have h5:=condW_of h4 (w_not (w_lt w_lit (w_len_list (w_arg rfl))));rw[Ab]at h5;refine Nat.le_of_not_lt fun q=>?_
  have q':(n:Int)<((ns.length:Nat):Int):=by omega
  first
   | (rw[decide_eq_true q']at h5;exact absurd h5 (by decide))
   | (simp at h5;omega)
 cases hwl with
 | cons w1 w2 =>
  cases w2;cases w1 with
  | list ho hall=>exact⟨_,_,ns,rfl,rfl,ho,pV ns _ hall,hlen⟩
theorem aGc (l:OpenLaw)(args:List WData):l.row.toRowW.claim.post args (.bool true) args=true :=
 postW_of (r:=l.row.toRowW) (X:=(true==true))
  (show WShape.has [] (.bool true) .bool=true by first | rfl | decide | simp[WShape.has,WShape.arms,WShape.armsAll])
  (show (WTm.eq .res (.lit (.bool true))).value [] { args:=args,res:=some (.bool true),after:=args }=some (.bool (true==true)) from w_eq_bool (w_res rfl) w_lit) rfl
theorem aA1 {l:OpenLaw}{n:Nat}{q:Program}{loose:List Str}{XP:(Str->Option Value)->Heap->Prop}{YP:World->Heap->Prop}{d:DefRec}
 (hn:l.most=some n) (hdf:d.params.defaults=[])
 (call:∀ (w:World) (s₀ s₁:Shared) (mg mb:Str->Option Value) (fa:Addr) (o:Obj) (pm cd doc:Value) (a:Addr) (vs:List Value) (ns:List Int),
  Ground q loose [] XP w s₀ mg mb s₁.heap->YP w s₁.heap ->
  s₁.heap.get? fa=some o->o.data=.func (docDef d.name d.params d.body d.scope pm cd doc)->s₁.heap.CodeRec cd d.name->mg d.name=some (.ref fa) ->
  s₁.heap.get? a=some { cls:=.type "list",data:=.seq vs.toArray }->IntsAre vs ns->ns.length<=n->s₁.gens=#[] ->
  codeAny (model l.prog w) callerA (.call (.ref fa) ⟨[.ref a],[]⟩) (fun r s'=>r=.ok (.ret (.bool true))/\OldK s₁.heap s'.heap/\s'.os=s₁.os/\AllBare s'.gens) s₁) :
 WalkO q loose XP YP l.row.toRowW d [] (fun f vs=>PySem.call f vs):=by
 intro w s₀ s₁ mg mb G Y fa o pm cd doc dV kV ho hd hcd hD hmg hg args vals as hpre hlay hrd hwl hlo;obtain rfl:dV=.none:=Dflts.none hD hdf;obtain rfl:kV=.none:=Dflts.noKw hD;obtain⟨a,vs,ns,rfl,rfl,hobj,hints,hlen⟩:=aFv hn hpre hwl;refine enter_call (codeAny_mono (call w s₀ s₁ mg mb fa o pm cd doc a vs ns G Y ho (fd_plain hd) hcd hmg hobj hints hlen hg) fun r s' hq=>?_)
 obtain⟨rfl,h2,h3,h4⟩:=hq;exact⟨.inl ⟨.bool true,.bool true,[],rfl,fun _=>rfl,.bool true,aGc l _,fun _=>⟨Ej,fun _ hm=>(nomatch hm)⟩⟩,h2,h3,h4⟩
end Att
namespace L2
open PySem PySem.Spec PyProof.Rows
theorem vM:∀ {vs:List Value} {ns:List Int},IntsAre vs ns->bG (ns.map V.int) vs
 | _,_,.nil=>.nil
 | _,_,.cons n t h=>.cons ⟨t,rfl⟩ (vM h)
def aQ0 (H:Hp):Prop:=∀ b,H b=none\/∃ o xs,H b=some (.frz o (.lst xs))
theorem aJh {P:Program}{w:World}{K:PySem.W.Frag}{mg mb:Str->Option Value}{CX:CXT}{k:Nat}{fa a:Addr}{fd:FuncData}{x:Str}{sp:Sp}{s₁:Shared}{vs:List Value}{ns:List Int}
 (KX:K.In s₁.heap) (hns:s₁.heap.Ns mainGlobals mg) (hb:s₁.heap.Ns builtinsNs mb) (hbb:∀ x:Str,x ≠ "__name__"->mb x=bootBuiltins x) (hlim:s₁.heap.NoLimit) (hg:s₁.gens=#[])
 (ha:s₁.heap.get? a=some { cls:=.type "list",data:=.seq vs.toArray }) (hi:IntsAre vs ns) (hl:ns.length<=sizeLine) (hr:Room k callerA)
 (F:∀ base:Heap,K.In base->base.Ns mainGlobals mg->FnOk P w K mg base CX k fa fd [x] sp) (hbind:∀ (s:Shared) (u:Value),BindsTo s fd ⟨[u],[]⟩ [(x,u)])
 (hsp:∀ H:Hp,aQ0 H->SqL K H a (ns.map V.int)->sp [.ref a] H (fun v _=>v=.bl true) fun _ _ _=>False)
 (hCX:∀ H e s',CX [] H s₁ (fun _ _ _=>False) e s'->False) :
 codeAny (model P w) callerA (.call (.ref fa) ⟨[.ref a],[]⟩) (fun r s'=>r=.ok (.ret (.bool true))/\OldK s₁.heap s'.heap/\s'.os=s₁.os/\AllBare s'.gens) s₁:=by
 have rv:=vM hi;have lenV:=hi.length
 have core:∀ H:Hp,aQ0 H->SqL K H a (ns.map V.int)->HOk P w H s₁.heap->(∀ b,H b≠none->b=a)->(H a≠none->K.lookup a=none) ->
  codeAny (model P w) callerA (.call (.ref fa) ⟨[.ref a],[]⟩) (fun r s'=>r=.ok (.ret (.bool true))/\OldK s₁.heap s'.heap/\s'.os=s₁.os/\AllBare s'.gens) s₁:=by
  intro H hO hS hok hA hK;have base_of:∀ {b:Addr} {o:Obj},s₁.heap.get? b=some o->H b=none->(wW s₁.heap H).get? b=some o:=fun e n=>aHr e n
  have noA:∀ {b:Addr} {o:Obj} {es:Array DictEntry} {ep:Nat},s₁.heap.get? b=some o->o.data=.dict es ep->H b=none:=fun {b o es ep} e d=>by
   cases q:H b with
   | none=>rfl
   | some u =>
    have e':b=a:=hA b (by rw[q];simp)
    subst e';rw[ha]at e;cases e;have d':Data.seq vs.toArray _=Data.dict es ep:=d;cases d'
  have nsK:∀ {b:Addr} {m:Str->Option Value},s₁.heap.Ns b m->(wW s₁.heap H).Ns b m:=fun {b m} ⟨o,es,ep,e,d,r⟩=>⟨o,es,ep,base_of e (noA e d),d,r⟩
  have hKb:K.In (wW s₁.heap H):=fun b o e=>base_of (KX b o e) (by
   cases q:H b with
   | none=>rfl
   | some u =>
    have e':b=a:=hA b (by rw[q];simp)
    subst e'
    rw[hK (by rw[q];simp)]at e;cases e)
  have hM:Mod K mg (wW s₁.heap H):=⟨hKb,nsK hns,⟨mb,nsK hb,hbb⟩,let ⟨mc,h1,h2⟩:=hlim;⟨mc,nsK h1,h2⟩⟩
  have e0:Env0 P w K mg (wW s₁.heap H) callerA [] s₁ H:=⟨rfl,hM,fun b o e=>aLo e,Jl (aGd _ _),trivial,fun b hb=>absurd (show b∈([]:List Addr) from hb) (by simp),hok,.of_eq hg⟩
  refine codeAny_mono ((F _ hKb (nsK hns)).run callerA [] s₁ H ⟨[.ref a],[]⟩ [.ref a] [.ref a] _ _ hr e0 (hbind s₁ (.ref a)) (.cons rfl .nil) (hsp H hO hS)) fun r s' h=>?_
  cases r with
  | error e=>exact(hCX H e s' h).elim
  | ok fl =>
   cases fl with
   | next=>exact False.elim h
   | brk=>exact False.elim h
   | cont=>exact False.elim h
   | ret u =>
    obtain⟨v,H',os,bare,un,hok',r',q⟩:=h;have q':v=.bl true:=q;subst q';obtain rfl:u=Value.bool true:=r';refine⟨rfl,OldK.of_keep fun b o e=>?_,os,bare⟩
    cases q:H b with
    | none=>exact un.keep b o e q (by intro z;exact absurd (show b∈([]:List Addr) from z) (by simp)) (by simp)
    | some u =>
     rcases hO b with z | ⟨ob,xs,z⟩
     · rw[q]at z;cases z
     · have z2:=un.frzs b ob _ z
       obtain⟨e1,_⟩:=hok b _ z;obtain⟨e2,_⟩:=hok' b _ z2;rw[e]at e1;cases e1;exact e2
 cases hk:K.lookup a with
 | some o =>
  have e:=KX a o hk;rw[ha]at e;cases e;refine core (fun _=>none) (fun _=>.inl rfl) (.inr ⟨_,vs.toArray,_,hk,rfl,rfl,rfl,by rw[Az,lenV];exact hl,by simpa using rv⟩) (fun b u z=>by have z':(none:Option HO)=some u:=z;cases z') (fun b z=>absurd rfl z) fun z=>absurd rfl z
 | none =>
  refine core (fun b=>if b=a then some (.frz { cls:=.type "list",data:=.seq vs.toArray } (.lst (ns.map V.int))) else none) (fun b=>?_) (.inl (.inr ⟨{ cls:=.type "list",data:=.seq vs.toArray },if_pos rfl⟩)) (fun b u z=>?_) (fun b z=>?_) fun _=>hk
  · by_cases hb:b=a
    · exact .inr ⟨_,_,if_pos hb⟩
    · exact .inl (if_neg hb)
  · by_cases hb:b=a
    · have z':=(if_pos hb).symm.trans z
      cases z';subst hb;exact⟨ha,by rw[Ab];exact hl,vs,_,rv,ha⟩
    · have z':=(if_neg hb).symm.trans z
      cases z'
  · by_cases hb:b=a
    · exact hb
    · exact absurd (if_neg hb) z
end L2
namespace L2
open PySem PySem.Spec PyProof.Rows
theorem aLw {l:PySem.W.OpenLaw}{n k:Nat}{q:Program}{loose:List Str}{XP:(Str->Option Value)->Heap->Prop}{YP:World->Heap->Prop}{d:DefRec}{K:Params->PySem.W.Frag}{CX:World->CXT}{sp:World->Sp}{x:Str}
 (hn:l.most=some n) (hn2:n<=sizeLine) (hdf:d.params.defaults=[]) (hr:Room k callerA)
 (hY:∀ (w:World) (h:Heap),YP w h->(K w.params).In h)
 (F:∀ (w:World) (mg:Str->Option Value) (fa:Addr) (h:Heap),(K w.params).In h->h.Ns mainGlobals mg->mg d.name=some (.ref fa) ->
  ∃ fd:FuncData,(∀ (s:Shared) (u:Value),BindsTo s fd ⟨[u],[]⟩ [(x,u)]) /\
   ∀ base:Heap,(K w.params).In base->base.Ns mainGlobals mg->FnOk l.prog w (K w.params) mg base (CX w) k fa fd [x] (sp w))
 (hsp:∀ (w:World) (H:Hp) (a:Addr) (ns:List Int),ns.length<=n->aQ0 H->SqL (K w.params) H a (ns.map V.int)->sp w [.ref a] H (fun v _=>v=.bl true) fun _ _ _=>False)
 (hCX:∀ (w:World) (H:Hp) (s:Shared) (e:Value) (s':Shared),CX w [] H s (fun _ _ _=>False) e s'->False) :
 PySem.W.WalkO q loose XP YP l.row.toRowW d [] (fun f vs=>PySem.call f vs):=by
 refine Att.aA1 hn hdf fun w s₀ s₁ mg mb fa o pm cd doc a vs ns G Y ho hd hcd hmg hobj hints hlen hg=>?_
 have KX:=hY w _ Y;obtain⟨fd,hb,hF⟩:=F w mg fa _ KX G.T.g hmg;exact aJh KX G.T.g G.T.b G.T.builtins G.T.nolimit hg hobj hints (Bp hlen hn2) hr hF hb (fun H hO hS=>hsp w H a ns hlen hO hS) fun H e s'=>hCX w H s₁ e s'
end L2
namespace L2
open PySem PySem.Spec PyProof.Rows
def aDq (s:Stmt)(j:Nat):Stmt:=match s with
 | .ClassDef _ _ _ body _ _ _ _ _ _ _=>body.getD j (.Pass ⟨0,0,0,0⟩)
 | _=>.Pass ⟨0,0,0,0⟩
def fV (s:Stmt):Arguments:=match s with
 | .FunctionDef _ a _ _ _ _ _ _ _ _=>a
 | _=>{ posonlyargs:=[],args:=[],vararg:=none,kwonlyargs:=[],kw_defaults:=[],kwarg:=none,defaults:=[] }
def cU (s:Stmt):List Stmt:=match s with
 | .FunctionDef _ _ b _ _ _ _ _ _ _=>b
 | _=>[]
def aG (s:Stmt):Scope:=match s with
 | .FunctionDef _ _ _ _ _ _ sc _ _ _=>sc
 | _=>{ kind:=.function,names:=[],isGenerator:=false,isCoroutine:=false }
abbrev CX0:CXT:=fun _ _ _ _ _ _=>False
abbrev E0:XK:=fun _ _ _=>False
structure Fun (K:PySem.W.Frag)(x qual:Str)(st:Stmt)(f:Addr)(fd:FuncData):Prop where
 ex:∃ (oc:Value) (od:Option Addr) (kV doc pm:Value) (an:Option Addr) (cdv ct:Value) (osl:Array (Option Value)),
  fd=Ef x qual (fV st) (cU st) (aG st) .none kV doc pm an cdv ct/\K.lookup f=some ⟨oc,od,.func fd,osl⟩/\Fn K cdv qual=true
 kp:Er K (.ref f)=true
section
variable {P:Program}{w:World}{K:PySem.W.Frag}{mg:Str->Option Value}{base:Heap}
theorem Fun.ok {x qual:Str}{st:Stmt}{f:Addr}{fd:FuncData}{N ps:List Str}{k:Nat}{sp:Sp}(F:Fun K x qual st f fd)(S:FnScope N ps (aG st))(len:∀ vs H Q E,sp vs H Q E->vs.length=ps.length)
 (hbody:∀ (cdv:Value) (A:Around) (outer:List Env) (s:Shared) (H:Hp) (vs:List V) (Q:VK) (E:XK),Room k (A.deeper (envOfC qual (aG st) s.heap.objs.size f cdv))->sp vs H Q E ->
  ∃ t,PSs (lO CX0 P w K mg base N qual (aG st) f cdv A outer s H E).nox (cU st) t/\t { nx:=fun _ H'=>Q .non H',rt:=Q } (start N vs) H):FnOk P w K mg base CX0 (k+1) f fd ps sp:=by
 obtain⟨oc,od,kV,doc,pm,an,cdv,ct,osl,rfl,lk,hcd⟩:=F.ex;refine yT lk hcd S len fun A outer s H vs Q E hr hsp=>?_
 obtain⟨t,h,q⟩:=hbody cdv A outer s H vs Q E hr hsp;exact⟨t,h.nox,q⟩
theorem Fun.binds {x qual:Str}{st:Stmt}{f:Addr}{fd:FuncData}{ps:List Str}(F:Fun K x qual st f fd)
 (h:∀ (kV doc pm:Value) (an:Option Addr) (cdv ct:Value) (us:List Value),us.length=ps.length->bindArgs (Ef x qual (fV st) (cU st) (aG st) .none kV doc pm an cdv ct) ⟨us,[]⟩=pure (ps.zip us)):lV K fd ps []:=by
 obtain⟨oc,od,kV,doc,pm,an,cdv,ct,osl,rfl,lk,hcd⟩:=F.ex;exact .all (h kV doc pm an cdv ct)
theorem yM {x qual:Str}{st:Stmt}{f:Addr}{oc:Value}{od an:Option Addr}{osl:Array (Option Value)}{kV doc pm cdv ct:Value}(l:K.lookup f=some ⟨oc,od,.func (Ef x qual (fV st) (cU st) (aG st) .none kV doc pm an cdv ct),osl⟩)
 (c:Fn K cdv qual=true) (k:Er K (.ref f)=true):Fun K x qual st f (Ef x qual (fV st) (cU st) (aG st) .none kV doc pm an cdv ct):=⟨⟨oc,od,kV,doc,pm,an,cdv,ct,osl,rfl,l,c⟩,k⟩
end
section
variable {X:Cx}
theorem pv (i:Nat){x:Str}{pos:Pos}(hN:X.N[i]?=some x:=by rfl)(hv:Vis X.env.scope x:=by first | exact Or.inl rfl | exact Or.inr (Or.inl rfl) | exact Or.inr (Or.inr rfl))(hd:(x==("__debug__":Str))=false:=by decide)
 (hcd:(x==("__classdict__":Str))=false:=by decide):PE X (.Name x pos) (mJ i):=mR hN hv hd hcd
end
theorem aIb {A B:Prop}(h:B):if false=true then A else B:=by
 rw[if_neg Cd];exact h
theorem aJd {A B:Prop}(h:A):if true=true then A else B:=by
 rw[if_pos rfl];exact h
def aK (H H':Hp):Prop:=∀ b o,H b=some o->H' b=some o
theorem aK.refl (H:Hp):aK H H:=fun _ _ h=>h
theorem aK.trans {H H1 H2:Hp}(a:aK H H1)(b:aK H1 H2):aK H H2:=fun c o h=>b c o (a c o h)
theorem aK.free {H H':Hp}(e:aK H H'){l:Addr}(h:H' l=Jr):H l=Jr:=by
 cases q:H l with
 | none=>rfl
 | some o =>
  rw[e l o q]at h;cases h
theorem aK.seq {K:PySem.W.Frag}{H H':Hp}{a:Addr}{xs:List V}(e:aK H H')(h:SqL K H a xs):SqL K H' a xs:=by
 rcases h with (h | ⟨o,h⟩) | h
 · exact .inl (.inl (e _ _ h))
 · exact .inl (.inr ⟨o,e _ _ h⟩)
 · exact .inr h
end L2
namespace L2
open PySem PySem.Spec PyProof.Rows
section
variable {pg:Program}{w:World}{A:Around}
abbrev nox:Value->Shared->Prop:=fun _ _=>False
abbrev wpN {α:Type}(pg:Program)(w:World)(A:Around)(t:Sem α)(Q:α->Shared->Prop)(s:Shared):Prop:=wpAny (model pg w) A t Q nox s
def aH9 (ifs:List Expr)(env:Env):Sem Bool :=
 forIn ifs true fun c r =>
  if r=true then do
   let ok ← isTrue c env (eval c env)
   pure (ForInStep.yield ok)
  else pure (ForInStep.yield r)
def aIv (pg:Program)(w:World)(A:Around)(elt tg:Expr)(ifs:List Expr)(it acc:Value)(env:Env)(J:Shared->Prop)(v:Value)(s:Shared):Prop :=
 wpN pg w A (letOwnedTupleGo tg it v) (fun _ sa=>wpN pg w A (assign tg env v) (fun _ sb=>wpN pg w A (aH9 ifs env) (fun ok sc =>
  if ok=true then wpN pg w A (eval elt env) (fun x sd=>wpN pg w A (call (.builtin "list.append") [acc,x]) (fun _ se=>J se) sd) sc else J sc) sb) sa) s
theorem mo {α:Type}{t:Sem α}{Q Q':α->Shared->Prop}{E:Value->Shared->Prop}{s:Shared}(h:wpN pg w A t Q s)(k:∀ a s',Q a s'->Q' a s'):wpAny (model pg w) A t Q' E s :=
 wpAny_mono h k (fun _ _ f=>False.elim f)
theorem xE {elt target iter:Expr}{ifs:List Expr}{scope:Scope}{pos:Pos}{it acc:Value}{env:Env}{R:Result->Shared->Prop}{s₀:Shared}(I:Nat->Shared->Prop)
 (uL:∀ n s,I n s->wpN pg w A (pyNext it) (fun r s₁=>match r with
  | none=>R (.ok .next) s₁
  | some v=>aIv pg w A elt target ifs it acc env (fun s'=>∃ m,m<n/\I m s') v s₁) s)
 (top:Nat) (start:I top s₀):codeAny (model pg w) A (.compLoop (.ListComp elt [⟨target,iter,ifs,0⟩] scope pos) 0 it acc env) R s₀:=by
 apply codeAny_loop rfl I _ top start
 intro n s hI;apply wpAny_noted
 rw[compTurn_list];refine wpAny_bind (wpAny_standAt (wpAny_bind (mo (uL n s hI) ?_)))
 rintro (_ | v) s₁ goal
 · exact wpAny_pure goal
 · refine wpAny_bind (mo goal fun _ sa ga=>wpAny_bind (mo ga fun _ sb gb=>wpAny_bind (mo gb ?_)))
   rintro (_ | _) sc gc
   · exact wpAny_pure (And.intro rfl gc)
   · refine wpAny_bind (wpAny_bind (mo gc fun x sd gd=>wpAny_bind (mo gd fun _ se ge=>?_)))
     exact wpAny_pure (wpAny_pure (And.intro rfl ge))
end
theorem cC:∀ (names:List (Str×NameKind)) (n:Nat) (acc:List (Str×Addr)),cellsFrom n names acc=cellsFrom n names []++acc
 | [],_,_=>rfl
 | (x,k) :: r,n,acc=>by
  unfold cellsFrom;split
  · rw[cC r (n+1) ((x,n) :: acc),cC r (n+1) [(x,n)],Co];rfl
  · exact cC r n acc
theorem iJ:∀ (names:List (Str×NameKind)) (n:Nat) {x:Str} {c:Addr},(x,c)∈cellsFrom n names []->(x,NameKind.cell)∈names
 | [],_,_,_,h=>by simp[cellsFrom]at h
 | (y,k) :: r,n,x,c,h=>by
  unfold cellsFrom at h;split at h
  · rename_i hk
    rw[cC]at h;have two:=An.mp h;rcases two with h | h
    · exact Ae _ (iJ r _ h)
    · have e:(x,c)=(y,n):=by simpa using h
      have e2:k=NameKind.cell:=by simpa using hk
      cases e;rw[e2];exact Ad
  · exact Ae _ (iJ r n h)
def iL (cells:List (Str×Addr)):List (Str×NameKind)->List (Str×Addr)->List (Str×Addr)
 | [],acc=>acc
 | (n,k) :: r,acc=>iL cells r (if k==.free then ((cells.lookup n).map fun c=>(n,c)).toList++acc else acc)
theorem sP {cells:List (Str×Addr)}:∀ (names:List (Str×NameKind)) (acc:List (Str×Addr)) {x:Str} {c:Addr},(x,c)∈iL cells names acc->(x,c)∈acc\/cells.lookup x=some c
 | [],_,_,_,h=>.inl h
 | (n,k) :: r,acc,x,c,h=>by
  unfold iL at h;rcases sP r _ h with h | h
  · split at h
    · have two:=An.mp h
      rcases two with h | h
      · cases e:cells.lookup n with
        | none=>rw[e]at h;simp at h
        | some c' =>
         rw[e]at h;have e2:(x,c)=(n,c'):=by simpa using h
         cases e2;exact .inr e
      · exact .inl h
    · exact .inl h
  · exact .inr h
theorem oE {cells:List (Str×Addr)}:∀ (names:List (Str×NameKind)) (acc:List (Str×Addr)) {x:Str} {c:Addr},((x,c)∈acc\/((x,NameKind.free)∈names/\cells.lookup x=some c))->(x,c)∈iL cells names acc
 | [],_,_,_,h=>h.elim id fun h=>by simp at h
 | (n,k) :: r,acc,x,c,h=>by
  unfold iL;refine oE r _ ?_
  rcases h with h | ⟨h,e⟩
  · left
    split
    · exact Ak _ h
    · exact h
  · rcases Ag.mp h with h | h
    · cases h
      left
      rw[if_pos (by rfl),e]
      simp
    · exact .inr ⟨h,e⟩
theorem uO {scope:Scope}{env:Env}(h:∀ y∈scope.names,y.2=.free->∃ c,env.cells.lookup y.1=some c):closureFor scope env=pure (iL env.cells scope.names []):=by
 unfold closureFor
 have go:∀ (names:List (Str×NameKind)) (acc:List (Str×Addr)),(∀ y∈names,y.2=.free->∃ c,env.cells.lookup y.1=some c) ->
  (forIn names acc fun x r=>match x with
   | (name,kind)=>if (kind==NameKind.free)=true then do let a ← cellOf env name;pure (ForInStep.yield ((name,a) :: r)) else pure (ForInStep.yield r):Sem (List (Str×Addr)))=pure (iL env.cells names acc):=by
  intro names;induction names with
  | nil=>intro acc _;rfl
  | cons y r ih =>
   obtain⟨n,k⟩:=y;intro acc hh;rw[List.forIn_cons];unfold iL;by_cases hk:(k==NameKind.free)=true
   · have e2:k=NameKind.free:=by simpa using hk
     obtain⟨c,hc⟩:=hh (n,k) Ad e2;have hcell:cellOf env n=pure c:=by unfold cellOf;rw[hc]
     simp only[hk,if_true,hcell,pure_bind,hc,Ev,Option.toList_some,List.singleton_append];exact ih _ fun y hy=>hh y (Ae _ hy)
   · simp only[hk,if_false,pure_bind]
     exact ih _ fun y hy=>hh y (Ae _ hy)
 have:=go scope.names [] h
 simp only[this,pure_bind]
theorem mD {α:Type}:∀ {l:List (Str×α)} {x:Str} {a:α},(l.map (·.1)).Nodup->(x,a)∈l->l.lookup x=some a
 | (y,b) :: r,x,a,hn,h=>by
  have hn:=Dy.mp (show (y :: r.map (·.1)).Nodup from hn)
  rcases Ag.mp h with h | h
  · cases h
    simp
  · have hne:x≠y:=fun e=>hn.1 (by rw[←e];exact Ai.mpr ⟨(x,a),h,rfl⟩)
    rw[Br,beq_false_of_ne hne];exact mD hn.2 h
theorem bO {α:Type}:∀ {l:List (Str×α)} {x:Str},x∈l.map (·.1)->∃ a,l.lookup x=some a
 | (y,b) :: r,x,h=>by
  rw[Br];cases e:x==y with
  | true=>exact⟨b,rfl⟩
  | false =>
   rw[Aj]at h;rcases Ag.mp h with h | h
   · rw[h]at e;simp at e
   · exact bO h
def aAc (scope:Scope)(C:Addr)(env:Env):Env:=compEnvC scope (cellsFrom (C+1) scope.names (iL env.cells scope.names [])) C env
def cT (X:Cx)(scope:Scope)(N:List Str)(fp:List Addr)(s:Shared)(H:Hp):Cx :=
 { X with N:=N,s₀:=s,H₀:=H,env:=aAc scope s.heap.objs.size X.env,outer:=X.stack,stack:=X.stack,ex:=fp,fn:=fun x=>decide (scope.names.lookup x=some .cell),pn:=[],xe:=fun _ _=>False }
structure CompOk (X:Cx)(scope:Scope)(N:List Str)(k:Nat)(fs:List Nat):Prop where
 kind:scope.kind=.function
 nd:(scope.names.map (·.1)).Nodup
 free:∀ y∈scope.names,y.2=.free->y.1∈X.env.cells.map (·.1)
 len:N.length=k+fs.length
 out:∀ (j i:Nat),fs[j]?=some i->∃ x,N[k+j]?=some x/\X.N[i]?=some x/\scope.names.lookup x=some .free/\(X.env.kindOf x=some .cell\/X.env.kindOf x=some .free)
def eZ (k:Nat)(fs:List Nat)(σ:St):St:=Ao k none++fs.map fun i=>(σ[i]?).join
def xX (k:Nat)(g:TG):Prop:=∀ x σ H Q,g x σ H Q->g x σ H fun σ' H'=>Q σ' H'/\σ'.length=σ.length/\∀ i,k<=i->σ'[i]?=σ[i]?
def aBi (k:Nat)(g:TGs):Prop:=∀ x σ H Q,g x σ H Q->g x σ H fun σ' H'=>Q σ' H'/\σ'.length=σ.length/\∀ i,k<=i->σ'[i]?=σ[i]?
theorem aJw {k i:Nat}(h:i<k):xX k (zF i):=fun x σ H Q q=>⟨q,by simp,fun j hj=>by rw[Av (by omega)]⟩
theorem aIz {k:Nat}:aBi k aK3:=fun x σ H Q ⟨e,q⟩=>⟨e,q,rfl,fun _ _=>rfl⟩
def aAk (g:TG):Prop:=∀ x σ H Q Q',(∀ σ' H',Q σ' H'->Q' σ' H')->g x σ H Q->g x σ H Q'
def oQ (g:TGs):Prop:=∀ x σ H Q Q',(∀ σ' H',Q σ' H'->Q' σ' H')->g x σ H Q->g x σ H Q'
theorem aE6 {i:Nat}:aAk (zF i):=fun _ _ _ _ _ h q=>h _ _ q
theorem aFk:oQ aK3:=fun _ _ _ _ _ h ⟨e,q⟩=>⟨e,h _ _ q⟩
theorem aBr {t:TG}{u:TGs}(h1:aAk t)(h2:oQ u):oQ (aD2 t u):=fun x σ H Q Q' h ⟨v,r,e,q⟩=>⟨v,r,e,h1 _ _ _ _ _ (fun σ' H' q'=>h2 _ _ _ _ _ h q') q⟩
theorem aHj {K:PySem.W.Frag}{n:Nat}{u:TGs}(h:oQ u):aAk (aKx K n u):=fun x σ H Q Q' hq ⟨a,xs,e,h1,h2,q⟩=>⟨a,xs,e,h1,h2,h _ _ _ _ _ hq q⟩
theorem aE2 {k:Nat}{t:TG}{u:TGs}(m1:aAk t)(m2:oQ u)(h1:xX k t)(h2:aBi k u):aBi k (aD2 t u):=fun x σ H Q ⟨v,r,e,q⟩=>by
 refine⟨v,r,e,?_⟩
 refine m1 _ _ _ _ _ (fun σ' H' q'=>?_) (h1 _ _ _ _ q)
 obtain⟨q1,l1,a1⟩:=q';refine m2 _ _ _ _ _ (fun σ2 H2 q2=>?_) (h2 _ _ _ _ q1)
 obtain⟨q3,l3,a3⟩:=q2;exact⟨q3,l3.trans l1,fun i hi=>(a3 i hi).trans (a1 i hi)⟩
theorem aMf {k n:Nat}{K:PySem.W.Frag}{u:TGs}(h:aBi k u):xX k (aKx K n u):=fun x σ H Q ⟨a,xs,e,h1,h2,q⟩=>⟨a,xs,e,h1,h2,h _ _ _ _ q⟩
section
variable {X:Cx}{pins:List (Addr×Obj)}{σ:St}{H:Hp}{s:Shared}{scope:Scope}{N:List Str}{k:Nat}{fs:List Nat}{fp:List Addr}
theorem CompOk.clos (C:CompOk X scope N k fs):closureFor scope X.env=pure (iL X.env.cells scope.names []):=uO fun y hy hf=>bO (C.free y hy hf)
theorem CompOk.names (C:CompOk X scope N k fs):∀ y∈scope.names,y.2=.local->scope.names.lookup y.1=some .local:=fun y hy e=>mD C.nd (by rw[←e];exact hy)
theorem zX {cells:List (Str×Addr)}{names:List (Str×NameKind)}{x:Str}{c:Addr}(h:(iL cells names []).lookup x=some c):cells.lookup x=some c :=
 (sP names [] (mem_of_lookup h)).elim (fun z=>by simp at z) id
theorem gZ {cells:List (Str×Addr)}{C:Nat}{x:Str}{c:Addr}(h:(cellsFrom (C+1) scope.names (iL cells scope.names [])).lookup x=some c) :
 (x,c)∈cellsFrom (C+1) scope.names []\/cells.lookup x=some c:=by
 rw[cC]at h;rcases An.mp (mem_of_lookup h) with z | z
 · exact .inl z
 · exact .inr ((sP _ _ z).elim (fun z=>by simp at z) id)
theorem yL {env:Env}{x:Str}:(relabel scope env).names.lookup x=some .cell\/(relabel scope env).names.lookup x=some .free->scope.names.lookup x=some .cell\/scope.names.lookup x=some .free:=by
 unfold relabel;generalize scope.names=names
 induction names with
 | nil=>simp
 | cons y r ih =>
  obtain⟨n,kd⟩:=y;simp only[Aj];by_cases hx:(x==n)=true
  · split
    · rename_i hc
      intro _
      have:(kd==NameKind.free)=true:=by
       have hc:=Da.mp hc;exact(Da.mp hc.1).1
      have e:kd=NameKind.free:=by simpa using this
      rw[Br,hx,e];exact .inr rfl
    · intro h
      simp only[Br,hx]at h ⊢;exact h
  · have hx':(x==n)=false:=by simpa using hx
    intro h
    have h':(Fg x (r.map fun x=>match x with | (n,k)=>if (k==NameKind.free&&env.scope.kind==.function&&env.kindOf n==some .cell)=true then (n,NameKind.cell) else (n,k))=some .cell\/Fg x (r.map fun x=>match x with | (n,k)=>if (k==NameKind.free&&env.scope.kind==.function&&env.kindOf n==some .cell)=true then (n,NameKind.cell) else (n,k))=some .free):=by
     split at h<;>simpa only[Br,hx'] using h
    rw[Br,hx'];exact ih h'
theorem nW {env:Env}{x:Str}:scope.names.lookup x=some .free->(relabel scope env).names.lookup x=some .cell\/(relabel scope env).names.lookup x=some .free:=by
 unfold relabel;generalize scope.names=names
 induction names with
 | nil=>simp
 | cons y r ih =>
  obtain⟨n,kd⟩:=y;simp only[Aj];intro h;by_cases hx:(x==n)=true
  · rw[Br,hx]at h
    cases h;split
    · left;rw[Br,hx]
    · right;rw[Br,hx]
  · have hx':(x==n)=false:=by simpa using hx
    rw[Br,hx']at h;have:=ih h
    split<;>simpa only[Br,hx'] using this
theorem aLy (C:CompOk X scope N k fs)(I:Inv X pins σ H s)(hf:∀ b∈fp,mP X pins H b)(ho:∀ b∈fp,b<s.heap.objs.size):(cT X scope N fp s H).Ok where
 mod:=I.ok.mod
 kind:=C.kind
 glob:=I.ok.glob
 blt:=I.ok.blt
 above:=Ah _
 inj:=fun x y c hx hy=>by
  have ok:=cellsFrom_ok scope.names (s.heap.push { cls:=.type "dict",data:=.dict #[] }) (s.heap.objs.size+1) [] ⟨fun _ _ hm=>(nomatch hm),Ej⟩ (by rw[Cw];exact Ah _)
  rw[Cw]at ok;have old:∀ z c,X.env.cells.lookup z=some c->c<s.heap.objs.size:=fun z c e=>let ⟨_,q⟩:=I.cell z c e;q.lt
  rcases gZ hx with h1 | h1<;>rcases gZ hy with h2 | h2
  · exact name_of_addr ok.apart h1 h2
  · exact absurd (old _ _ h2) (Nat.not_lt.mpr (Gb (ok.empty _ _ h1).2))
  · exact absurd (old _ _ h1) (Nat.not_lt.mpr (Gb (ok.empty _ _ h2).2))
  · exact I.ok.inj x y c h1 h2
 has:=fun x h=>by
  have h':scope.names.lookup x=some .cell\/scope.names.lookup x=some .free:=yL h
  have:((cellsFrom (s.heap.objs.size+1) scope.names (iL X.env.cells scope.names [])).lookup x).isSome=true:=by
   refine Fv _ _ _ ?_
   rcases h' with h' | h'
   · exact .inl h'
   · right
     obtain⟨c,hc⟩:=bO (C.free _ (mem_of_lookup h') rfl);have hm:x∈(iL X.env.cells scope.names []).map (·.1):=Ai.mpr ⟨(x,c),oE _ _ (.inr ⟨mem_of_lookup h',hc⟩),rfl⟩;obtain⟨a,ha⟩:=bO hm;rw[ha];rfl
  exact Gp.mp this
 cab:=fun x c hx hl=>by
  have hx':scope.names.lookup x=some .cell:=of_decide_eq_true hx;have hsome:((cellsFrom (s.heap.objs.size+1) scope.names []).lookup x).isSome=true:=Fv _ _ _ (.inl hx');obtain⟨c',hc'⟩:=Gp.mp hsome;have hl':(cellsFrom (s.heap.objs.size+1) scope.names (iL X.env.cells scope.names [])).lookup x=some c:=hl;rw[cC,List.lookup_append,hc']at hl';cases hl';have ok:=cellsFrom_ok scope.names (s.heap.push { cls:=.type "dict",data:=.dict #[] }) (s.heap.objs.size+1) [] ⟨fun _ _ hm=>(nomatch hm),Ej⟩ (by rw[Cw];exact Ah _)
  rw[Cw]at ok;exact Gb (ok.empty _ _ (mem_of_lookup hc')).2
 hd:=I.ok.hd
 frames:=I.ok.frames
 stk:=.inl rfl
 exf:=fun b hb=>⟨Cb (ho b hb),fun x c e z=>by
  have ok:=cellsFrom_ok scope.names (s.heap.push { cls:=.type "dict",data:=.dict #[] }) (s.heap.objs.size+1) [] ⟨fun _ _ hm=>(nomatch hm),Ej⟩ (by rw[Cw];exact Ah _)
  rw[Cw]at ok;rcases gZ (cells:=X.env.cells) e with h1 | h1
  · have h2:=(ok.empty _ _ h1).2
    have h3:=ho b hb;rw[z]at h2;exact Fl _ (Af h3 (Gb h2))
  · exact(hf b hb).2.2.2.2.1 x c h1 z⟩
 bs:=I.bs
 bsz:=Bp I.ok.bsz I.sz
 noex:=fun b o e hb=>by
  rcases (hf b hb).2.2.2.1 with z | z
  · exact I.ok.noex b o e z
  · exact absurd (Af (Am e) (Bp I.ok.bsz z)) (Fl _)
 exfs:=fun b hb z=>by
  rcases Ag.mp (I.stkSub b z) with e | e
  · exact(hf b hb).2.1 e
  · exact(hf b hb).2.2.1 e
 funs:=I.stack
 frf:=I.stkFree
theorem aBp (σ:St):(eZ k fs σ).length=k+fs.length:=by simp[eZ]
theorem sH {σ:St}{i:Nat}{v:V}(h:(eZ k fs σ)[i]?=some (some v)):∃ j i',i=k+j/\fs[j]?=some i'/\σ[i']?=some (some v):=by
 unfold eZ at h;by_cases hi:i<k
 · rw[Bl (by simpa using hi),List.getElem?_replicate_of_lt hi]at h
   cases h
 · rw[Bb (by simpa using Nat.le_of_not_lt hi),Bu,Ax]at h
   cases e:fs[i-k]? with
   | none=>rw[e]at h;cases h
   | some i' =>
    rw[e]at h;refine⟨i-k,i',by omega,e,?_⟩
    have h':(σ[i']?).join=some v:=Dh.inj h;cases e2:σ[i']? with
    | none=>rw[e2]at h';cases h'
    | some o =>
     rw[e2]at h';have:o=some v:=h'
     rw[this]
theorem aH2 (C:CompOk X scope N k fs)(I:Inv X pins σ H s)(hf:∀ b∈fp,mP X pins H b)(ho:∀ b∈fp,b<s.heap.objs.size) :
 Inv (cT X scope N fp s H) [] (eZ k fs σ) H { s with heap:=pushCells (s.heap.push { cls:=.type "dict",data:=.dict #[] }) scope.names }:=by
 have keep:∀ b o,s.heap.get? b=some o->(pushCells (s.heap.push { cls:=.type "dict",data:=.dict #[] }) scope.names).get? b=some o:=fun b o e=>pushCells_keeps _ _ b o (As _ e);have ok:=cellsFrom_ok scope.names (s.heap.push { cls:=.type "dict",data:=.dict #[] }) (s.heap.objs.size+1) [] ⟨fun _ _ hm=>(nomatch hm),Ej⟩ (by rw[Cw];exact Ah _)
 rw[Cw]at ok;refine⟨aLy C I hf ho,rfl,I.bare,Un.kept keep,⟨fun _=>none,?_,fun i x v hN hσ hv=>?_⟩,fun x c e=>?_,I.hok.fresh (Ah _),fun x c e=>?_,(fun p hp=>by simp[cT]at hp),I.hok.kept keep,by rw[aBp];exact C.len.symm⟩
 · exact(Heap.Ns.new s.heap (.type "dict")).keeps (pushCells_keeps _ _)
 · obtain⟨j,i',rfl,hj,hσ'⟩:=sH hσ
   obtain⟨y,hy1,hy2,hy3,hy4⟩:=C.out j i' hj;have e:y=x:=Dh.inj (hy1.symm.trans hN);subst e;obtain⟨m,hn,hl⟩:=I.loc
   have hvis:Vis X.env.scope y:=by
    rcases hy4 with z | z
    · exact .inr (.inl z)
    · exact .inr (.inr z)
   obtain⟨u,ru,lk⟩:=hl i' y v hy2 hσ' hvis;refine⟨u,ru,.inr ⟨?_,?_⟩⟩
   · exact nW hy3
   · rcases lk with ⟨hk,_⟩ | ⟨_,c,hc,hcell⟩
     · rcases hy4 with z | z<;>(rw[hk]at z;cases z)
     · refine⟨c,?_,hcell.keeps keep⟩
       show (cellsFrom (s.heap.objs.size+1) scope.names (iL X.env.cells scope.names [])).lookup y=some c
       have h1:(cellsFrom (s.heap.objs.size+1) scope.names []).lookup y=none:=by
        cases e2:(cellsFrom (s.heap.objs.size+1) scope.names []).lookup y with
        | none=>rfl
        | some c' =>
         have:=mD C.nd (iJ _ _ (mem_of_lookup e2))
         rw[hy3]at this;cases this
       have h2:y∈(iL X.env.cells scope.names []).map (·.1):=Ai.mpr ⟨(y,c),oE _ _ (.inr ⟨mem_of_lookup hy3,hc⟩),rfl⟩;obtain⟨c2,hc2⟩:=bO h2;have h3:=zX hc2;rw[hc]at h3;cases h3;rw[cC,List.lookup_append,h1,hc2];rfl
 · rcases gZ (cells:=X.env.cells) e with h1 | h1
   · exact⟨none,(ok.empty _ _ h1).1⟩
   · obtain⟨v,z⟩:=I.cell x c h1
     exact⟨v,z.keeps keep⟩
 · rcases gZ (cells:=X.env.cells) e with h1 | h1
   · exact I.hok.fresh (Gb (ok.empty _ _ h1).2)
   · exact I.freeC x c h1
end
end L2
namespace L2
open PySem PySem.Spec PyProof.Rows
theorem aAd {M:Model}{A:Around}{E:Value->Shared->Prop}{s:Shared}{scope:Scope}{env:Env}{Q:Env->Shared->Prop}
 (h:Q (newEnv scope s.heap.objs.size env.globals (cellsFrom (s.heap.objs.size+1) scope.names (iL env.cells scope.names [])) env.qual none .none (some env) builtinsNs)
  { s with heap:=pushCells (s.heap.push { cls:=.type "dict",data:=.dict #[] }) scope.names }) :
 wpAny M A (newFunctionEnv scope env.globals (iL env.cells scope.names []) [] env.qual none .none (some env)) Q E s:=by
 have sz:(s.heap.push { cls:=.type "dict",data:=.dict #[] }).objs.size=s.heap.objs.size+1:=Cw ..;unfold newFunctionEnv;rw[if_pos (show (some env).isSome=true from rfl)]
 apply wpAny_bind
 apply wpAny_alloc
 apply wpAny_bind
 apply wpAny_layCells
 · intro name kind cells
   cases e:kind==NameKind.cell<;>simp[e]
 · rw[sz]
   apply wpAny_bind
   apply wpAny_pure
   exact wpAny_pure h
def xA (J:It)(k:Nat)(fs:List Nat)(g:TG)(tb:St->Hp->(Option V->Hp->Prop)->Prop)(σ:St)(acc:Addr)(Qf:Hp->Prop)(H:Hp):Prop :=
 ∃ W:Nat->Nat->List V->Hp->Prop,(∃ m,W 0 m [] (upd H acc (.lst [])))/\∀ i m ys H2,W i m ys H2->H2 acc=some (.lst ys) /\
  ((J.stop i H2/\Qf H2)\/(J.go i H2/\ys.length<sizeLine/\∀ x H3,J.yld i H2 x H3->g x (eZ k fs σ) H3 fun σ4 H4=>tb σ4 H4 fun o H5 =>
   match o with
   | some v=>H5 acc=some (.lst ys)/\∃ m',m'<m/\W (i+1) m' (ys++[v]) (upd H5 acc (.lst (ys++[v])))
   | none=>∃ m',m'<m/\W (i+1) m' ys H5))
def PB (X:Cx)(ifs:List Expr)(elt:Expr)(tb:St->Hp->(Option V->Hp->Prop)->Prop):Prop :=
 ∀ (pins:List (Addr×Obj)) (s:Shared) (σ:St) (H:Hp) (Q:Option V->Hp->Prop),Inv X pins σ H s->tb σ H Q ->
  wpAny (model X.prog X.w) X.A (aH9 ifs X.env)
   (fun ok s1=>if ok=true then wpAny (model X.prog X.w) X.A (eval elt X.env) (fun u s2=>∃ v H',Inv X pins σ H' s2/\bN v u/\Q (some v) H') X.xe s1 else ∃ H',Inv X pins σ H' s1/\Q none H') X.xe s
def aU8 (te:TE):St->Hp->(Option V->Hp->Prop)->Prop:=fun σ H Q=>te σ H fun v H'=>Q (some v) H'
def bIf (tc:TT)(te:TE):St->Hp->(Option V->Hp->Prop)->Prop:=fun σ H Q=>tc σ H fun b H1=>if b=true then te σ H1 fun v H'=>Q (some v) H' else Q none H1
theorem aOi {X:Cx}{elt:Expr}{te:TE}(he:PE X elt te):PB X [] elt (aU8 te):=by
 intro pins s σ H Q I h;refine wpAny_tests_nil ?_
 rw[if_pos rfl];exact thn (he pins s σ H _ I h) fun u s2 ⟨v,H',I',r,q⟩=>⟨v,H',I',r,q⟩
theorem aRz {X:Cx}{elt c:Expr}{te:TE}{tc:TT}(hc:PT X c tc)(he:PE X elt te):PB X [c] elt (bIf tc te):=by
 intro pins s σ H Q I h;refine wpAny_tests_one (thn (hc pins s σ H _ I h) fun b s1 ⟨H1,I1,q1⟩=>?_)
 cases b with
 | true =>
  rw[if_pos rfl]at q1 ⊢;exact thn (he pins s1 σ H1 _ I1 q1) fun u s2 ⟨v,H',I',r,q⟩=>⟨v,H',I',r,q⟩
 | false =>
  rw[if_neg Cd]at q1 ⊢;exact⟨H1,I1,q1⟩
section
variable {X:Cx}{pins:List (Addr×Obj)}{σ:St}{H:Hp}{s:Shared}{scope:Scope}{N:List Str}{k:Nat}{fs:List Nat}{tg iter elt:Expr}{ifs:List Expr}{pos:Pos}{g:TG}{tb:St->Hp->(Option V->Hp->Prop)->Prop}
theorem sB {J:It}{fp:List Addr}{it:Addr}{tn:Nat->Heap->Prop}{Qf:Addr->Hp->Prop}{RR:Value->Addr->Result->Shared->Prop}{E:Value->Shared->Prop}(hc:X.calm=true)(C:CompOk X scope N k fs)(I:Inv X pins σ H s)
 (T:Turn X.prog X.w X.K tg J fp it tn) (t0:tn 0 s.heap) (f0:∀ b∈fp,mP X pins H b) (hg:∀ fp s H,PG (cT X scope N fp s H) tg g) (gl:xX k g) (hb:∀ fp s H,PB (cT X scope N fp s H) ifs elt tb)
 (h:∀ acc,H acc=none->xA J k fs g tb σ acc (Qf acc) H)
 (hRR:∀ (acc B:Addr) (H':Hp) (s':Shared) (m:Str->Option Value),Qf acc H'->Inv X pins σ H' s'->mP X pins H' B->s'.heap.Ns B m->RR (.ref acc) B (.ok .next) s') :
 wpAny (model X.prog X.w) X.A (newList []) (fun acc s₃=>wpAny (model X.prog X.w) X.A (newFunctionEnv scope X.env.globals (iL X.env.cells scope.names []) [] X.env.qual none .none (some X.env)) (fun cenv s₄ =>
  codeAny (model X.prog X.w) X.A (.compStart (.ListComp elt [⟨tg,iter,ifs,0⟩] scope pos) 0 (.ref it) acc { cenv with scope:=relabel scope X.env }) (RR acc cenv.locals) s₄) E s₃) E s:=by
 have hfr:H s.heap.objs.size=none:=I.fresh;refine wpAny_newObj_type ?_
 have I1:Inv X pins σ (upd H s.heap.objs.size (.lst [])) { s with heap:=s.heap.push { cls:=.type "list",data:=.seq ([]:List Value).toArray } }:=I.lnew (t':=s.toks) (its:=[]) .nil (De _)
 obtain⟨W,⟨m0,w0⟩,uL⟩:=h _ hfr;generalize hacc:s.heap.objs.size=acc at *
 generalize hs1:({ s with heap:=s.heap.push { cls:=.type "list",data:=.seq ([]:List Value).toArray } }:Shared)=s1 at *
 have keep1:∀ b o,s.heap.get? b=some o->s1.heap.get? b=some o:=fun b o e=>by rw[←hs1];exact As _ e
 have fpl:∀ b∈fp,b<s.heap.objs.size:=fun b hb=>let ⟨o,e,_⟩:=T.obj _ _ t0 b hb;Am e
 have sz1:s1.heap.objs.size=acc+1:=by rw[←hs1,←hacc];exact Cw ..
 have f1:∀ b∈fp,mP X pins (upd H acc (.lst [])) b:=fun b hb=>⟨by rw[bI (Cb (by rw[←hacc];exact fpl b hb))];exact(f0 b hb).1,(f0 b hb).2⟩
 have ho1:∀ b∈fp,b<s1.heap.objs.size:=fun b hb=>by rw[sz1,←hacc];exact Nat.lt_succ_of_lt (fpl b hb)
 have t1:tn 0 s1.heap:=T.keep _ _ _ t0 fun b _ o e=>keep1 b o e;refine aAd ?_
 have I2:=aH2 (fp:=fp) C I1 f1 ho1;have keep2:∀ b o,s1.heap.get? b=some o->(pushCells (s1.heap.push { cls:=.type "dict",data:=.dict #[] }) scope.names).get? b=some o:=fun b o e=>pushCells_keeps _ _ b o (As _ e);generalize hs2:({ s1 with heap:=pushCells (s1.heap.push { cls:=.type "dict",data:=.dict #[] }) scope.names }:Shared)=s2 at *
 have t2:tn 0 s2.heap:=T.keep _ _ _ t1 fun b _ o e=>by rw[←hs2];exact keep2 b o e
 have zA:∀ {H':Hp},(∀ b∈fp,H' b=none)->∀ b∈fp,mP (cT X scope N fp s1 (upd H acc (.lst []))) [] H' b:=fun {H'} hn b hb =>
  ⟨hn b hb,((I2.ok.exf b hb)).1,I2.ok.exfs b hb,.inl hb,(I2.ok.exf b hb).2,(fun p hp=>by simp[cT]at hp)⟩
 have back:∀ {σ':St} {H':Hp} {s':Shared},Inv (cT X scope N fp s1 (upd H acc (.lst []))) [] σ' H' s'->Inv X pins σ H' s'/\mP X pins H' s1.heap.objs.size/\∃ m,s'.heap.Ns s1.heap.objs.size m:=fun {σ' H' s'} J=>by
  refine⟨I1.call' (ch:=fp) J.os J.base J.hok J.bare fun b hb=>⟨(f1 b hb).2.2.2.1,(f1 b hb).2.1,(f1 b hb).2.2.2.2.1,(f1 b hb).2.2.2.2.2⟩,I1.fpOk (Ah _) J.free,?_⟩
  obtain⟨m,hn,_⟩:=J.loc;exact⟨m,hn⟩
 have loop:codeAny (model X.prog X.w) X.A (.compLoop (.ListComp elt [⟨tg,iter,ifs,0⟩] scope pos) 0 (.ref it) (.ref acc) (aAc scope s1.heap.objs.size X.env)) (RR (.ref acc) s1.heap.objs.size) s2:=by
  refine xE (fun n s'=>∃ i σ' H' ys,Inv (cT X scope N fp s1 (upd H acc (.lst []))) [] σ' H' s'/\tn i s'.heap/\(∀ b∈fp,H' b=none)/\W i n ys H'/\σ'.length=(eZ k fs σ).length/\∀ j,k<=j->σ'[j]?=(eZ k fs σ)[j]?) ?_ m0
   ⟨0,_,_,[],I2,t2,fun b hb=>(f1 b hb).1,w0,rfl,fun _ _=>rfl⟩
  rintro n s3 ⟨i,σ3,H3,ys,I3,st3,fr3,w3,len3,ag3⟩
  have I3':=I3.weak (σ':=eZ k fs σ) len3.symm fun j v e=>by
   obtain⟨j',i',rfl,_,_⟩:=sH e;rw[ag3 _ (Dq _ _)];exact e
  obtain⟨ha,hcase⟩:=uL i n ys H3 w3;rcases hcase with ⟨stop,q⟩ | ⟨go,hlt,step⟩
  · refine thn (T.done (cT X scope N fp s1 (upd H acc (.lst []))) rfl rfl rfl hc i [] s3 _ H3 _ I3' (zA fr3) st3 stop) fun r s4 ⟨hr,I4⟩=>?_
    subst hr;obtain⟨b1,b2,m,b3⟩:=back I4;exact hRR acc _ H3 s4 m q b1 b2 b3
  · refine thn (T.item (cT X scope N fp s1 (upd H acc (.lst []))) rfl rfl rfl hc i [] s3 _ H3 _ I3' (zA fr3) st3 go) fun r s4 ⟨u,hr,h4⟩=>?_
    subst hr;refine thn h4 fun _ s5 ⟨x,H5,I5,r5,y5,st5,fr5⟩=>?_
    have I5':=I5.pinned (zA fr5) (T.obj _ _ st5);refine thn (hg _ _ _ _ s5 _ H5 x u _ I5' r5 (gl _ _ _ _ (step x H5 y5))) fun _ s6 ⟨σ6,H6,I6,q6,len6,ag6⟩=>?_
    refine thn (hb _ _ _ _ s6 σ6 H6 _ I6 q6) fun ok s7 q7=>?_
    have again:∀ {H8:Hp} {s8:Shared} {ys':List V} {m':Nat},Inv (cT X scope N fp s1 (upd H acc (.lst []))) ([]++tL fp s5.heap) σ6 H8 s8->m'<n->W (i+1) m' ys' H8 ->
     ∃ m,m<n/\∃ i σ' H' ys,Inv (cT X scope N fp s1 (upd H acc (.lst []))) [] σ' H' s8/\tn i s8.heap/\(∀ b∈fp,H' b=none)/\W i m ys H'/\σ'.length=(eZ k fs σ).length/\∀ j,k<=j->σ'[j]?=(eZ k fs σ)[j]?:=fun {H8 s8 ys' m'} I8 hm w8=>by
     refine⟨m',hm,i+1,σ6,H8,ys',I8.unpinned,T.keep _ _ _ st5 fun b hb o e=>(I8.pin (b,o) (Ak _ (Ak _ (gR hb e)))).1,fun b hb=>?_,w8,len6,ag6⟩
     obtain⟨o,e,d⟩:=T.obj _ _ st5 b hb;exact(I8.pin (b,o) (Ak _ (Ak _ (gR hb e)))).2.1
    cases ok with
    | false =>
     rw[if_neg Cd]at q7 ⊢;obtain⟨H8,I8,m',hm,w8⟩:=q7;exact again I8 hm w8
    | true =>
     rw[if_pos rfl]at q7 ⊢;refine thn q7 fun u8 s8 ⟨v,H8,I8,r8,ha8,m',hm,w8⟩=>?_
     refine thn (oZ _ s8 σ6 H8 (.ref acc) [v] (.ref acc) [u8] (fun _ H'=>H'=upd H8 acc (.lst (ys++[v]))) I8 rfl (.cons r8 .nil) ⟨acc,ys,v,rfl,rfl,ha8,hlt,rfl⟩) fun _ s9 ⟨_,H9,I9,_,e9⟩=>?_
     subst e9;exact again I9 hm w8
 exact codeAny_compStart_list loop (T.self _ 0 _ _ _ t2 loop)
def aNs (wi:TI)(k:Nat)(fs:List Nat)(g:TG)(tb:St->Hp->(Option V->Hp->Prop)->Prop):TE:=fun σ H Q=>wi σ H fun J H1=>∀ acc,H1 acc=none->xA J k fs g tb σ acc (fun H2=>Q (.ref acc) H2) H1
theorem aMg {wi:TI}(hc:X.calm=true)(C:CompOk X scope N k fs)(hi:PI X tg iter wi)(hg:∀ fp s H,PG (cT X scope N fp s H) tg g)(gl:xX k g)(hb:∀ fp s H,PB (cT X scope N fp s H) ifs elt tb)
 (hs:∀ x,foldedSetIterable iter X.env x=pure x:=by intro _;rfl):PE X (.ListComp elt [⟨tg,iter,ifs,0⟩] scope pos) (aNs wi k fs g tb):=by
 intro pins s σ H Q I h;rw[eval_ListComp];refine wpAny_comprehension_free (use:=none) rfl hs C.clos C.kind C.names (thn (hi pins s σ H _ I h) fun v s1 h1=>thn h1 fun itv s2 h2=>?_)
 obtain⟨it,fp,tn,J,H2,e,I2,T,st2,f2,q2⟩:=h2;subst e;refine sB (RR:=fun acc B=>compPost (model X.prog X.w) X.A X.xe none (EP X pins σ Q) acc B) hc C I2 T st2 f2 hg gl hb q2 ?_
 intro acc B H' s' m q I' F n;exact⟨m,n,fun h' sb=>⟨.ref acc,H',I'.turned (t':=s'.toks) (fun b o hb e=>sb.extBut b o hb e) F.1 F.2.1 F.2.2.2.1 F.2.2.2.2.1 F.2.2.2.2.2,rfl,q⟩⟩
def aO9 (i:Nat)(wi:TI)(k:Nat)(fs:List Nat)(g:TG)(tb:St->Hp->(Option V->Hp->Prop)->Prop):TS:=fun D σ H=>wi σ H fun J H1=>∀ acc,H1 acc=none->xA J k fs g tb σ acc (fun H2=>D.nx (σ.set i (some (.ref acc))) H2) H1
theorem aMj {wi:TI}{i:Nat}{y:Str}{py spos:Pos}(hc:X.calm=true)(hN:X.N.Nodup)(hi':X.N[i]?=some y)(hy:X.env.scope.names.lookup y=some .local)(C:CompOk X scope N k fs)(hi:PI X tg iter wi)(hg:∀ fp s H,PG (cT X scope N fp s H) tg g)(gl:xX k g)
 (hb:∀ fp s H,PB (cT X scope N fp s H) ifs elt tb) (hsw:swapsWith (.ListComp elt [⟨tg,iter,ifs,0⟩] scope pos) (some (.Name y py)) spos.line X.env=pure true)
 (hs:∀ x,foldedSetIterable iter X.env x=pure x:=by intro _;rfl):PS X (.Assign [.Name y py] (.ListComp elt [⟨tg,iter,ifs,0⟩] scope pos) spos) (aO9 i wi k fs g tb):=by
 intro pins s σ H D I h;refine(exec_Assign_Name_used _ _ _ _ hsw).symm▸wpAny_bind (wpAny_standAt (wpAny_bind ?_))
 show wpAny _ X.A (do let _ ← comprehension (.ListComp elt [⟨tg,iter,ifs,0⟩] scope pos) scope X.env _ (newList []) false (eval iter X.env) (some (assign (.Name y py) X.env))) _ _ s
 refine wpAny_bind (wpAny_mono (wpAny_comprehension_free (use:=some (assign (.Name y py) X.env)) (Q:=fun _ s'=>SP X pins D .next s') rfl hs C.clos C.kind C.names
  (thn (hi pins s σ H _ I h) fun v s1 h1=>thn h1 fun itv s2 h2=>?_)) (fun _ s' hq=>wpAny_pure (wpAny_pure hq)) fun _ _ e=>e)
 obtain⟨it,fp,tn,J,H2,e,I2,T,st2,f2,q2⟩:=h2;subst e;refine sB (RR:=fun acc B=>compPost (model X.prog X.w) X.A X.xe (some (assign (.Name y py) X.env)) (fun _ s'=>SP X pins D .next s') acc B) hc C I2 T st2 f2 hg gl hb q2 ?_
 intro acc B H' s' m q I' F n
 have hoB:∃ o,s'.heap.get? B=some o/\∀ v,o.data≠.cell v:=by
  obtain⟨o,es,ep,ho,hd,_⟩:=n;exact⟨o,ho,fun v z=>by rw[hd]at z;cases z⟩
 have I'':=I'.pinned (fp:=[B]) (fun b hb=>by rw[Ap.mp hb];exact F) (fun b hb=>by rw[Ap.mp hb];exact hoB)
 show wpAny _ X.A (assign (.Name y py) X.env (.ref acc)) _ _ _
 refine wpAny_assign_Name (sD (v:=.ref acc) I'' hN hi' (.inl hy) rfl (fun s3 I3=>?_) (.inr hy))
 obtain⟨o,ho,_⟩:=hoB;have pin:=(I3.pin (B,o) (Ak _ (Ak _ (gR (Ap.mpr rfl) ho)))).1;refine⟨m,n.at' fun o' e'=>?_,fun h' sb=>?_⟩
 · rw[ho]at e'
   cases e';exact pin
 · exact⟨_,H',(I3.unpinned).turned (t':=s3.toks) (fun b o hb e=>sb.extBut b o hb e) F.1 F.2.1 F.2.2.2.1 F.2.2.2.2.1 F.2.2.2.2.2,q⟩
end
end L2
namespace Zp
open PySem
def rcd (TI TO T:Addr)(f:Bool):Obj:={ cls:=.type "zip",data:=.fields #[rawInt T,.bool f,.bool false,.ref TI,.ref TO] }
section
variable {prog:Program}{w:World}{A:Around}{E:Value->Shared->Prop}{s:Shared}
theorem aSo {a:Addr}{o:Obj}{Q:Option Obj->Shared->Prop}(ho:s.heap.get? a=some o)(q:Q (some o) s):wpAny (model prog w) A (Sem.loadIfAlive ((a:Nat):Int).toNat Sem.pure) Q E s :=
 fun _ _ _=>by rw[Du];exact(ho▸q:Q (s.heap.get? a) s)
theorem aQy {z TI TO T:Addr}{f:Bool}{oT:Obj}{Q:Bool->Shared->Prop}(ho:s.heap.get? z=some (rcd TI TO T f))(hT:s.heap.get? T=some oT)
 (q:∀ h',h'.get? z=some (rcd TI TO T true)->Heap.SameBut z s.heap h'->Q false { s with heap:=h' }):wpAny (model prog w) A (Builtin.SmallTypes.ownedTupleIsFree (.ref z)) Q E s:=by
 unfold rcd at ho;cases f
 all_goals repeat (first | assumption | (with_reducible refine wpAny_field ho rfl rfl ?_) | (with_reducible refine aSo hT ?_) | (with_reducible refine wpAny_setField_rec ho (by simp) fun h' e1 e2=>?_) | wp_step)
 · exact q _ e1 e2
 · exact q _ ho (Heap.SameBut.refl _ _)
def Out (N:List Addr)(h h':Heap):Prop:=∀ c o,c∉N->h.get? c=some o->h'.get? c=some o
theorem Out.of {a:Addr}{N:List Addr}{h h':Heap}(e:Heap.ExtBut a h h')(m:a∈N):Out N h h':=fun c o n q=>e c o (fun x=>n (x▸m)) q
theorem Out.then {N:List Addr}{h h1 h2:Heap}(a:Out N h h1)(b:Out N h1 h2):Out N h h2:=fun c o n q=>b c o n (a c o n q)
theorem Out.up {N:List Addr}{h h1:Heap}{o:Obj}(a:Out N h h1):Out N h (h1.push o):=fun c u n q=>As o (a c u n q)
variable {z TI TO T i1 i2 l1 l2:Addr}{f:Bool}{oT:Obj}{k:Nat}{xs ys:Array Value}
theorem aUq {x y:Value}{Q:Fin->Shared->Prop}(D:ZipApart z TI TO i1 i2 l1 l2)
 (ho:s.heap.get? z=some (rcd TI TO T f)) (hT:s.heap.get? T=some oT) (hTI:IsPair s.heap TI (.ref i1) (.ref i2)) (a1:s.heap.IsListIter i1 l1 k) (a2:s.heap.IsListIter i2 l2 k)
 (b1:s.heap.IsList l1 xs) (b2:s.heap.IsList l2 ys) (ex:xs[k]?=some x) (ey:ys[k]?=some y)
 (q:∀ h',h'.get? z=some (rcd TI TO T true)->h'.IsListIter i1 l1 (k+1)->h'.IsListIter i2 l2 (k+1)->IsPair h' s.heap.objs.size x y->h'.objs.size=s.heap.objs.size+1->Out [z,i1,i2] s.heap h' ->
  Q (.done (.ret (.ref s.heap.objs.size))) { s with heap:=h' }):wpAny (model prog w) A (Builtin.«zip.__next__» ⟨[.ref z],[]⟩) Q E s:=by
 have hd:=show (rcd TI TO T f).data=.fields #[rawInt T,.bool f,.bool false,.ref TI,.ref TO] from rfl
 repeat (first | assumption | (with_reducible refine wpAny_field ho hd rfl ?_) | (with_reducible refine aQy ho hT fun h1 e1 u1=>?_) | (refine wpAny_nextOf_list_item (it:=i1) (a1.extBut u1.extBut D.i1z) (b1.extBut u1.extBut D.l1z) ex fun h2 e2 u2=>?_) | (refine wpAny_nextOf_list_item (it:=i2) ((a2.extBut u1.extBut D.i2z).extBut u2.extBut D.i12.symm) ((b2.extBut u1.extBut D.l2z).extBut u2.extBut D.l2i1) ey fun h3 e3 u3=>?_) | wp_step)
 have z3:h3.objs.size=s.heap.objs.size:=u3.1.trans (u2.1.trans u1.1);have fr:Out [z,i1,i2] s.heap h3:=((Out.of u1.extBut (by simp)).then (Out.of u2.extBut (by simp))).then (Out.of u3.extBut (by simp))
 rw[z3];refine q _ (As _ (u3.extBut _ _ D.i2z.symm (u2.extBut _ _ D.i1z.symm e1))) ((e2.extBut u3.extBut D.i12).at fun _=>As _) (e3.at fun _=>As _) ?_ (by rw[Cw,z3]) fr.up
 exact z3▸Cm h3 rfl
theorem dry {Q:Fin->Shared->Prop}(hh:A.handled=none)(D:ZipApart z TI TO i1 i2 l1 l2)
 (ho:s.heap.get? z=some (rcd TI TO T f)) (hT:s.heap.get? T=some oT) (hTI:IsPair s.heap TI (.ref i1) (.ref i2)) (a1:s.heap.IsListIter i1 l1 k) (a2:s.heap.IsListIter i2 l2 k)
 (b1:s.heap.IsList l1 xs) (b2:s.heap.IsList l2 ys) (no:xs.size<=k\/ys.size<=k)
 (q:∀ h' e o,h'.get? e=some o->o.cls=.type "StopIteration"->Out [z,i1,i2] s.heap h'->E (.ref e) { s with heap:=h' }):wpAny (model prog w) A (Builtin.«zip.__next__» ⟨[.ref z],[]⟩) Q E s:=by
 have hd:=show (rcd TI TO T f).data=.fields #[rawInt T,.bool f,.bool false,.ref TI,.ref TO] from rfl
 by_cases hx:k<xs.size
 · have ex:xs[k]?=some xs[k]:=Array.getElem?_eq_getElem hx
   have ey:ys[k]?=none:=Array.getElem?_eq_none (no.resolve_left (Nat.not_le.mpr hx));repeat (first | assumption | (with_reducible refine wpAny_field ho hd rfl ?_) | (with_reducible refine aQy ho hT fun h1 e1 u1=>?_) | (refine wpAny_nextOf_list_item (it:=i1) (a1.extBut u1.extBut D.i1z) (b1.extBut u1.extBut D.l1z) ex fun h2 e2 u2=>?_) | (refine wpAny_nextOf_list_end (it:=i2) hh ((a2.extBut u1.extBut D.i2z).extBut u2.extBut D.i12.symm) ((b2.extBut u1.extBut D.l2z).extBut u2.extBut D.l2i1) ey fun h3 e u3 p=>?_) | wp_step)
   obtain⟨o,p1,p2⟩:=p;exact q h3 e o p1 p2 (((Out.of u1.extBut (by simp)).then (Out.of u2.extBut (by simp))).then (Out.of u3 (by simp)))
 · have ex:xs[k]?=none:=Array.getElem?_eq_none (Nat.not_lt.mp hx)
   repeat (first | assumption | (with_reducible refine wpAny_field ho hd rfl ?_) | (with_reducible refine aQy ho hT fun h1 e1 u1=>?_) | (refine wpAny_nextOf_list_end (it:=i1) hh (a1.extBut u1.extBut D.i1z) (b1.extBut u1.extBut D.l1z) ex fun h2 e u2 p=>?_) | wp_step)
   obtain⟨o,p1,p2⟩:=p;exact q h2 e o p1 p2 ((Out.of u1.extBut (by simp)).then (Out.of u2 (by simp)))
theorem nxt {o:Obj}{Q:Option Value->Shared->Prop}(ho:s.heap.get? z=some o)(hc:o.cls=.type "zip")
 (h:wpAny (model prog w) A.in1 (Builtin.«zip.__next__» ⟨[.ref z],[]⟩) (fun r s'=>∃ v,r=.done (.ret v)/\Q (some v) s') (fun e s'=>∃ a u,e=.ref a/\s'.heap.get? a=some u/\u.cls=.type "StopIteration"/\Q none s') s):wpAny (model prog w) A (pyNext (.ref z)) Q E s:=by
 have ty:s.TypeIs (.ref z) "zip":=⟨o,ho,hc⟩;refine wpAny_bind (wpAny_attempt (wpAny_mono (Q:=fun r s'=>∃ v,r=some v/\Q (some v) s') (wpAny_callSpecial?_slot ty F.slot_zip_next (wpAny_call_entry F.slot_zip_next ty F.entry_zip_next (wpAny_mono h ?_ fun _ _ e=>e) (F.args_zip_next_1 _))) ?_ ?_))
 · rintro _ s' ⟨v,rfl,q⟩
   exact⟨v,rfl,v,rfl,q⟩
 · rintro _ s' ⟨v,rfl,q⟩
   exact wpAny_pure q
 · rintro _ s' ⟨a,u,rfl,e1,e2,q⟩
   exact wpAny_bind (wpAny_isInstance (T:="StopIteration") (b:=true) ⟨u,e1,e2⟩ isSubtype_stop (wpAny_pure q))
end
end Zp
namespace Zp
open PySem
def mk (vs:List Value)(c:Nat):Obj:={ cls:=.type "list",data:=.seq vs.toArray c }
structure Feed (prog:Program)(w:World)(A:Around)(z S:Addr)(P:Nat->List Value->Heap->Prop)(L:List Value->Heap->Prop):Prop where
 more:∀ (n:Nat) (vs:List Value) (s:Shared) (Q:Option Value->Shared->Prop) (E:Value->Shared->Prop),P (n+1) vs s.heap ->
  (∀ v h',P n (vs++[v]) h'->(∀ o,s.heap.get? S=some o->h'.get? S=some o)->Q (some v) { s with heap:=h' })->wpAny (model prog w) A (pyNext (.ref z)) Q E s
 over:∀ (vs:List Value) (s:Shared) (Q:Option Value->Shared->Prop) (E:Value->Shared->Prop),P 0 vs s.heap ->
  (∀ h',L vs h'->(∀ o,s.heap.get? S=some o->h'.get? S=some o)->Q none { s with heap:=h' })->wpAny (model prog w) A (pyNext (.ref z)) Q E s
 blind:∀ (n:Nat) (vs:List Value) (h h':Heap),P n vs h->Heap.SameBut S h h'->P n vs h'
section
variable {prog:Program}{w:World}{A:Around}{z S:Addr}{P:Nat->List Value->Heap->Prop}{L:List Value->Heap->Prop}{R:Result->Shared->Prop}
theorem uL {s:Shared}{as:Args}(h:wpAny (model prog w) A.in1 (Builtin.«list.extend.loop» as) (fun r s'=>match r with | .done f=>R (.ok f) s' | .again c=>c.quiet=true/\codeAny (model prog w) A c R s') (fun e s'=>R (.error e) s') s) :
 codeAny (model prog w) A (.builtin "list.extend.loop" as) R s :=
 codeAny_builtin PySem.F.entry_extend_loop (by rw[Around.under_plainId PySem.F.plain_extend_loop];exact h)
theorem aTu (F:Feed prog w A.in1 z S P L)(r:Value):∀ (n:Nat) (vs:List Value) (c:Nat) (s:Shared),P n vs s.heap->s.heap.get? S=some (mk vs c)->vs.length+n<=sizeLine ->
 (∀ h' us c',L us h'->h'.get? S=some (mk us c')->R (.ok (.ret r)) { s with heap:=h' })->codeAny (model prog w) A (.builtin "list.extend.loop" ⟨[.ref S,.ref z,r],[]⟩) R s
 | 0,vs,c,s,p,e,_,q=>by
  refine uL (wpAny_bind (F.over vs s _ _ p fun h' l k=>wpAny_pure ?_))
  exact q h' vs c l (k _ e)
 | n+1,vs,c,s,p,e,b,q=>by
  refine uL (wpAny_bind (F.more n vs s _ _ p fun v h' p' k=>?_))
  have e':=k _ e;have len:(vs.toArray.push v).size<=sizeLine:=by simp;omega
  obtain⟨c2,e2⟩:∃ c2,(h'.update S (Obj.mapSeq (·.push v))).get? S=some (mk (vs++[v]) c2):=by
   have:=Ga (Obj.mapSeq (·.push v)) e' rfl
   simp only[mk,Obj.mapSeq,List.push_toArray]at this;exact⟨_,this⟩
  refine wpAny_bind (wpAny_updateSeq e' rfl (wpAny_pure ⟨plainId_quiet PySem.F.plain_extend_loop _,?_⟩) (by simp;omega) (Nat.le_succ_of_le len))
  refine aTu F r n (vs++[v]) c2 _ (F.blind _ _ _ _ p' (Heap.SameBut.update ..)) e2 (by simp;omega) fun h2 us c3 l e3=>?_
  exact q h2 us c3 l e3
theorem upd {E:Value->Shared->Prop}{s:Shared}{vs:List Value}{c:Nat}{f:Array Value->Array Value}{Q:Unit->Shared->Prop}(e:s.heap.get? S=some (mk vs c))(l:vs.length<=1)(m:(f vs.toArray).size<=1)
 (q:∀ h' c',h'.get? S=some (mk (f vs.toArray).toList c')->Heap.SameBut S s.heap h'->Q () { s with heap:=h' }):wpAny (model prog w) A (updateSeq S f) Q E s :=
 have one:1<=sizeLine:=by decide
 wpAny_updateSeq e rfl (q _ _ (Ga _ e rfl) (Heap.SameBut.update ..)) (by simp;omega) (by omega)
theorem aUh:typeLookup (.type "zip") "__len__" = pure none:=(typeLookup_type ..).trans (by rw[builtinLookup_eq_fast];kernel_rfl)
theorem aTp:typeLookup (.type "zip") "__length_hint__" = pure none:=(typeLookup_type ..).trans (by rw[builtinLookup_eq_fast];kernel_rfl)
theorem aTe {E:Value->Shared->Prop}{s:Shared}{c:Nat}{TI TO:Addr}{K:Fin->Shared->Prop}(e:s.heap.get? S=some (mk [] c))(ez:IsZip s.heap z TI TO .none)(n:S≠z)
 (q:∀ h' c',h'.get? S=some (mk [] c')->Heap.SameBut S s.heap h'->K (.again (.builtin "list.extend.loop" ⟨[.ref S,.ref z,.none],[]⟩)) { s with heap:=h' }) :
 wpAny (model prog w) A (Builtin.«list.__init__» ⟨[.ref S,.ref z],[]⟩) K E s:=by
 have same:Builtin.List.listSameRef (.ref S) (.ref z)=false:=by simp[Builtin.List.listSameRef,n]
 have t1:(Value.type "zip" == Value.type "list")=false:=by decide
 have t2:(Value.type "zip" == Value.type "tuple")=false:=by decide
 have cond:(Builtin.List.listSameRef (.ref S) (.ref z)||Value.type "zip" == Value.type "list" || Value.type "zip" == Value.type "tuple")=false:=by rw[same,t1,t2];rfl
 refine wpAny_bind (wpAny_bind (wpAny_seqItems e rfl (wpAny_pure ?_)))
 refine wpAny_bind (upd e (by decide) (by decide) fun h1 c1 e1 u1=>wpAny_bind (wpAny_letGo ?_))
 have ez1:IsZip h1 z TI TO .none:=u1.extBut z _ n.symm ez;have ty:Shared.TypeIs { s with heap:=h1 } (.ref z) "zip":=⟨_,ez1,rfl⟩
 refine wpAny_bind (wpAny_typeOf ty ?_)
 simp only[cond,Ep,if_false];refine wpAny_bind (wpAny_pyIter_zip ez1 (wpAny_bind (wpAny_holding (wpAny_bind (wpAny_specialOf ty aUh ?_)))))
 refine wpAny_bind (wpAny_specialOf ty aTp (wpAny_pure (wpAny_bind (wpAny_rule (wpAny_bind (wpAny_bind (upd e1 (by decide) (by decide) fun h2 c2 e2 u2=>?_)))))))
 refine upd e2 (by decide) (by decide) fun h3 c3 e3 u3=>wpAny_pure ?_
 exact q h3 c3 e3 ⟨u3.1.trans (u2.1.trans u1.1),fun b m=>(u3.2 b m).trans ((u2.2 b m).trans (u1.2 b m))⟩
theorem aUo {h0:Heap}{E:Value->Shared->Prop}{Q:Value->Shared->Prop}{s:Shared}{n:Nat}{TI TO:Addr}(ez:IsZip s.heap z TI TO .none)(F:Feed prog w A.in1.in1 z s.heap.objs.size P L)
 (p:P n [] (s.heap.push (mk [] 0))) (b:n<=sizeLine) (q:∀ h' us c,L us h'->h'.get? s.heap.objs.size=some (mk us c)->Q (.ref s.heap.objs.size) { s with heap:=h' }) :
 wpAny (model prog w) A (call (.type "list") [.ref z]) Q E s:=by
 have zl:z<s.heap.objs.size:=Am ez;refine callType_codes PySem.F.called_list (PySem.F.typeCall_list_1 _) PySem.F.entry_list_init (code_list_new (Q₁:=fun o u=>o=.ref s.heap.objs.size/\u={ s with heap:=s.heap.push (mk [] 0) }) _ ⟨rfl,rfl⟩) ?_
 rintro _ _ ⟨rfl,rfl⟩
 have e0:(s.heap.push (mk [] 0)).get? s.heap.objs.size=some (mk [] 0):=Cm _ rfl;have ez0:IsZip (s.heap.push (mk [] 0)) z TI TO .none:=As _ ez;refine⟨⟨_,e0,rfl⟩,PySem.F.args_list_init_2 _ _,?_⟩
 refine aTe e0 ez0 (Ge zl) fun h' c' e' u'=>⟨plainId_quiet PySem.F.plain_extend_loop _,aTu F .none n [] c' _ (F.blind _ _ _ _ p u') e' (by simpa using b) fun h2 us c2 l e2=>?_⟩
 exact⟨rfl,q h2 us c2 l e2⟩
end
end Zp
namespace Zp
open PySem
structure Pl (old z TI TO i1 i2 l1 l2 S:Addr):Prop where
 ap:ZipApart z TI TO i1 i2 l1 l2
 new:∀ a∈[z,TO,i1,i2],old<=a
 low:∀ a∈[z,TO,i1,i2],a<S
 lo2:∀ a∈[TI,l1,l2],a<S
structure Got (h0:Heap)(old S:Addr)(xs ys:Array Value)(vs:List Value)(h:Heap):Prop where
 vals:∀ (j:Nat) (v:Value),vs[j]?=some v->v=.ref (S+1+j)
 pair:∀ j:Nat,j<vs.length->∃ x y,xs[j]?=some x/\ys[j]?=some y/\IsPair h (S+1+j) x y
 keep:∀ b o,b<old->h0.get? b=some o->h.get? b=some o
structure Zs (h0:Heap)(old z TI TO i1 i2 l1 l2 S:Addr)(xs ys:Array Value)(n:Nat)(vs:List Value)(h:Heap):Prop extends Got h0 old S xs ys vs h where
 cnt:vs.length+n=min xs.size ys.size
 size:h.objs.size=S+1+vs.length
 now:(vs=[]/\IsZip h z TI TO .none/\∃ a b,IsPair h TO a b)\/∃ f T oT,h.get? z=some (rcd TI TO T f)/\S<T/\h.get? T=some oT
 its:IsPair h TI (.ref i1) (.ref i2)
 it1:h.IsListIter i1 l1 vs.length
 it2:h.IsListIter i2 l2 vs.length
 ls1:h.IsList l1 xs
 ls2:h.IsList l2 ys
section
variable {h0 h h':Heap}{old z TI TO i1 i2 l1 l2 S:Addr}{xs ys:Array Value}{n:Nat}{vs:List Value}
theorem Pl.ns (P:Pl old z TI TO i1 i2 l1 l2 S):S∉[z,TO,i1,i2]:=fun m=>Fl _ (P.low _ m)
theorem Pl.gt (P:Pl old z TI TO i1 i2 l1 l2 S){b:Addr}(m:S<b):b∉[z,TO,i1,i2]:=fun k=>Nat.lt_asymm m (P.low _ k)
theorem Pl.lt (P:Pl old z TI TO i1 i2 l1 l2 S){b:Addr}(m:b<old):b∉[z,TO,i1,i2]:=fun k=>Nat.not_le.mpr m (P.new _ k)
theorem aM4 (S:Addr)(j:Nat):S<S+1+j:=Af (Ho S) (Dq _ _)
theorem Got.on (G:Got h0 old S xs ys vs h)(P:Pl old z TI TO i1 i2 l1 l2 S)(o:Out [z,TO,i1,i2] h h'):Got h0 old S xs ys vs h' where
 vals:=G.vals
 pair j m:=let ⟨x,y,e1,e2,e3⟩:=G.pair j m;⟨x,y,e1,e2,o _ _ (P.gt (aM4 S j)) e3⟩
 keep b u m e:=o b u (P.lt m) (G.keep b u m e)
theorem Zs.next (Z:Zs h0 old z TI TO i1 i2 l1 l2 S xs ys (n+1) vs h)(P:Pl old z TI TO i1 i2 l1 l2 S){x y:Value}{f:Bool}{T:Addr}{oT:Obj}(ex:xs[vs.length]?=some x)(ey:ys[vs.length]?=some y)
 (r:h'.get? z=some (rcd TI TO T f)) (rT:S<T) (eT:h'.get? T=some oT) (a1:h'.IsListIter i1 l1 (vs.length+1)) (a2:h'.IsListIter i2 l2 (vs.length+1)) (pr:IsPair h' h.objs.size x y) (sz:h'.objs.size=h.objs.size+1)
 (o:Out [z,TO,i1,i2] h h'):Zs h0 old z TI TO i1 i2 l1 l2 S xs ys n (vs++[.ref h.objs.size]) h':=by
 have D:=P.ap;have len:(vs++[Value.ref h.objs.size]).length=vs.length+1:=by simp
 have G:=Z.toGot.on P o
 refine⟨⟨fun j v e=>?_,fun j m=>?_,G.keep⟩,by rw[len];have:=Z.cnt;omega,by rw[len,sz,Z.size];rfl,.inr ⟨f,T,oT,r,rT,eT⟩,o _ _ (by simp[D.TIz,D.TITO,D.TIi1,D.TIi2]) Z.its,by rw[len];exact a1,by rw[len];exact a2,
  Heap.IsList.at Z.ls1 fun u e=>o _ u (by simp[D.l1z,D.l1TO,D.l1i1,D.l1i2]) e,Heap.IsList.at Z.ls2 fun u e=>o _ u (by simp[D.l2z,D.l2TO,D.l2i1,D.l2i2]) e⟩
 · rcases Gg j vs.length with q | q
   · exact G.vals j v (by rwa [Bl q]at e)
   · have jl:j=vs.length:=by have:=(Aw.mp e).1;rw[len]at this;omega
     subst jl;simp only[List.getElem?_concat_length,Dh.injEq]at e;rw[←e,Z.size]
 · rcases Gg j vs.length with q | q
   · exact G.pair j q
   · have jl:j=vs.length:=by rw[len]at m;omega
     subst jl;exact⟨x,y,ex,ey,Z.size▸pr⟩
end
section
variable {prog:Program}{w:World}{A:Around}{h0:Heap}{old z TI TO i1 i2 l1 l2 S:Addr}{xs ys:Array Value}
theorem aQv {h h':Heap}(o:Out [z,i1,i2] h h'):Out [z,TO,i1,i2] h h':=fun c u m=>o c u (by simp only[Ag,Bi,or_false,not_or]at m ⊢;exact⟨m.1,m.2.2⟩)
theorem aMr {h h':Heap}(o:∀ c u,c≠z->c≠TO->c≠i1->c≠i2->h.get? c=some u->h'.get? c=some u):Out [z,TO,i1,i2] h h':=fun c u m=>by
 simp only[Ag,Bi,or_false,not_or]at m;exact o c u m.1 m.2.1 m.2.2.1 m.2.2.2
theorem aU1 (hh:A.handled=none)(P:Pl old z TI TO i1 i2 l1 l2 S):Feed prog w A z S (Zs h0 old z TI TO i1 i2 l1 l2 S xs ys) (fun vs h=>vs.length=min xs.size ys.size/\Got h0 old S xs ys vs h) where
 more n vs s Q E Z q:=by
  have c:=Z.cnt;have hx:vs.length<xs.size:=by omega
  have hy:vs.length<ys.size:=by omega
  have ex:=Array.getElem?_eq_getElem hx;have ey:=Array.getElem?_eq_getElem hy;have sS:S<s.heap.objs.size:=by rw[Z.size];exact aM4 S _
  rcases Z.now with ⟨e0,ez,a,b,eO⟩ | ⟨f,T,oT,ez,mT,eT⟩
  · refine wpAny_pyNext_zip_item P.ap ez Z.its eO Z.it1 Z.it2 Z.ls1 Z.ls2 ex ey fun h' b1 b2 b3 b4 b5 b6 b7=>?_
    exact q _ h' (Z.next P ex ey (f:=false) b1 sS b5 b3 b4 b5 b6 (aMr b7)) fun o e=>aMr b7 S o P.ns e
  · refine nxt ez rfl (aUq P.ap ez eT Z.its Z.it1 Z.it2 Z.ls1 Z.ls2 ex ey fun h' b1 b2 b3 b4 b5 b6=>⟨_,rfl,?_⟩)
    have o4:=aQv (TO:=TO) b6;exact q _ h' (Z.next P ex ey b1 mT (o4 T _ (P.gt mT) eT) b2 b3 b4 b5 o4) fun o e=>o4 S o P.ns e
 over vs s Q E Z q:=by
  have c:=Z.cnt;have no:xs.size<=vs.length\/ys.size<=vs.length:=by omega
  rcases Z.now with ⟨e0,ez,a,b,eO⟩ | ⟨f,T,oT,ez,mT,eT⟩
  · refine wpAny_pyNext_zip_end hh P.ap ez Z.its eO Z.it1 Z.it2 Z.ls1 Z.ls2 (no.imp Array.getElem?_eq_none Array.getElem?_eq_none) fun h' b7=>?_
    exact q h' ⟨c,Z.toGot.on P (aMr b7)⟩ fun o e=>aMr b7 S o P.ns e
  · refine nxt ez rfl (dry hh P.ap ez eT Z.its Z.it1 Z.it2 Z.ls1 Z.ls2 no fun h' e o b1 b2 b3=>⟨e,o,rfl,b1,b2,?_⟩)
    exact q h' ⟨c,Z.toGot.on P (aQv b3)⟩ fun u e=>aQv (TO:=TO) b3 S u P.ns e
 blind n vs h h' Z u:=by
  have go:∀ b o,b≠S->h.get? b=some o->h'.get? b=some o:=fun b o m e=>(u.2 b m).trans e;have low:∀ a,a∈[z,TO,i1,i2]\/a∈[TI,l1,l2]->a≠S:=fun a m=>Cb (m.elim (P.low a) (P.lo2 a))
  refine⟨⟨Z.vals,fun j m=>?_,fun b o m e=>go b o ?_ (Z.keep b o m e)⟩,Z.cnt,u.1.trans Z.size,?_,go _ _ (low _ (by simp)) Z.its,Z.it1.at fun o e=>go _ o (low _ (by simp)) e,Z.it2.at fun o e=>go _ o (low _ (by simp)) e,
   Heap.IsList.at Z.ls1 fun o e=>go _ o (low _ (by simp)) e,Heap.IsList.at Z.ls2 fun o e=>go _ o (low _ (by simp)) e⟩
  · obtain⟨x,y,e1,e2,e3⟩:=Z.pair j m
    exact⟨x,y,e1,e2,go _ _ (Ge (aM4 S j)) e3⟩
  · exact Cb (Ez (Af m (P.new z (by simp))) (P.low z (by simp)))
  · rcases Z.now with ⟨e0,ez,a,b,eO⟩ | ⟨f,T,oT,ez,mT,eT⟩
    · exact .inl ⟨e0,go _ _ (low _ (by simp)) ez,a,b,go _ _ (low _ (by simp)) eO⟩
    · exact .inr ⟨f,T,oT,go _ _ (low _ (by simp)) ez,mT,go _ _ (Ge mT) eT⟩
theorem aKw {E:Value->Shared->Prop}{Q:Value->Shared->Prop}{s:Shared}{a b:Value}(hh:A.handled=none)(D:ZipApart z TI TO i1 i2 l1 l2)(nw:∀ a∈[z,TO,i1,i2],old<=a)
 (ez:IsZip s.heap z TI TO .none) (eO:IsPair s.heap TO a b) (its:IsPair s.heap TI (.ref i1) (.ref i2)) (it1:s.heap.IsListIter i1 l1 0) (it2:s.heap.IsListIter i2 l2 0) (ls1:s.heap.IsList l1 xs) (ls2:s.heap.IsList l2 ys) (big:min xs.size ys.size<=sizeLine)
 (q:∀ h' us c,us.length=min xs.size ys.size->Got s.heap old s.heap.objs.size xs ys us h'->h'.get? s.heap.objs.size=some (mk us c)->Q (.ref s.heap.objs.size) { s with heap:=h' }) :
 wpAny (model prog w) A (call (.type "list") [.ref z]) Q E s:=by
 have up:∀ c o,s.heap.get? c=some o->(s.heap.push (mk [] 0)).get? c=some o:=fun c o=>As _;obtain⟨_,q1,_⟩:=id it1;obtain⟨_,q2,_⟩:=id it2;obtain⟨_,q3,_⟩:=id ls1;obtain⟨_,q4,_⟩:=id ls2;have P:Pl old z TI TO i1 i2 l1 l2 s.heap.objs.size:=⟨D,nw,by simpa using ⟨Am ez,Am eO,Am q1,Am q2⟩,by simpa using ⟨Am its,Am q3,Am q4⟩⟩
 refine aUo (h0:=s.heap) ez (aU1 (A:=A.in1.in1) (h0:=s.heap) (xs:=xs) (ys:=ys) hh P) (n:=min xs.size ys.size) ⟨⟨fun j v e=>by simp at e,fun j m=>absurd m (Nat.not_lt_zero _),fun b o _ e=>up b o e⟩,by simp,by rw[Cw];rfl,
  .inl ⟨rfl,up _ _ ez,a,b,up _ _ eO⟩,up _ _ its,it1.at (up _),it2.at (up _),Heap.IsList.at ls1 (up _),Heap.IsList.at ls2 (up _)⟩ big fun h' us c l e=>q h' us c l.1 l.2 e
end
end Zp
namespace L2
open PySem PySem.Spec PyProof.Rows
mutual
inductive Has (K:PySem.W.Frag) (H:Hp):V->PyData->Prop
 | non:Has K H .non .none
 | bl (b:Bool):Has K H (.bl b) (.bool b)
 | int (i:Int):Has K H (.int i) (.int i)
 | str (x:Str):Has K H (.str x) (.str x)
 | lst {a:Addr} {xs:List V} {ds:List PyData}:SqL K H a xs->HasAll K H xs ds->Has K H (.ref a) (.list ds)
 | tup {a:Addr} {xs:List V} {ds:List PyData}:SqT K H a xs->HasAll K H xs ds->Has K H (.ref a) (.tuple ds)
inductive HasAll (K:PySem.W.Frag) (H:Hp):List V->List PyData->Prop
 | nil:HasAll K H [] []
 | cons {v:V} {d:PyData} {vs:List V} {ds:List PyData}:Has K H v d->HasAll K H vs ds->HasAll K H (v :: vs) (d :: ds)
end
theorem aK.seqT {K:PySem.W.Frag}{H H':Hp}{a:Addr}{xs:List V}(e:aK H H')(h:SqT K H a xs):SqT K H' a xs:=by
 rcases h with (h | ⟨o,h⟩) | h
 · exact .inl (.inl (e _ _ h))
 · exact .inl (.inr ⟨o,e _ _ h⟩)
 · exact .inr h
mutual
theorem Has.same {K:PySem.W.Frag}{H H':Hp}(e:aK H H'):∀ {v:V} {d:PyData},Has K H v d->Has K H' v d
 | _,_,.non=>.non
 | _,_,.bl b=>.bl b
 | _,_,.int i=>.int i
 | _,_,.str x=>.str x
 | _,_,.lst h r=>.lst (e.seq h) (HasAll.same e r)
 | _,_,.tup h r=>.tup (e.seqT h) (HasAll.same e r)
theorem HasAll.same {K:PySem.W.Frag}{H H':Hp}(e:aK H H'):∀ {v:List V} {d:List PyData},HasAll K H v d->HasAll K H' v d
 | _,_,.nil=>.nil
 | _,_,.cons h r=>.cons (Has.same e h) (HasAll.same e r)
end
mutual
theorem Has.reads {X:Cx}{pins:List (Addr×Obj)}{σ:St}{H:Hp}{s:Shared}(I:Inv X pins σ H s):∀ {v:V} {d:PyData},Has X.K H v d->∀ {u:Value},bN v u->∃ as,Reads s.heap u d as
 | _,_,.non,u,r=>by cases (show u=Value.none from r);exact⟨_,.none⟩
 | _,_,.bl b,u,r=>by cases (show u=Value.bool b from r);exact⟨_,.bool b⟩
 | _,_,.int i,u,r=>by obtain⟨t,rfl⟩:=(show ∃ t,u=Value.int i t from r);exact⟨_,.int i t⟩
 | _,_,.str x,u,r=>by obtain⟨t,rfl⟩:=(show ∃ t,u=Value.str x t from r);exact⟨_,.str x t⟩
 | _,_,.lst (a:=a) h r,u,q=>by
  cases (show u=Value.ref a from q)
  obtain⟨its,rv,p,_⟩:=I.list h;obtain⟨as,ra⟩:=HasAll.reads I r rv;obtain⟨o,ho,hc,n,hd⟩:=p.isList;exact⟨_,.list ho hc hd (by rw[List.toList_toArray];exact ra)⟩
 | _,_,.tup (a:=a) h r,u,q=>by
  cases (show u=Value.ref a from q)
  obtain⟨its,rv,p,_⟩:=I.tuple h;obtain⟨as,ra⟩:=HasAll.reads I r rv;obtain⟨o,ho,hc,n,hd⟩:=p;exact⟨_,.tuple ho hc hd (by rw[List.toList_toArray];exact ra)⟩
theorem HasAll.reads {X:Cx}{pins:List (Addr×Obj)}{σ:St}{H:Hp}{s:Shared}(I:Inv X pins σ H s):∀ {vs:List V} {ds:List PyData},HasAll X.K H vs ds->∀ {us:List Value},bG vs us->∃ as,ReadsAll s.heap us ds as
 | _,_,.nil,us,r=>by cases r;exact⟨_,.nil⟩
 | _,_,.cons h t,us,r=>by
  cases r with
  | cons r1 r2 =>
   obtain⟨a1,h1⟩:=Has.reads I h r1;obtain⟨a2,h2⟩:=HasAll.reads I t r2;exact⟨_,.cons h1 h2⟩
end
section
variable {X:Cx}
def aVf (K:PySem.W.Frag):R2:=fun x y H Q=>∃ d e,Has K H x d/\Has K H y e/\SeqAt.shaped d=true/\SeqAt.shaped e=true/\Q (.bl (PyData.eqv d e)) H
def aUl (K:PySem.W.Frag):R2:=fun x y H Q=>∃ d e,Has K H x d/\Has K H y e/\SeqAt.shaped d=true/\SeqAt.shaped e=true/\Q (.bl (!PyData.eqv d e)) H
theorem aHb (hu:X.A.units+64<cLine):OpR X (compareOp .Eq) (aVf X.K):=by
 intro pins s σ H x y v u Q I rx ry h;obtain⟨d,e,hd,he,sd,se,q⟩:=h;obtain⟨as,ra⟩:=hd.reads I rx;obtain⟨bs,rb⟩:=he.reads I ry;exact SeqAt.compareEq_shaped ra rb sd se hu ⟨.bl _,H,I,rfl,q⟩
theorem aOr (hu:X.A.units+64<cLine):OpR X (compareOp .NotEq) (aUl X.K):=by
 intro pins s σ H x y v u Q I rx ry h;obtain⟨d,e,hd,he,sd,se,q⟩:=h;obtain⟨as,ra⟩:=hd.reads I rx;obtain⟨bs,rb⟩:=he.reads I ry;exact SeqAt.compareNe_shaped ra rb sd se hu ⟨.bl _,H,I,rfl,q⟩
theorem uR:∀ {ns:List Int} {us:List Value},bG (ns.map V.int) us->IntsAre us ns:=fun r=>aB2 r
theorem aI5 (hc:X.calm=true):kU X (.builtin "sum") (fun xs H Q=>∃ (a:Addr) (ns:List Int),xs=[.ref a]/\SqL X.K H a (ns.map V.int)/\Q (.int ns.sum) H):=by
 intro pins s σ H xs us Q I r h;obtain⟨a,ns,rfl,hq,q⟩:=h;obtain⟨u,rfl,rx⟩:=vB r;cases rx;obtain⟨its,rv,p,_⟩:=I.list hq;have hi:=uR rv;obtain⟨nums,hx⟩:=hi.allInts.items;have hl':s.heap.IsList a (intItems nums):=hx▸p.isList;refine sum_intListG (I.ok.hd hc) hl' fun h' tk t' hk=>?_
 have e1:ns=nums.toList.map (fun z=>z.1):=by
  rw[←nums_intItems,←hx];exact(show numsOf its.toArray.toList=ns from hi.numsOf).symm
 have e2:preSum (numAt nums) nums.size=ns.sum:=by rw[preSum_eq,Hh (by simp),e1]
 exact⟨.int ns.sum,H,I.kept hk,⟨t',by rw[e2]⟩,q⟩
theorem aIm:kU X (.builtin "isinstance") (fun xs H Q=>∃ x t n b,xs=[x,.ty n]/\TyOf X.K H x t/\Iu X.K t (.type n)=some b/\Q (.bl b) H):=by
 intro pins s σ H xs us Q I r h;obtain⟨x,t,n,b,rfl,ty,e,q⟩:=h;obtain⟨u,v,rfl,r1,r2⟩:=zZ r;cases (show v=Value.type n from r2)
 exact aE0 I r1 ty e fun tk=>⟨.bl b,H,I.tok tk,rfl,q⟩
theorem Inv.laidAll {pins:List (Addr×Obj)}{σ:St}{H H2:Hp}{s:Shared}{h':Heap}{t':Nat}(I:Inv X pins σ H s)(k:∀ b u,s.heap.get? b=some u->h'.get? b=some u)(same:aK H H2)
 (new:∀ b o,H2 b=some o->H b=none->s.heap.objs.size<=b/\dO X.prog X.w H2 h' b o):Inv X pins σ H2 { s with heap:=h',toks:=t' }:=by
 refine I.un ⟨fun b u q _ _ _=>k b u q,fun b u q _ _ _=>⟨u.slots,k b u q⟩,fun b u q n _=>?_,fun b u q _=>⟨u,k b u q⟩,fun b xs q=>same b _ q,fun b u xs q=>same b _ q,fun b ps q=>⟨#[],by rw[same b _ q];simp⟩⟩ fun b o e=>?_
 · cases e:H2 b with
   | none=>rfl
   | some o=>exact absurd (Am q) (Nat.not_lt.mpr (new b o e n).1)
 · cases e1:H b with
   | none=>exact(new b o e e1).2
   | some u =>
    have:=same b u e1
    rw[e]at this;cases this;exact(I.hok b _ e1).stay (fun c v _ q=>k c v q) (fun c q=>same c _ q) fun c xs q=>same c _ q
theorem vI:∀ as:List Addr,bG (as.map V.ref) (as.map Value.ref)
 | []=>.nil
 | _ :: r=>.cons rfl (vI r)
def aTz (xs ys:List V)(H H2:Hp)(l:Addr)(ts:List Addr):Prop :=
 aK H H2/\H l=none/\H2 l=some (.lst (ts.map V.ref))/\ts.length=min xs.length ys.length/\∀ (j:Nat) (t:Addr),ts[j]?=some t->H t=none/\∃ x y,xs[j]?=some x/\ys[j]?=some y/\H2 t=some (.tup [x,y])
def aHa (K:PySem.W.Frag)(t:TA):TE:=fun σ H Q=>t σ H fun vs H1=>∃ a b xs ys,vs=[.ref a,.ref b]/\SqL K H1 a xs/\SqL K H1 b ys/\∀ l ts H2,aTz xs ys H1 H2 l ts->Q (.ref l) H2
theorem aCl {pins:List (Addr×Obj)}{σ:St}{H:Hp}{s:Shared}{a b:Addr}{xs ys:List V}{Q:VK}(hc:X.calm=true)(I:Inv X pins σ H s)(ha:SqL X.K H a xs)(hb:SqL X.K H b ys)(q:∀ l ts H2,aTz xs ys H H2 l ts->Q (.ref l) H2) :
 wpAny (model X.prog X.w) X.A (call (.type "zip") [.ref a,.ref b]) (fun z s1=>wpAny (model X.prog X.w) X.A (call (.type "list") [z]) (EP X pins σ Q) X.xe s1) X.xe s:=by
 obtain⟨us,ru,pu,zu⟩:=I.list ha;obtain⟨vs,rv,pv,zv⟩:=I.list hb;have lu:=ru.length;have lv:=rv.length;have a1:a<s.heap.objs.size:=by obtain⟨_,e,_⟩:=pu.isList;exact Am e
 have a2:b<s.heap.objs.size:=by obtain⟨_,e,_⟩:=pv.isList;exact Am e
 refine call_zip_2 pu.isList pv.isList fun h1 hz hTI hTO hi1 hi2 hsz hk=>?_
 refine Zp.aKw (s:={ s with heap:=h1 }) (old:=s.heap.objs.size) (xs:=us.toArray) (ys:=vs.toArray) (I.ok.hd hc) (zipApart_new a1 a2) (by simp[Dq]) hz hTO hTI hi1 hi2 (Heap.IsList.at pu.isList (fun o e=>hk _ o e)) (Heap.IsList.at pv.isList (fun o e=>hk _ o e))
  (by simp only[Az];omega) fun h' ws c hlen G hl=>?_
 dsimp only at hlen G hl ⊢
 have kp':∀ b o,s.heap.get? b=some o->h'.get? b=some o:=fun b o e=>G.keep b o (Am e) (hk b o e);have big:s.heap.objs.size<=h1.objs.size:=by rw[hsz];exact Dq _ _
 obtain⟨as,eas⟩:∃ as,as=Bv (h1.objs.size+1) ws.length:=⟨_,rfl⟩;have hlen':as.length=min xs.length ys.length:=by rw[eas,List.length_range',hlen];simp only[Az];omega
 have gt:∀ (j:Nat) (t:Addr),as[j]?=some t->j<ws.length/\t=h1.objs.size+1+j:=fun j t e=>by
  rw[eas]at e;obtain⟨m,q⟩:=Aw.mp e;rw[List.getElem_range',Nat.one_mul]at q;exact⟨by simpa using m,q.symm⟩
 have hws:ws=as.map Value.ref:=Hs (by rw[eas];simp) fun j m1 m2=>by
  rw[G.vals j _ (Ac m1)];simp[eas]
 have above:∀ t∈as,h1.objs.size<t:=fun t m=>by
  obtain⟨j,e⟩:=List.mem_iff_getElem?.mp m;rw[(gt j t e).2];exact Zp.aM4 _ j
 have hasz:∀ t∈as,s.heap.objs.size<=t:=fun t ht=>Bp big (Gh (above t ht));have nd:as.Nodup:=eas▸List.nodup_range';have hfl:H h1.objs.size=none:=I.hok.fresh big
 let H2:Hp:=fun p=>if p=h1.objs.size then some (.lst (as.map V.ref)) else match as.findIdx? (·==p) with
  | some j=>match xs[j]?,ys[j]? with
   | some x,some y=>some (.tup [x,y])
   | _,_=>H p
  | none=>H p
 have fnd:∀ (j:Nat) (t:Addr),as[j]?=some t->as.findIdx? (·==t)=some j:=fun j t e=>by
  rw[Hb];obtain⟨hj,et⟩:=Aw.mp e;refine⟨hj,by simp[et],fun k hkj=>?_⟩
  intro z;have z':as[k]=t:=by simpa using z
  have:k=j:=(List.getElem_inj nd).mp (z'.trans et.symm)
  omega
 have ne_l:∀ t∈as,t≠h1.objs.size:=fun t ht=>Ge (above t ht)
 have at_t:∀ (j:Nat) (t:Addr),as[j]?=some t->∃ x y u v,xs[j]?=some x/\ys[j]?=some y/\bN x u/\bN y v/\IsPair h' t u v/\H2 t=some (.tup [x,y]):=fun j t e=>by
  obtain⟨jm,et⟩:=gt j t e;obtain⟨u,v,e1,e2,e3⟩:=G.pair j jm;rw[←et]at e3;have hj:j<as.length:=(Aw.mp e).1;have hx:j<xs.length:=by omega
  have hy:j<ys.length:=by omega
  obtain⟨u',f1,r1⟩:=ru.get (Ac hx);obtain⟨v',f2,r2⟩:=rv.get (Ac hy);have g1:us.toArray[j]?=some u':=by simpa using f1
  have g2:vs.toArray[j]?=some v':=by simpa using f2
  rw[e1]at g1;rw[e2]at g2;cases g1;cases g2;refine⟨_,_,u,v,Ac hx,Ac hy,r1,r2,e3,?_⟩
  show (if t=h1.objs.size then _ else _)=_
  rw[if_neg (ne_l t (Dj e))];simp only[fnd j t e,Ac hx,Ac hy]
 have same:aK H H2:=fun p o e=>by
  show (if p=h1.objs.size then _ else _)=_
  rw[if_neg (bL e hfl)]
  have:as.findIdx? (·==p)=none:=by
   rw[List.findIdx?_eq_none_iff];intro t ht
   have:t≠p:=fun z=>by
    subst z;have:=I.hok.fresh (hasz t ht)
    rw[e]at this;cases this
   simpa using this
  rw[this];exact e
 have atl:H2 h1.objs.size=some (.lst (as.map V.ref)):=if_pos rfl;refine⟨.ref h1.objs.size,H2,I.laidAll kp' same fun p o e n=>?_,rfl,q _ as H2 ⟨same,hfl,atl,hlen',fun j t e=>?_⟩⟩
 · by_cases hp:p=h1.objs.size
   · subst hp
     rw[atl]at e;cases e;refine⟨big,by rw[Ab,hlen'];omega,as.map Value.ref,c,?_,?_⟩
     · exact vI as
     · rw[hl,hws];rfl
   · have e':(match as.findIdx? (·==p) with
      | some j=>match xs[j]?,ys[j]? with
       | some x,some y=>some (HO.tup [x,y])
       | _,_=>H p
      | none=>H p)=some o:=by
      have:H2 p=_:=if_neg hp
      rw[←this];exact e
     cases ef:as.findIdx? (·==p) with
     | none=>rw[ef,n]at e';cases e'
     | some j =>
      obtain⟨hj,hpj,_⟩:=Hb.mp ef
      have ej:as[j]?=some p:=by
       rw[Ac hj];simpa using hpj
      obtain⟨x,y,u,v,_,_,r1,r2,pr,h2⟩:=at_t j p ej;rw[e]at h2;cases h2;exact⟨hasz p (Dj ej),by show 2<=sizeLine;decide,[u,v],.cons r1 (.cons r2 .nil),⟨_,pr,rfl,_,rfl⟩⟩
 · obtain⟨x,y,u,v,f1,f2,r1,r2,pr,h2⟩:=at_t j t e
   exact⟨I.hok.fresh (hasz t (Dj e)),x,y,f1,f2,h2⟩
theorem aCt {a b:Expr}{t:TA}{p1 p2 q1 q2:Pos}(hc:X.calm=true)(g1:Gl X "list")(m1:X.mg "list" = none)(g2:Gl X "zip")(m2:X.mg "zip" = none)(ha:PA X [a,b] t)
 (hs:starEach [a,b] X.env=[(false,eval a X.env),(false,eval b X.env)]:=by rfl) (hs2:starEach [b] X.env=[(false,eval b X.env)]:=by rfl)
 (hs3:starEach [Expr.Call (.Name "zip" p2) [a,b] [] q2] X.env=[(false,eval (.Call (.Name "zip" p2) [a,b] [] q2) X.env)]:=by rfl) :
 PE X (.Call (.Name "list" p1) [.Call (.Name "zip" p2) [a,b] [] q2] [] q1) (aHa X.K t):=by
 intro pins s σ H Q I h;refine Call_ (gO I g1 m1 boot_list (Bw ?_ hs3 rfl))
 rw[hs3];refine Calls.spliced_cons ?_
 refine Call_ (gO I g2 m2 boot_zip (Bw (thn (ha q2 pins s σ H _ I h) fun us s1 ⟨vs,H1,I1,r1,x,y,xs,ys,e,h1,h2,q⟩=>?_) (by rw[hs,hs2]) (by rw[hs2];rfl)))
 subst e;obtain⟨u,v,rfl,rx,ry⟩:=zZ r1;cases rx;cases ry;refine thn (aCl hc I1 h1 h2 q) fun z s2 hz=>?_
 exact Calls.spliced_nil hz
end
end L2
namespace L2
open PySem PySem.Spec PyProof.Rows
theorem Inv.turnedNew {X:Cx}{pins:List (Addr×Obj)}{σ:St}{H:Hp}{s:Shared}{h':Heap}{t':Nat}{fp:List Addr}{a:Addr}{o:HO}(I:Inv X pins σ H s)
 (k:∀ b u,b∉fp->s.heap.get? b=some u->h'.get? b=some u) (hf:∀ b∈fp,mP X pins H b) (ho:∀ b∈fp,∃ u,h'.get? b=some u) (hp:s.heap.objs.size<=a) (new:dO X.prog X.w (upd H a o) h' a o) :
 Inv X pins σ (upd H a o) { s with heap:=h',toks:=t' }:=by
 have fr:H a=none:=I.hok.fresh hp
 have nfp:∀ b u,H b=some u->b∉fp:=fun b u e z=>by
  have:=(hf b z).1
  rw[e]at this;cases this
 refine I.step (g':=s.gens) (d':=s.drawn) (ch:=fp) (fun b hb=>⟨(hf b hb).2.2.2.1,(hf b hb).2.1,(hf b hb).2.2.2.2.1,(hf b hb).2.2.2.2.2⟩) (fun b u _ _ hc e _=>k b u hc e) (fun b u _ _ hc e _=>⟨u.slots,k b u hc e⟩)
  (fun b u _ e n=>?_) (fun b u hc e=>⟨u,k b u hc e⟩) (fun b xs e=>?_) (fun b u v e=>?_) (fun b ps e=>⟨#[],?_⟩) (fun m hm=>?_) (fun b u e=>?_) I.bare
 · rw[bI (Cb (Af (Am e) hp))];exact n
 · rw[bI (bL e fr)];exact e
 · rw[bI (bL e fr)];exact e
 · rw[bI (bL e fr),e];simp
 · obtain⟨ob,es,ep,hob,r⟩:=hm
   exact⟨ob,es,ep,k _ ob (fun z=>(hf _ z).2.1 rfl) hob,r⟩
 · by_cases hb:b=a
   · subst hb
     rw[cK]at e;cases e;exact new
   · rw[bI hb]at e
     refine(I.hok b u e).stay (fun c v hc q=>k c v ?_ q) (fun c q=>by rw[bI (bL q fr)];exact q) fun c xs q=>by rw[bI (bL q fr)];exact q
     rcases hc with z | z
     · rw[z];exact nfp b u e
     · exact nfp c _ z
theorem Inv.turnedL {X:Cx}{pins:List (Addr×Obj)}{σ:St}{H:Hp}{s:Shared}{h':Heap}{t':Nat}{fp:List Addr}(I:Inv X pins σ H s)
 (k:∀ b u,b∉fp->s.heap.get? b=some u->h'.get? b=some u) (hf:∀ b∈fp,mP X pins H b):Inv X pins σ H { s with heap:=h',toks:=t' }:=by
 have nfp:∀ b u,H b=some u->b∉fp:=fun b u e z=>by
  have:=(hf b z).1
  rw[e]at this;cases this
 refine I.step (g':=s.gens) (d':=s.drawn) (ch:=fp) (fun b hb=>⟨(hf b hb).2.2.2.1,(hf b hb).2.1,(hf b hb).2.2.2.2.1,(hf b hb).2.2.2.2.2⟩) (fun b u _ _ hc e _=>k b u hc e) (fun b u _ _ hc e _=>⟨u.slots,k b u hc e⟩)
  (fun b u _ _ n=>n) (fun b u hc e=>⟨u,k b u hc e⟩) (fun b xs e=>e) (fun b u v e=>e) (fun b ps e=>⟨#[],by rw[e];simp⟩) (fun m hm=>?_) (fun b u e=>?_) I.bare
 · obtain⟨ob,es,ep,hob,r⟩:=hm
   exact⟨ob,es,ep,k _ ob (fun z=>(hf _ z).2.1 rfl) hob,r⟩
 · refine(I.hok b u e).stay (fun c v hc q=>k c v ?_ q) (fun c q=>q) fun c xs q=>q
   rcases hc with z | z
   · rw[z];exact nfp b u e
   · exact nfp c _ z
def Itz (K:PySem.W.Frag)(a b:Addr):It :=
  ⟨fun i H=>∃ xs ys x y,SqL K H a xs/\SqL K H b ys/\xs[i]?=some x/\ys[i]?=some y,
   fun i H v H'=>∃ t x y,v=.ref t/\H t=none/\H'=upd H t (.tup [x,y])/\(∀ xs,SqL K H a xs->xs[i]?=some x)/\∀ ys,SqL K H b ys->ys[i]?=some y,
   fun i H=>∃ xs ys,SqL K H a xs/\SqL K H b ys/\(xs.length<=i\/ys.length<=i)⟩
def ZTn (z TI TO i1 i2 a b:Addr)(i:Nat)(h:Heap):Prop:=IsZip h z TI TO .none/\IsPair h TI (.ref i1) (.ref i2)/\(∃ u v,IsPair h TO u v)/\h.IsListIter i1 a i/\h.IsListIter i2 b i
theorem aKb {P:Program}{w:World}{K:PySem.W.Frag}{es:List Expr}{k:Nat}{pos:Pos}{z TI TO i1 i2 a b:Addr}(D:ZipApart z TI TO i1 i2 a b) :
 Turn P w K (.Tuple es k pos) (Itz K a b) [z,TI,TO,i1,i2] z (ZTn z TI TO i1 i2 a b) where
 mem:=by simp
 obj:=fun i h st c hc=>by
  obtain⟨hz,hTI,⟨u,v,hTO⟩,⟨o1,e1,c1,d1⟩,⟨o2,e2,c2,d2⟩⟩:=st;simp only[Ag,Bi,or_false]at hc;rcases hc with rfl | rfl | rfl | rfl | rfl
  · exact⟨_,hz,fun v z=>nomatch z⟩
  · exact⟨_,hTI,fun v z=>nomatch z⟩
  · exact⟨_,hTO,fun v z=>nomatch z⟩
  · exact⟨o1,e1,fun v z=>by rw[d1]at z;cases z⟩
  · exact⟨o2,e2,fun v z=>by rw[d2]at z;cases z⟩
 keep:=fun i h h' st kp=>by
  obtain⟨hz,hTI,⟨u,v,hTO⟩,h1,h2⟩:=st;exact⟨kp _ (by simp) _ hz,kp _ (by simp) _ hTI,⟨u,v,kp _ (by simp) _ hTO⟩,h1.at fun o e=>kp _ (by simp) o e,h2.at fun o e=>kp _ (by simp) o e⟩
 item:=by
  intro X hP hw hK hc i pins s σ H E I hf st hg;subst hP hw hK;obtain⟨xs,ys,x,y,ha,hb,hx,hy⟩:=hg;obtain⟨us,ru,pu,_⟩:=I.list ha;obtain⟨vs,rv,pv,_⟩:=I.list hb;obtain⟨u,eu,rxu⟩:=ru.get hx;obtain⟨v,ev,ryv⟩:=rv.get hy;obtain⟨hz,hTI,⟨u0,v0,hTO⟩,h1,h2⟩:=st;refine wpAny_pyNext_zip_item D hz hTI hTO h1 h2 pu.isList pv.isList (x:=u) (y:=v) (by simpa using eu) (by simpa using ev) fun h' b1 b2 b3 b4 b5 b6 b7=>⟨_,rfl,?_⟩
  refine wpAny_letOwnedTupleGo_zip b1 fun hp2 c1 cs=>?_
  have nz:s.heap.objs.size≠z:=Ge (Am hz)
  have kp:∀ c o,c∉[z,TI,TO,i1,i2]->s.heap.get? c=some o->hp2.get? c=some o:=fun c o hc' e=>by
   simp only[Ag,Bi,or_false,not_or]at hc';exact cs.extBut c o hc'.1 (b7 c o hc'.1 hc'.2.2.1 hc'.2.2.2.1 hc'.2.2.2.2 e)
  have st':ZTn z TI TO i1 i2 a b (i+1) hp2:=⟨c1,cs.extBut _ _ D.TIz (b7 _ _ D.TIz D.TITO D.TIi1 D.TIi2 hTI),⟨_,_,cs.extBut _ _ D.TOz b2⟩,b3.extBut cs.extBut D.i1z,b4.extBut cs.extBut D.i2z⟩;have pr:IsPair hp2 s.heap.objs.size u v:=cs.extBut _ _ nz b5;have fr:H s.heap.objs.size=none:=I.fresh
  refine⟨.ref s.heap.objs.size,upd H s.heap.objs.size (.tup [x,y]),I.turnedNew (t':=s.toks) kp hf (fun c hc'=>?_) (Ah _) ⟨by show 2<=sizeLine;decide,[u,v],.cons rxu (.cons ryv .nil),⟨_,pr,rfl,_,rfl⟩⟩,rfl,
   ⟨_,x,y,rfl,fr,rfl,fun zs hq=>by rw[I.list_inj hq ha];exact hx,fun zs hq=>by rw[I.list_inj hq hb];exact hy⟩,st',fun c hc'=>?_⟩
  · obtain⟨d1,d2,⟨p,q,d3⟩,⟨p1,d4,_⟩,⟨p2,d5,_⟩⟩:=st'
    simp only[Ag,Bi,or_false]at hc';rcases hc' with rfl | rfl | rfl | rfl | rfl
    · exact⟨_,d1⟩
    · exact⟨_,d2⟩
    · exact⟨_,d3⟩
    · exact⟨_,d4⟩
    · exact⟨_,d5⟩
  · have:c<s.heap.objs.size:=by
     obtain⟨p1,d4,_⟩:=h1;obtain⟨p2,d5,_⟩:=h2;simp only[Ag,Bi,or_false]at hc';rcases hc' with rfl | rfl | rfl | rfl | rfl
     · exact Am hz
     · exact Am hTI
     · exact Am hTO
     · exact Am d4
     · exact Am d5
    rw[bI (Cb this)];exact(hf c hc').1
 done:=by
  intro X hP hw hK hc i pins s σ H E I hf st hg;subst hP hw hK;obtain⟨xs,ys,ha,hb,hend⟩:=hg;obtain⟨us,ru,pu,_⟩:=I.list ha;obtain⟨vs,rv,pv,_⟩:=I.list hb;have lu:=ru.length;have lv:=rv.length;obtain⟨hz,hTI,⟨u0,v0,hTO⟩,h1,h2⟩:=st;refine wpAny_pyNext_zip_end (I.ok.hd hc) D hz hTI hTO h1 h2 pu.isList pv.isList ?_ fun h' kp=>⟨rfl,I.turnedL (t':=s.toks) (fun c o hc' e=>?_) hf⟩
  · rcases hend with q | q
    · exact .inl (Array.getElem?_eq_none (by rw[Az];omega))
    · exact .inr (Array.getElem?_eq_none (by rw[Az];omega))
  · simp only[Ag,Bi,or_false,not_or]at hc'
    exact kp c o hc'.1 hc'.2.2.1 hc'.2.2.2.1 hc'.2.2.2.2 e
 self:=fun _ _ _ _ _ st h=>wpAny_pyIter_zip st.1 h
def aUy (K:PySem.W.Frag)(ta:TA):TI:=fun σ H R=>ta σ H fun vs H1=>∃ a b,vs=[.ref a,.ref b]/\(∃ xs,SqL K H1 a xs)/\(∃ ys,SqL K H1 b ys)/\R (Itz K a b) H1
theorem aPe {X:Cx}{es:List Expr}{k:Nat}{tp:Pos}{a b:Expr}{t:TA}{p pos:Pos}(hc:X.calm=true)(hg:Gl X "zip")(hm:X.mg "zip" = none)(ha:PA X [a,b] t)
 (hs:starEach [a,b] X.env=[(false,eval a X.env),(false,eval b X.env)]:=by rfl) (hs2:starEach [b] X.env=[(false,eval b X.env)]:=by rfl) :
 PI X (.Tuple es k tp) (.Call (.Name "zip" p) [a,b] [] pos) (aUy X.K t):=by
 intro pins s σ H R I h;refine Call_ (gO I hg hm boot_zip (Bw (thn (ha pos pins s σ H _ I h) fun us s1 ⟨vs,H1,I1,r1,x,y,e,⟨xs,hx⟩,⟨ys,hy⟩,q⟩=>?_) (by rw[hs,hs2]) (by rw[hs2];rfl)))
 subst e;obtain⟨u,v,rfl,rx,ry⟩:=zZ r1;cases rx;cases ry;obtain⟨us',ru,pu,zu⟩:=I1.list hx;obtain⟨vs',rv,pv,zv⟩:=I1.list hy;have a1:x<s1.heap.objs.size:=by obtain⟨_,e,_⟩:=pu.isList;exact Am e
 have a2:y<s1.heap.objs.size:=by obtain⟨_,e,_⟩:=pv.isList;exact Am e
 refine call_zip_2 pu.isList pv.isList fun h1 hz hTI hTO hi1 hi2 hsz hk=>?_
 refine wpAny_pyIter_zip hz ?_
 have big:∀ c∈[s1.heap.objs.size+4,s1.heap.objs.size+2,s1.heap.objs.size+3,s1.heap.objs.size,s1.heap.objs.size+1],s1.heap.objs.size<=c:=fun c hc'=>by
  simp only[Ag,Bi,or_false]at hc';rcases hc' with rfl | rfl | rfl | rfl | rfl
  · exact Dq _ 4
  · exact Dq _ 2
  · exact Dq _ 3
  · exact Ah _
  · exact Dq _ 1
 exact⟨_,[s1.heap.objs.size+4,s1.heap.objs.size+2,s1.heap.objs.size+3,s1.heap.objs.size,s1.heap.objs.size+1],_,_,H1,rfl,I1.kept (t':=s1.toks) hk,aKb (zipApart_new a1 a2),⟨hz,hTI,⟨_,_,hTO⟩,hi1,hi2⟩,
  fun c hc'=>I1.fpOk (big c hc') (I1.hok.fresh (big c hc')),q⟩
section
variable {X:Cx}
def aSp (i j:Int):Prop:=i.natAbs.log2<1000000/\j.natAbs.log2<1000000
def aR2 (i j:Int):Prop:=0<j/\j.natAbs.log2<9000
theorem mZ {i:Int}(h:i.natAbs.log2<1000000):Builtin.Int.intBits i<=2^20:=by
 have million:1000000<(2:Nat)^20:=by decide
 unfold Builtin.Int.intBits
 first
  | omega
  | (split<;>omega)
theorem aKq:OpR X (binaryOp .Mult) (rI aSp fun i j=>.int (i*j)):=opI fun _ _ _ _ _ _ _ hc q=>mul_int q (.of_bits (mZ hc.1) (mZ hc.2))
theorem aI6:OpR X (binaryOp .FloorDiv) (rI aR2 fun i j=>.int (i/j)):=opI fun i j _ _ _ _ _ hc q=>by
 have h1:(0:Int)<j:=hc.1;exact floordiv_int (by omega) (by rw[Fd i (by omega)];exact q) (.inl (PyProof.noPylong_of_log2 hc.2))
end
end L2
namespace L2
open PySem PySem.Spec PyProof.Rows
def aH (P:Program)(w:World)(K:PySem.W.Frag)(mg:Str->Option Value)(base:Heap)(CX:CXT)(k:Nat)(x:Str)(ps:List Str)(sp:Sp):Prop :=
 ∃ (f:Addr) (fd:FuncData),FnOk P w K mg base CX k f fd ps sp/\mg x=some (.ref f)/\Er K (.ref f)=true/\lV K fd ps []
def bD (K:PySem.W.Frag)(mg:Str->Option Value)(x:Str)(st:Stmt)(ps:List Str):Prop :=
 ∃ (f:Addr) (fd:FuncData),Fun K x x st f fd/\mg x=some (.ref f)/\lV K fd ps []
theorem aH.mono {P:Program}{w:World}{K:PySem.W.Frag}{mg:Str->Option Value}{base:Heap}{CX:CXT}{j k:Nat}{x:Str}{ps:List Str}{sp:Sp}(c:aH P w K mg base CX j x ps sp)(h:j<=k):aH P w K mg base CX k x ps sp :=
 let ⟨f,fd,F,m,kp,b⟩:=c
 ⟨f,fd,F.mono h,m,kp,b⟩
section
variable {P:Program}{w:World}{K:PySem.W.Frag}{mg:Str->Option Value}{base:Heap}
theorem bD.ok0 {x:Str}{st:Stmt}{N ps:List Str}{k:Nat}{sp:Sp}(F:bD K mg x st ps)(S:FnScope N ps (aG st))(len:∀ vs H Q E,sp vs H Q E->vs.length=ps.length)
 (hbody:∀ (f:Addr) (cdv:Value) (A:Around) (outer:List Env) (s:Shared) (H:Hp) (vs:List V) (Q:VK) (E:XK),Room k (A.deeper (envOfC x (aG st) s.heap.objs.size f cdv))->sp vs H Q E ->
  ∃ t,PSs (lO CX0 P w K mg base N x (aG st) f cdv A outer s H E).nox (cU st) t/\t { nx:=fun _ H'=>Q .non H',rt:=Q } (start N vs) H):aH P w K mg base CX0 (k+1) x ps sp:=by
 obtain⟨f,fd,F,m,b⟩:=F;exact⟨f,fd,F.ok S len (hbody f),m,F.kp,b⟩
end
theorem bK {K:PySem.W.Frag}{mg:Str->Option Value}{h:Heap}{x:Str}{st:Stmt}{ps:List Str}{f:Addr}{oc:Value}{od an:Option Addr}{osl:Array (Option Value)}{kV doc pm cdv ct:Value}(X:K.In h)(G:h.Ns mainGlobals mg)
 (a:Ca K mainGlobals x=some (some (.ref f))) (l:K.lookup f=some ⟨oc,od,.func (Ef x x (fV st) (cU st) (aG st) .none kV doc pm an cdv ct),osl⟩)
 (c:Fn K cdv x=true) (kp:Er K (.ref f)=true)
 (hb:∀ (kV doc pm:Value) (an:Option Addr) (cdv ct:Value) (us:List Value),us.length=ps.length->bindArgs (Ef x x (fV st) (cU st) (aG st) .none kV doc pm an cdv ct) ⟨us,[]⟩=pure (ps.zip us)):bD K mg x st ps:=by
 have F:=yM (st:=st) l c kp;exact⟨f,_,F,Jf X G a,F.binds hb⟩
def aD7 (sc:Scope)(XN:List Str)(scope:Scope)(N:List Str)(k:Nat)(fs:List Nat):Bool :=
 scope.kind==.function&&decide (scope.names.map (·.1)).Nodup&&scope.names.all (fun y=>y.2 != .free||((sc.names.filter (·.2==.cell)).map (·.1)).contains y.1)&&N.length==k+fs.length &&
  fs.zipIdx.all fun p=>match N[k+p.2]?,XN[p.1]? with
   | some x,some y=>decide (x=y)&&scope.names.lookup x==some .free&&sc.names.lookup x==some .cell
   | _,_=>false
theorem iF:∀ (names:List (Str×NameKind)) (n:Nat),∀ x,x∈(names.filter (·.2==.cell)).map (·.1)->x∈(cellsFrom n names []).map (·.1)
 | [],_,x,h=>by simp at h
 | (y,k) :: r,n,x,h=>by
  unfold cellsFrom;by_cases hk:(k==NameKind.cell)=true
  · rw[if_pos hk,cC,Dm,An]
    rw[Cj (by exact hk),Aj,Ag]at h
    rcases h with h | h
    · right;simp[h]
    · left;exact iF r (n+1) x h
  · rw[if_neg hk]
    rw[Cz (by exact hk)]at h
    exact iF r n x h
theorem aR {X:Cx}{sc scope:Scope}{n k:Nat}{N XN:List Str}{fs:List Nat}(hN:X.N=XN)(he:X.env.cells=cellsFrom n sc.names [])(hs:X.env.scope=sc)(h:aD7 sc XN scope N k fs=true):CompOk X scope N k fs:=by
 unfold aD7 at h;simp only[Da]at h;obtain⟨⟨⟨⟨h1,h2⟩,h3⟩,h4⟩,h5⟩:=h;refine⟨by simpa using h1,of_decide_eq_true h2,fun y hy hf=>?_,by simpa using h4,fun j i e=>?_⟩
 · have:=Gi.mp h3 y hy
   rw[hf]at this;have c:((sc.names.filter (·.2==.cell)).map (·.1)).contains y.1=true:=by simpa using this
   rw[he];exact iF _ _ _ (by simpa using c)
 · have hm:(i,j)∈fs.zipIdx:=by
    rw[Im];exact e
   have:=Gi.mp h5 (i,j) hm
   dsimp only at this
   cases e1:N[k+j]? with
   | none=>rw[e1]at this;cases this
   | some x =>
    cases e2:XN[i]? with
    | none=>rw[e1,e2]at this;cases this
    | some y =>
     rw[e1,e2]at this;simp only[Ed]at this;obtain⟨⟨q1,q2⟩,q3⟩:=this;have q1':x=y:=of_decide_eq_true q1;subst q1';refine⟨x,rfl,by rw[hN];exact e2,by simpa using q2,.inl ?_⟩
     show X.env.scope.names.lookup x=some .cell
     rw[hs];simpa using q3
theorem aK.upd_new {H:Hp}{a:Addr}{o:HO}(h:H a=none):aK H (upd H a o):=fun b u e=>by rw[bI (bL e h)];exact e
theorem aK.none {H H':Hp}(e:aK H H'){l:Addr}(h:H' l=Jr):H l=Jr:=e.free h
end L2
namespace Mir
open PySem
inductive XC where
 | NotAlike | BadCount | BadRows | BadRow | OtherSpace | BadSize | BadPlaces | ZeroSum | NoBox | BadTable | NoLine | BadName | NoRow | NoName
 deriving DecidableEq
def XC.nm:XC->Str
 | .NotAlike=>"NotAlike" | .BadCount=>"BadCount" | .BadRows=>"BadRows" | .BadRow=>"BadRow" | .OtherSpace=>"OtherSpace" | .BadSize=>"BadSize" | .BadPlaces=>"BadPlaces"
 | .ZeroSum=>"ZeroSum" | .NoBox=>"NoBox" | .BadTable=>"BadTable" | .NoLine=>"NoLine" | .BadName=>"BadName" | .NoRow=>"NoRow" | .NoName=>"NoName"
inductive D where
 | non | bl (b:Bool) | int (i:Int) | str (x:Str)
 | lst (ds:List D) | tup (ds:List D)
 | obj (c:Nat) (ds:List D)
 | dct (ks:List (List Int)) (ds:List D)
 | any
 | exc (c:XC) (ds:List D)
mutual
/-- no list within -/
def D.imm:D->Bool
 | .lst _=>false
 | .obj _ _=>false
 | .dct _ _=>false
 | .any=>false
 | .tup ds=>D.imms ds
 | .exc _ ds=>D.imms ds
 | _=>true
def D.imms:List D->Bool
 | []=>true
 | d :: r=>d.imm&&D.imms r
end
def D.con:D->Bool
 | .lst _=>true
 | .dct _ _=>true
 | _=>false
inductive Kd where
 | shr | own | tmp | old
 deriving DecidableEq
@[simp] def Kd.rd:Kd->Kd
 | .old=>.shr
 | k=>k
structure Res where
 k:Kd
 fr:Bool
 d:D
abbrev Env:=List (Option Res)
structure Xc where
 c:XC
 ds:List D
inductive R (α:Type) where
 | ok (a:α) | exc (x:Xc) | stk
@[simp] def R.bind {α β:Type}:R α->(α->R β)->R β
 | .ok a,f=>f a
 | .exc x,_=>.exc x
 | .stk,_=>.stk
instance:Monad R where
 pure:=.ok
 bind:=R.bind
@[simp] theorem R.ok_bind {α β:Type} (a:α) (f:α->R β):(R.ok a >>= f)=f a:=rfl
@[simp] theorem R.pure_bind' {α β:Type} (a:α) (f:α->R β):((pure a:R α) >>= f)=f a:=rfl
@[simp] theorem R.exc_bind {α β:Type} (x:Xc) (f:α->R β):(R.exc x >>= f)=.exc x:=rfl
@[simp] theorem R.stk_bind {α β:Type} (f:α->R β):((R.stk:R α) >>= f)=.stk:=rfl
@[simp] theorem R.pure_eq {α:Type} (a:α):(pure a:R α)=.ok a:=rfl
abbrev FE:=Env->R Res
abbrev FT:=Env->R Bool
@[simp] def sc (d:D):Res:=⟨.shr,true,d⟩
def Res.give (r:Res):R Res:=if r.k=.own then .stk else .ok ⟨.shr,r.fr,r.d⟩
def vE (i:Nat):FE:=fun ρ=>match ρ[i]? with
 | some (some e)=>.ok ⟨e.k.rd,e.fr||e.d.imm,e.d⟩
 | _=>.stk
def cE (d:D):FE:=fun _=>.ok (sc d)
def asI:D->R Int
 | .int i=>.ok i
 | _=>.stk
def asB:D->R Bool
 | .bl b=>.ok b
 | _=>.stk
def asL:D->R (List D)
 | .lst ds=>.ok ds
 | _=>.stk
def asS:D->R (List D)
 | .lst ds=>.ok ds
 | .tup ds=>.ok ds
 | _=>.stk
def i2E (C:Int->Int->Bool)(g:Int->Int->Int)(a b:FE):FE:=fun ρ=>do
 let x ← a ρ
 let y ← b ρ
 let i ← asI x.d
 let j ← asI y.d
 if C i j then .ok (sc (.int (g i j))) else .stk
def aIu (g:Int->Int->Bool)(a b:FE):FE:=fun ρ=>do
 let x ← a ρ
 let y ← b ρ
 let i ← asI x.d
 let j ← asI y.d
 .ok (sc (.bl (g i j)))
def dB (a:FE):FE:=fun ρ=>do
 let x ← a ρ
 let i ← asI x.d
 .ok (sc (.int (-i)))
def C0:Int->Int->Bool:=fun _ _=>true
def CM:Int->Int->Bool:=fun i j=>decide (i.natAbs.log2<1000000)&&decide (j.natAbs.log2<1000000)
def CD:Int->Int->Bool:=fun _ j=>decide (0<j)&&decide (j.natAbs.log2<9000)
def CP:Int->Int->Bool:=fun _ j=>decide (0<j)
def CW:Int->Int->Bool:=fun i j=>decide (0<=j)&&decide (j<=1000000)&&decide (i.natAbs<2^64)
def cR:=i2E C0 (fun i j=>i+j)
def fR:=i2E C0 (fun i j=>i-j)
def bP:=i2E CM (fun i j=>i*j)
def cH:=i2E CD (fun i j=>i/j)
def bW:=i2E CP (fun i j=>i%j)
def iM:=i2E CW (fun i j=>i^j.toNat)
def ltE:=aIu fun i j=>decide (i<j)
def gtE:=aIu fun i j=>decide (j<i)
end Mir
namespace Mir
open PySem L2
noncomputable def cut (H:Hp)(B:Addr->Prop):Hp:=fun a=>haveI:=Classical.propDecidable (B a);if B a then none else H a
theorem aO {H:Hp}{B:Addr->Prop}{a:Addr}{o:HO}:cut H B a=some o↔¬ B a/\H a=some o:=by
 unfold cut;by_cases h:B a
 · simp[h]
 · simp[h]
def stab:HO->Bool
 | .tup _=>true
 | .ext _=>true
 | .frz _ u=>stab u
 | _=>false
def Ban (fr:Bool)(H0:Hp)(B:Addr->Prop):Addr->Prop:=fun a=>B a\/(fr=true/\∃ o,H0 a=some o/\stab o=false)
noncomputable abbrev aZ (fr:Bool)(H0 H:Hp)(B:Addr->Prop):Hp:=cut H (Ban fr H0 B)
theorem jA {H:Hp}{B:Addr->Prop}:aK (cut H B) H:=fun b o e=>(aO.mp e).2
theorem eR {H H':Hp}{B B':Addr->Prop}(s:∀ b o,H b=some o->¬ B b->H' b=some o)(h:∀ b,B' b->B b\/H b=none):aK (cut H B) (cut H' B'):=fun b o e=>by
 obtain⟨n,e⟩:=aO.mp e;refine aO.mpr ⟨fun z=>?_,s b o e n⟩
 rcases h b z with h | h
 · exact n h
 · rw[h]at e;cases e
theorem aW {fr:Bool}{H0 H H':Hp}{B B':Addr->Prop}(s:∀ b o,H b=some o->¬ B b->H' b=some o)(h:∀ b,B' b->B b\/H b=none):aK (aZ fr H0 H B) (aZ fr H0 H' B') :=
 eR (fun b o e n=>s b o e fun z=>n (.inl z)) fun b z=>by
  rcases z with z | z
  · exact(h b z).imp .inl id
  · exact .inl (.inr z)
theorem iX {fr:Bool}{H0 H:Hp}{B:Addr->Prop}:aK (aZ fr H0 H B) (aZ false H0 H B) :=
 eR (fun _ _ e _=>e) fun b z=>by
  rcases z with z | ⟨z,_⟩
  · exact .inl (.inl z)
  · cases z
theorem aK.rd {H H':Hp}{a:Addr}{u:HO}(e:aK H H')(h:Rd H a u):Rd H' a u:=by
 rcases h with h | ⟨o,h⟩
 · exact .inl (e _ _ h)
 · exact .inr ⟨o,e _ _ h⟩
def clK (K:PySem.W.Frag)(c:XC):Addr:=match Ca K mainGlobals c.nm with
 | some (some (.ref C))=>C
 | _=>0
def aT0 (a C:Addr)(h:Heap):Prop:=∃ o,h.get? a=some o/\o.cls=.ref C/\PySem.W.notCls o=true
def aUm (a C dx:Addr)(h:Heap):Prop:=∃ o,h.get? a=some o/\o.cls=.ref C/\PySem.W.notCls o=true/\o.dict=some dx
def aDo (a:Addr)(p:Int)(h:Heap):Prop:=∃ mA t,h.Ns1 a mA/\mA "place" = some (.int p t)
def aDm:Nat->Str
 | 0=>"Flat"
 | _=>"Cleared"
def cL:Nat->List Str
 | 0=>["many","rows"]
 | _=>["bottom","heads","lines"]
def clO (K:PySem.W.Frag)(c:Nat):Addr:=match Ca K mainGlobals (aDm c) with
 | some (some (.ref C))=>C
 | _=>0
variable {K:PySem.W.Frag}
def aCg (K:PySem.W.Frag)(G:Hp)(c:XC)(ds:List D)(v:V):Prop:=∃ a φ,v=.ref a/\G a=some (.ext φ)/\(∀ h,φ h->aT0 a (clK K c) h)/\match ds with
 | []=>True
 | [.int p]=>∃ dx,φ=aUm a (clK K c) dx/\G dx=some (.ext (aDo dx p))
 | _=>False
theorem aCg.map {G G':Hp}{c:XC}{ds:List D}{v:V}(h:aCg K G c ds v)(f:∀ b φ,G b=some (.ext φ)->G' b=some (.ext φ)):aCg K G' c ds v:=by
 obtain⟨a,φ,h1,h2,h3,h4⟩:=h;refine⟨a,φ,h1,f _ _ h2,h3,?_⟩
 split at h4
 · trivial
 · obtain⟨dx,h5,h6⟩:=h4
   exact⟨dx,h5,f _ _ h6⟩
 · exact h4.elim
def qJ (ks:List (List Int))(kvs:List (List Key×V)):Prop:=kvs.map (·.1)=ks.map (·.map Sum.inl)
mutual
def Rep (K:PySem.W.Frag)(G:Hp):D->V->Prop
 | .non,v=>v=.non
 | .bl b,v=>v=.bl b
 | .int i,v=>v=.int i
 | .str x,v=>v=.str x
 | .lst ds,v=>∃ a xs,v=.ref a/\Rd G a (.lst xs)/\aN K G ds xs
 | .tup ds,v=>∃ a xs,v=.ref a/\G a=some (.tup xs)/\aN K G ds xs
 | .obj c ds,v=>∃ a dx fs,v=.ref a/\G a=some (.ins (clO K c) dx fs)/\fs.map (·.1)=cL c/\aN K G ds (fs.map (·.2))
 | .any,_=>True
 | .dct ks ds,v=>∃ a kvs,v=.ref a/\Rd G a (.dT kvs)/\qJ ks kvs/\aN K G ds (kvs.map (·.2))
 | .exc c ds,v=>aCg K G c ds v
def aN (K:PySem.W.Frag)(G:Hp):List D->List V->Prop
 | [],xs=>xs=[]
 | d :: r,xs=>∃ x xr,xs=x :: xr/\Rep K G d x/\aN K G r xr
end
mutual
theorem Rep.same {G G':Hp}(e:aK G G'):∀ {d:D} {v:V},Rep K G d v->Rep K G' d v
 | .non,_,h=>h
 | .bl _,_,h=>h
 | .int _,_,h=>h
 | .str _,_,h=>h
 | .lst _,_,⟨a,xs,h1,h2,h3⟩=>⟨a,xs,h1,aK.rd e h2,aN.same e h3⟩
 | .tup _,_,⟨a,xs,h1,h2,h3⟩=>⟨a,xs,h1,e _ _ h2,aN.same e h3⟩
 | .obj _ _,_,⟨a,dx,fs,h1,h2,h3,h4⟩=>⟨a,dx,fs,h1,e _ _ h2,h3,aN.same e h4⟩
 | .any,_,h=>h
 | .dct _ _,_,⟨a,xs,h1,h2,h3,h4⟩=>⟨a,xs,h1,aK.rd e h2,h3,aN.same e h4⟩
 | .exc _ _,_,h=>aCg.map h fun _ _ q=>e _ _ q
theorem aN.same {G G':Hp}(e:aK G G'):∀ {ds:List D} {vs:List V},aN K G ds vs->aN K G' ds vs
 | [],_,h=>h
 | _ :: _,_,⟨x,xr,h1,h2,h3⟩=>⟨x,xr,h1,Rep.same e h2,aN.same e h3⟩
end
theorem aN.length {G:Hp}:∀ {ds:List D} {vs:List V},aN K G ds vs->ds.length=vs.length
 | [],vs,h=>by have e:vs=[]:=h;rw[e];rfl
 | _ :: _,_,⟨x,xr,h1,_,h3⟩=>by rw[h1];simp[aN.length h3]
theorem aN.get {G:Hp}:∀ {ds:List D} {vs:List V} {i:Nat} {d:D},aN K G ds vs->ds[i]?=some d->∃ v,vs[i]?=some v/\Rep K G d v
 | [],_,_,_,_,e=>by simp at e
 | _ :: _,_,0,_,⟨x,xr,h1,h2,_⟩,e=>by simp at e;subst e;exact⟨x,by rw[h1];rfl,h2⟩
 | _ :: _,_,i+1,d,⟨x,xr,h1,_,h3⟩,e=>by
  obtain⟨v,a,b⟩:=aN.get (i:=i) (d:=d) h3 (by simpa using e)
  exact⟨v,by rw[h1];simpa using a,b⟩
theorem aN.getv {G:Hp}:∀ {ds:List D} {vs:List V} {i:Nat} {v:V},aN K G ds vs->vs[i]?=some v->∃ d,ds[i]?=some d/\Rep K G d v
 | [],_,_,_,h,e=>by rw[show _=[] from h]at e;simp at e
 | _ :: _,_,0,_,⟨x,xr,h1,h2,_⟩,e=>by subst h1;simp at e;subst e;exact⟨_,rfl,h2⟩
 | _ :: _,_,i+1,v,⟨x,xr,h1,_,h3⟩,e=>by
  subst h1;obtain⟨d,a,b⟩:=aN.getv (i:=i) (v:=v) h3 (by simpa using e)
  exact⟨d,by simpa using a,b⟩
theorem aN.of_get {G:Hp}:∀ {ds:List D} {vs:List V},ds.length=vs.length->(∀ (i:Nat) d v,ds[i]?=some d->vs[i]?=some v->Rep K G d v)->aN K G ds vs
 | [],[],_,_=>rfl
 | [],v :: vr,h,_=>absurd h (by simp)
 | d :: r,[],h,_=>absurd h (by simp)
 | d :: r,v :: vr,h,f=>⟨v,vr,rfl,f 0 d v rfl rfl,aN.of_get (by simpa using h) fun i d v a b=>f (i+1) d v (by simpa using a) (by simpa using b)⟩
theorem aN.append {G:Hp}:∀ {ds es:List D} {vs ws:List V},aN K G ds vs->aN K G es ws->aN K G (ds++es) (vs++ws)
 | [],_,_,_,h,q=>by rw[show _=[] from h];exact q
 | _ :: _,_,_,_,⟨x,xr,h1,h2,h3⟩,q=>by subst h1;exact⟨x,_,rfl,h2,aN.append h3 q⟩
theorem aN.take {G:Hp}:∀ {ds:List D} {vs:List V} (n:Nat),aN K G ds vs->aN K G (ds.take n) (vs.take n)
 | _,_,0,_=>by simp only[List.take_zero];rfl
 | [],_,_+1,h=>by rw[show _=[] from h];rfl
 | _ :: _,_,n+1,⟨x,xr,h1,h2,h3⟩=>by subst h1;exact⟨x,_,rfl,h2,aN.take n h3⟩
theorem aN.drop {G:Hp}:∀ {ds:List D} {vs:List V} (n:Nat),aN K G ds vs->aN K G (ds.drop n) (vs.drop n)
 | _,_,0,h=>h
 | [],_,_+1,h=>by rw[show _=[] from h];rfl
 | _ :: _,_,n+1,⟨x,xr,h1,_,h3⟩=>by subst h1;exact aN.drop n h3
theorem aN.set {G:Hp}{d:D}{v:V}(r:Rep K G d v):∀ {ds:List D} {vs:List V} (i:Nat),aN K G ds vs->aN K G (ds.set i d) (vs.set i v)
 | [],_,_,h=>by rw[show _=[] from h];rfl
 | _ :: _,_,0,⟨x,xr,h1,_,h3⟩=>by subst h1;exact⟨v,xr,rfl,r,h3⟩
 | _ :: _,_,i+1,⟨x,xr,h1,h2,h3⟩=>by subst h1;exact⟨x,_,rfl,h2,aN.set r i h3⟩
theorem aN.one {G:Hp}{d:D}{v:V}(r:Rep K G d v):aN K G [d] [v]:=⟨v,[],rfl,r,rfl⟩
theorem vY {H0 H:Hp}{B:Addr->Prop}{a:Addr}{o:HO}(s:aK H0 H)(st:stab o=true)(e:aZ false H0 H B a=some o):aZ true H0 H B a=some o:=by
 obtain⟨n,e⟩:=aO.mp e;refine aO.mpr ⟨fun z=>?_,e⟩
 rcases z with z | ⟨_,o',q1,q2⟩
 · exact n (.inl z)
 · rw[s a o' q1]at e;cases e;rw[st]at q2;cases q2
mutual
theorem Rep.imm {H0 H:Hp}{B:Addr->Prop}(s:aK H0 H):∀ {d:D} {v:V},d.imm=true->Rep K (aZ false H0 H B) d v->Rep K (aZ true H0 H B) d v
 | .non,_,_,h=>h
 | .bl _,_,_,h=>h
 | .int _,_,_,h=>h
 | .str _,_,_,h=>h
 | .lst _,_,i,_=>by cases i
 | .tup ds,_,i,⟨a,xs,h1,h2,h3⟩=>by
  refine⟨a,xs,h1,?_,aN.imm s (by simpa[D.imm] using i) h3⟩
  exact vY s rfl h2
 | .obj _ _,_,i,_=>by cases i
 | .any,_,i,_=>by cases i
 | .dct _ _,_,i,_=>by cases i
 | .exc _ _,_,_,h=>aCg.map h fun _ _ q=>vY s rfl q
theorem aN.imm {H0 H:Hp}{B:Addr->Prop}(s:aK H0 H):∀ {ds:List D} {vs:List V},D.imms ds=true->aN K (aZ false H0 H B) ds vs->aN K (aZ true H0 H B) ds vs
 | [],_,_,h=>h
 | d :: r,_,i,⟨x,xr,h1,h2,h3⟩=>by
  have i':d.imm=true/\D.imms r=true:=by simpa[D.imms] using i
  exact⟨x,xr,h1,Rep.imm s i'.1 h2,aN.imm s i'.2 h3⟩
end
theorem Rep.fr {H0 H:Hp}{B:Addr->Prop}{fr:Bool}{d:D}{v:V}(s:aK H0 H)(h:Rep K (aZ fr H0 H B) d v):Rep K (aZ (fr||d.imm) H0 H B) d v:=by
 cases fr with
 | true=>exact h
 | false =>
  cases e:d.imm with
  | false=>exact h
  | true=>exact Rep.imm s e h
def fX (K:PySem.W.Frag)(G:Hp)(d:D)(o:HO):Prop:=match d with
 | .lst ds=>∃ vs,o=.lst vs/\aN K G ds vs
 | .dct ks ds=>∃ kvs,o=.dT kvs/\qJ ks kvs/\aN K G ds (kvs.map (·.2))
 | _=>False
theorem fX.same {G G':Hp}(e:aK G G'){d:D}{o:HO}(h:fX K G d o):fX K G' d o:=by
 cases d with
 | lst ds=>obtain⟨vs,h1,h2⟩:=h;exact⟨vs,h1,aN.same e h2⟩
 | dct ks ds=>obtain⟨kvs,h1,h2,h3⟩:=h;exact⟨kvs,h1,h2,aN.same e h3⟩
 | _=>exact h.elim
theorem fX.con {G:Hp}{d:D}{o:HO}(h:fX K G d o):d.con=true:=by
 cases d with
 | lst ds=>rfl
 | dct ks ds=>rfl
 | _=>exact h.elim
theorem fX.imm {G:Hp}{d:D}{o:HO}(h:fX K G d o):d.imm=false:=by
 cases d with
 | lst ds=>rfl
 | dct ks ds=>rfl
 | _=>exact h.elim
theorem fX.stab {G:Hp}{d:D}{o:HO}(h:fX K G d o):stab o=false:=by
 cases d with
 | lst ds=>obtain⟨vs,h1,h2⟩:=h;subst h1;rfl
 | dct ks ds=>obtain⟨kvs,h1,h2,h3⟩:=h;subst h1;rfl
 | _=>exact h.elim
theorem fX.lst {G:Hp}{ds:List D}{vs:List V}(h:aN K G ds vs):fX K G (.lst ds) (.lst vs):=⟨vs,rfl,h⟩
theorem fX.rep {G G':Hp}{a:Addr}{d:D}{o:HO}(h:fX K G d o)(e:aK G G')(q:G' a=some o):Rep K G' d (.ref a):=by
 cases d with
 | lst ds=>obtain⟨vs,h1,h2⟩:=h;subst h1;exact⟨a,vs,rfl,Rd.of q,aN.same e h2⟩
 | dct ks ds=>obtain⟨kvs,h1,h2,h3⟩:=h;subst h1;exact⟨a,kvs,rfl,Rd.of q,h2,aN.same e h3⟩
 | _=>exact h.elim
def nU (K:PySem.W.Frag)(H0 H:Hp)(B:Addr->Prop)(v:V)(e:Res):Prop :=
 match e.k with
 | .shr=>Rep K (aZ e.fr H0 H B) e.d v
 | .own=>∃ a o,v=.ref a/\B a/\H0 a=none/\H a=some o/\fX K (aZ e.fr H0 H B) e.d o
 | .tmp=>False
 | .old=>e.fr=false/\Rep K (cut H0 B) e.d v
structure DenE (K:PySem.W.Frag)(H0 H:Hp)(B:Addr->Prop)(σ:St)(ρ:Env):Prop where
 len:ρ.length=σ.length
 sam:aK H0 H
 bnd:∀ b,B b->∃ o,H b=some o/\stab o=false
 ent:∀ (i:Nat) (e:Res),ρ[i]?=some (some e)->∃ v,σ[i]?=some (some v)/\nU K H0 H B v e
def aP (K:PySem.W.Frag)(H0 H H':Hp)(B:Addr->Prop)(v:V)(r:Res):Prop :=
 match r.k with
 | .shr=>Rep K (aZ r.fr H0 H' B) r.d v
 | .own=>∃ a o,v=.ref a/\B a/\H0 a=none/\H' a=some o/\fX K (aZ r.fr H0 H' B) r.d o
 | .tmp=>∃ a o,v=.ref a/\H a=none/\H' a=some o/\fX K (aZ r.fr H0 H' fun b=>B b\/b=a) r.d o
 | .old=>False
section
variable {H0 H H' H'':Hp}{B B':Addr->Prop}{v:V}{r e:Res}{σ:St}{ρ:Env}
theorem nU.mono (g:nU K H0 H B v e)(s:aK H H'):nU K H0 H' B v e:=by
 unfold nU at g ⊢;have m:∀ fr,aK (aZ fr H0 H B) (aZ fr H0 H' B):=fun fr=>aW (fun b o e _=>s b o e) fun b z=>.inl z;cases k:e.k with
 | shr=>rw[k]at g;exact Rep.same (m _) g
 | own=>rw[k]at g;obtain⟨a,o,h1,h2,h3,h4,h5⟩:=g;exact⟨a,o,h1,h2,h3,s _ _ h4,h5.same (m _)⟩
 | tmp=>rw[k]at g;exact g
 | old=>rw[k]at g;exact g
theorem DenE.mono (d:DenE K H0 H B σ ρ)(s:aK H H'):DenE K H0 H' B σ ρ :=
 ⟨d.len,d.sam.trans s,fun b h=>let ⟨o,e,n⟩:=d.bnd b h;⟨o,s _ _ e,n⟩,fun i e h=>let ⟨v,a,g⟩:=d.ent i e h;⟨v,a,g.mono s⟩⟩
theorem aP.mono (g:aP K H0 H H' B v r)(s:aK H' H''):aP K H0 H H'' B v r:=by
 unfold aP at g ⊢;have m:∀ fr (B:Addr->Prop),aK (aZ fr H0 H' B) (aZ fr H0 H'' B):=fun fr B=>aW (fun b o e _=>s b o e) fun b z=>.inl z;cases k:r.k with
 | shr=>rw[k]at g;exact Rep.same (m _ _) g
 | own=>rw[k]at g;obtain⟨a,o,h1,h2,h3,h4,h5⟩:=g;exact⟨a,o,h1,h2,h3,s _ _ h4,h5.same (m _ _)⟩
 | tmp=>rw[k]at g;obtain⟨a,o,h1,h2,h3,h4⟩:=g;exact⟨a,o,h1,h2,s _ _ h3,h4.same (m _ _)⟩
 | old=>rw[k]at g;exact g
theorem aP.sc {d:D}(h:Rep K (aZ true H0 H' B) d v):aP K H0 H H' B v (sc d):=h
theorem aP.con (g:aP K H0 H H' B v r)(e:r.k≠.shr):∃ a o,v=.ref a/\H' a=some o/\fX K (aZ r.fr H0 H' B) r.d o:=by
 unfold aP at g;cases k:r.k with
 | shr=>exact absurd k e
 | own=>rw[k]at g;obtain⟨a,o,h1,_,_,h4,h5⟩:=g;exact⟨a,o,h1,h4,h5⟩
 | tmp=>rw[k]at g;obtain⟨a,o,h1,_,h3,h4⟩:=g;exact⟨a,o,h1,h3,h4.same (aW (fun b o e _=>e) fun b z=>.inl (.inl z))⟩
 | old=>rw[k]at g;exact g.elim
theorem aP.list {ds:List D}(g:aP K H0 H H' B v r)(e:r.d=.lst ds):∃ a xs,v=.ref a/\Rd H' a (.lst xs)/\aN K (aZ r.fr H0 H' B) ds xs:=by
 by_cases k:r.k=.shr
 · unfold aP at g
   rw[k,e]at g;obtain⟨a,xs,h1,h2,h3⟩:=g;exact⟨a,xs,h1,aK.rd jA h2,h3⟩
 · obtain⟨a,o,h1,h2,h3⟩:=g.con k
   rw[e]at h3;obtain⟨vs,h4,h5⟩:=h3;subst h4;exact⟨a,vs,h1,Rd.of h2,h5⟩
theorem aP.shr_of (g:aP K H0 H H' B v r)(h:r.d.con=false):Rep K (aZ r.fr H0 H' B) r.d v:=by
 by_cases k:r.k=.shr
 · unfold aP at g
   rw[k]at g;exact g
 · obtain⟨a,o,h1,h2,h3⟩:=g.con k
   rw[h3.con]at h;cases h
theorem aP.int {i:Int}(g:aP K H0 H H' B v r)(e:r.d=.int i):v=.int i:=by
 have:=g.shr_of (by rw[e];rfl)
 rw[e]at this;exact this
theorem aP.bl {b:Bool}(g:aP K H0 H H' B v r)(e:r.d=.bl b):v=.bl b:=by
 have:=g.shr_of (by rw[e];rfl)
 rw[e]at this;exact this
theorem aP.tuple {ds:List D}(g:aP K H0 H H' B v r)(e:r.d=.tup ds):∃ a xs,v=.ref a/\H' a=some (.tup xs)/\aN K (aZ r.fr H0 H' B) ds xs:=by
 have:=g.shr_of (by rw[e];rfl)
 rw[e]at this;obtain⟨a,xs,h1,h2,h3⟩:=this;exact⟨a,xs,h1,jA _ _ h2,h3⟩
theorem aP.give {r':Res}(den:DenE K H0 H B σ ρ)(g:aP K H0 H H' B v r)(e:r.give=.ok r'):r'=⟨.shr,r.fr,r.d⟩/\Rep K (aZ r.fr H0 H' B) r.d v:=by
 unfold Res.give at e;unfold aP at g;cases k:r.k with
 | shr=>rw[k]at g e;simp at e;exact⟨e.symm,g⟩
 | own=>rw[k]at e;simp at e
 | old=>rw[k]at g;exact g.elim
 | tmp =>
  rw[k]at g e;simp at e
  obtain⟨a,o,h1,h2,h3,h4⟩:=g;refine⟨e.symm,?_⟩
  subst h1;refine h4.rep (aW (fun b o e _=>e) fun b z=>.inl (.inl z)) (aO.mpr ⟨fun z=>?_,h3⟩)
  rcases z with z | ⟨_,o,z,_⟩
  · obtain⟨o,q,_⟩:=den.bnd a z;rw[h2]at q;cases q
  · rw[den.sam _ _ z]at h2;cases h2
theorem nU.res (s:aK H0 H)(g:nU K H0 H B v e):aP K H0 H H B v ⟨e.k.rd,e.fr||e.d.imm,e.d⟩:=by
 unfold nU at g;unfold aP;cases k:e.k with
 | shr=>rw[k]at g;exact Rep.fr s g
 | own =>
  rw[k]at g;obtain⟨a,o,h1,h2,h3,h4,h5⟩:=g;refine⟨a,o,h1,h2,h3,h4,?_⟩
  rw[h5.imm,Hu];exact h5
 | tmp=>rw[k]at g;exact g.elim
 | old =>
  rw[k]at g;refine Rep.fr s (Rep.same ?_ g.2)
  rw[g.1];intro b o q;obtain⟨n,q⟩:=aO.mp q;refine aO.mpr ⟨fun z=>?_,s b o q⟩
  rcases z with z | ⟨z,_⟩
  · exact n z
  · cases z
end
structure XP where
 p:Xc->St->Hp->Prop
 mono:∀ {x:Xc} {σ:St} {H H':Hp},p x σ H->aK H H'->p x σ H'
def XP0:XP:=⟨fun _ _ _=>False,fun h _=>h⟩
def tE (K:PySem.W.Frag)(P:XP)(f:FE):TE:=fun σ H Q=>∃ H0 B ρ,DenE K H0 H B σ ρ/\match f ρ with
 | .ok r=>∀ v H',aK H H'->aP K H0 H H' B v r->Q v H'
 | .exc x=>P.p x σ H
 | .stk=>False
def tT (K:PySem.W.Frag)(P:XP)(f:FT):TT:=fun σ H Q=>∃ H0 B ρ,DenE K H0 H B σ ρ/\match f ρ with
 | .ok b=>∀ H',aK H H'->Q b H'
 | .exc x=>P.p x σ H
 | .stk=>False
theorem PE.imp {X:Cx}{e:Expr}{t t':TE}(p:PE X e t)(h:∀ σ H Q,t' σ H Q->t σ H Q):PE X e t':=fun pins s σ H Q I q=>p pins s σ H Q I (h σ H Q q)
theorem PT.imp {X:Cx}{e:Expr}{t t':TT}(p:PT X e t)(h:∀ σ H Q,t' σ H Q->t σ H Q):PT X e t':=fun pins s σ H Q I q=>p pins s σ H Q I (h σ H Q q)
theorem fO {X:Cx}{P:XP}{f:FE}{H0 H:Hp}{B:Addr->Prop}{σ:St}{ρ:Env}{Q:VK}{r:Res}(d:DenE X.K H0 H B σ ρ)(e:f ρ=.ok r)
 (h:∀ v H',aK H H'->DenE X.K H0 H' B σ ρ->aP X.K H0 H H' B v r->Q v H'):tE X.K P f σ H Q :=
 ⟨H0,B,ρ,d,by rw[e];exact fun v H' s g=>h v H' s (d.mono s) g⟩
theorem dR {X:Cx}{P:XP}{f:FE}{H0 H:Hp}{B:Addr->Prop}{σ:St}{ρ:Env}{Q:VK}{x:Xc}(d:DenE X.K H0 H B σ ρ)(e:f ρ=.exc x)(h:P.p x σ H):tE X.K P f σ H Q :=
 ⟨H0,B,ρ,d,by rw[e];exact h⟩
end Mir
namespace Mir
open PySem
abbrev FEs:=List FE
def evs:FEs->Env->R (List Res)
 | [],_=>.ok []
 | f :: r,ρ=>do
  let x ← f ρ
  let xs ← evs r ρ
  .ok (x :: xs)
def gives:List Res->R (Bool×List D)
 | []=>.ok (true,[])
 | r :: rs=>do
  let x ← r.give
  let y ← gives rs
  .ok (x.fr&&y.1,x.d :: y.2)
def cF (fs:FEs):FE:=fun ρ=>do
 let rs ← evs fs ρ
 let y ← gives rs
 if y.2.length<=sizeLine then .ok ⟨.tmp,y.1,.lst y.2⟩ else .stk
def bJ (a:FE):FE:=fun ρ=>do
 let x ← a ρ
 let ds ← asS x.d
 .ok (sc (.int ds.length))
def aT (a i:FE):FE:=fun ρ=>do
 let x ← a ρ
 let y ← i ρ
 let ds ← asS x.d
 let j ← asI y.d
 match L2.atI ds j with
 | some d=>.ok ⟨.shr,x.fr||d.imm,d⟩
 | none=>.stk
def tH (a:FE):FE:=fun ρ=>do
 let x ← a ρ
 let ds ← asS x.d
 .ok ⟨.tmp,x.fr,.lst ds⟩
def kG (a b:FE):FE:=fun ρ=>do
 let x ← a ρ
 let y ← b ρ
 let xs ← asL x.d
 let ys ← asL y.d
 if xs.length+ys.length<=sizeLine then .ok ⟨.tmp,x.fr&&y.fr,.lst (xs++ys)⟩ else .stk
def uM (xs:List D)(lo hi:Option Int):List D:=(xs.drop (HT.sIx xs.length 0 lo)).take (HT.sIx xs.length xs.length hi-HT.sIx xs.length 0 lo)
abbrev FO:=Env->R (Option Int)
def noO:FO:=fun _=>.ok none
def soO (a:FE):FO:=fun ρ=>do
 let x ← a ρ
 let i ← asI x.d
 .ok (some i)
def fH (a:FE)(lo hi:FO):FE:=fun ρ=>do
 let x ← a ρ
 let l ← lo ρ
 let h ← hi ρ
 let ds ← asL x.d
 .ok ⟨.tmp,x.fr,.lst (uM ds l h)⟩
mutual
def fY:D->Option PyData
 | .non=>some .none
 | .bl b=>some (.bool b)
 | .int i=>some (.int i)
 | .str x=>some (.str x)
 | .lst ds=>(lY ds).map .list
 | .tup ds=>(lY ds).map .tuple
 | _=>none
def lY:List D->Option (List PyData)
 | []=>some []
 | d :: r=>(fY d).bind fun p=>(lY r).map (p :: ·)
end
def nF (x y:D):R Bool:=match fY x,fY y with
 | some p,some q=>if SeqAt.shaped p&&SeqAt.shaped q then .ok (PyData.eqv p q) else .stk
 | _,_=>.stk
def eqE (a b:FE):FE:=fun ρ=>do
 let x ← a ρ
 let y ← b ρ
 let t ← nF x.d y.d
 .ok (sc (.bl t))
def neE (a b:FE):FE:=fun ρ=>do
 let x ← a ρ
 let y ← b ρ
 let t ← nF x.d y.d
 .ok (sc (.bl (!t)))
def bT (a:FE):FT:=fun ρ=>do
 let x ← a ρ
 asB x.d
def iB (t u:FT):FT:=fun ρ=>do
 let b ← t ρ
 if b then u ρ else .ok false
def orT (t u:FT):FT:=fun ρ=>do
 let b ← t ρ
 if b then .ok true else u ρ
def aF8 (a b:FE):FE:=fun ρ=>do
 let x ← a ρ
 let t ← asB x.d
 if t then b ρ else .ok (sc (.bl false))
def ifE (t:FT)(a b:FE):FE:=fun ρ=>do
 let c ← t ρ
 if c then a ρ else b ρ
structure Its where
 st:Bool
 fr:Bool
 ds:List D
abbrev FI:=Env->R Its
def bV (a:FE):FI:=fun ρ=>do
 let x ← a ρ
 let ds ← asL x.d
 .ok ⟨x.k != .own,x.fr,ds⟩
def aVg (a:FE):FI:=fun ρ=>do
 let x ← a ρ
 match x.d with
 | .tup ds=>.ok ⟨true,x.fr,ds⟩
 | _=>.stk
def kS (lo:Int)(n:Nat):List D:=(Bf n).map fun (i:Nat)=>.int (lo+(i:Int))
def dW (a:FE):FI:=fun ρ=>do
 let x ← a ρ
 let j ← asI x.d
 if -(2^62)<=j/\j<2^62 then .ok ⟨true,true,kS 0 j.toNat⟩ else .stk
def gY (a b:FE):FI:=fun ρ=>do
 let x ← a ρ
 let y ← b ρ
 let i ← asI x.d
 let j ← asI y.d
 if -(2^62)<=i/\i<2^62/\-(2^62)<=j/\j<2^62 then .ok ⟨true,true,kS i (j-i).toNat⟩ else .stk
def mV:List D->List D->List D:=List.zipWith fun a b=>.tup [a,b]
def mI (a b:FE):FI:=fun ρ=>do
 let x ← a ρ
 let y ← b ρ
 let xs ← asL x.d
 let ys ← asL y.d
 .ok ⟨x.k != .own&&y.k != .own,x.fr&&y.fr,mV xs ys⟩
inductive Tg where
 | nm (i:Nat) | tp (ts:List Tg)
mutual
def Tg.bind (fr:Bool):Tg->D->Env->R Env
 | .nm i,d,ρ=>.ok (ρ.set i (some ⟨.shr,fr,d⟩))
 | .tp ts,.tup ds,ρ=>Tg.binds fr ts ds ρ
 | .tp _,_,_=>.stk
def Tg.binds (fr:Bool):List Tg->List D->Env->R Env
 | [],[],ρ=>.ok ρ
 | t :: ts,d :: ds,ρ=>do
  let ρ1 ← Tg.bind fr t d ρ
  Tg.binds fr ts ds ρ1
 | _,_,_=>.stk
end
def eW (k:Nat)(fs:List Nat)(ρ:Env):Env:=Ao k none++fs.map fun i=>(ρ[i]?).join
abbrev FB:=Env->R (Option Res)
def bE (f:FE):FB:=fun ρ=>do
 let x ← f ρ
 .ok (some x)
def bIf (t:FT)(f:FE):FB:=fun ρ=>do
 let c ← t ρ
 if c then (do let x ← f ρ;.ok (some x)) else .ok none
def iT (tg:Tg)(b:FB)(fr:Bool)(ρ:Env):List D->R (Bool×List D)
 | []=>.ok (true,[])
 | d :: r=>do
  let ρ1 ← tg.bind fr d ρ
  match b ρ1 with
  | .ok (some x)=>do
   let x' ← x.give
   let y ← iT tg b fr ρ r
   .ok (x'.fr&&y.1,x'.d :: y.2)
  | .ok none=>iT tg b fr ρ r
  | _=>.stk
def aS (it:FI)(k:Nat)(fs:List Nat)(tg:Tg)(b:FB):FE:=fun ρ=>do
 let x ← it ρ
 let y ← iT tg b x.fr (eW k fs ρ) x.ds
 if x.ds.length<=sizeLine then .ok ⟨.tmp,y.1,.lst y.2⟩ else .stk
abbrev Φ:=List D->R Res
def aL (φ:Φ)(fs:FEs):FE:=fun ρ=>do
 let rs ← evs fs ρ
 let r ← φ (rs.map (·.d))
 if r.fr=true then .ok ⟨if r.k=.shr then .shr else .tmp,true,r.d⟩ else do
  let y ← gives rs
  .ok ⟨if r.k=.shr then .shr else .tmp,y.1,r.d⟩
inductive RS where
 | nx (ρ:Env) | rt (r:Res) | bk (ρ:Env) | ct (ρ:Env) | exc (x:Xc) (ρ:Env) | stk
abbrev FS:=Env->RS
def R.at (r:R α)(ρ:Env)(k:α->RS):RS:=match r with
 | .ok a=>k a
 | .exc x=>.exc x ρ
 | .stk=>.stk
def cG:FS:=.nx
def aI (s t:FS):FS:=fun ρ=>match s ρ with
 | .nx ρ1=>t ρ1
 | r=>r
def Res.keep (r:Res):R Res:=match r.k with
 | .shr=>.ok r
 | .tmp=>.ok ⟨.own,r.fr,r.d⟩
 | .own=>.stk
 | .old=>.stk
def aC (i:Nat)(f:FE):FS:=fun ρ=>(f ρ).at ρ fun r=>(r.keep).at ρ fun e=>.nx (ρ.set i (some e))
def kP (f:FE):FS:=fun ρ=>(f ρ).at ρ fun _=>.nx ρ
def bS (f:FE):FS:=fun ρ=>(f ρ).at ρ fun r=>.rt ⟨if r.k=.shr then .shr else .tmp,r.fr,r.d⟩
def ifS (t:FT)(a b:FS):FS:=fun ρ=>(t ρ).at ρ fun c=>if c then a ρ else b ρ
def frz (i:Nat)(ρ:Env):Env:=match ρ[i]? with
 | some (some e)=>ρ.set i (some ⟨.shr,e.fr,e.d⟩)
 | _=>ρ
def cN (i:Nat)(s:FS):FS:=fun ρ=>s (frz i ρ)
def nJ (i:Nat)(ρ:Env):R (Bool×List D):=match ρ[i]? with
 | some (some ⟨.own,fr,.lst ds⟩)=>.ok (fr,ds)
 | _=>.stk
def jY (i:Nat)(f:FE):FS:=fun ρ=>(nJ i ρ).at ρ fun y=>(f ρ).at ρ fun r=>(r.give).at ρ fun x =>
 if y.2.length<sizeLine then .nx (ρ.set i (some ⟨.own,y.1&&x.fr,.lst (y.2++[x.d])⟩)) else .stk
def gH (i:Nat)(j f:FE):FS:=fun ρ=>(f ρ).at ρ fun r=>(r.give).at ρ fun x=>(nJ i ρ).at ρ fun y=>(j ρ).at ρ fun jr=>(asI jr.d).at ρ fun k =>
 match L2.ixN y.2.length k with
 | some n=>.nx (ρ.set i (some ⟨.own,y.1&&x.fr,.lst (y.2.set n x.d)⟩))
 | none=>.stk
def fZ (tg:Tg)(b:FS)(fr:Bool):List D->FS
 | [],ρ=>.nx ρ
 | d :: r,ρ=>(tg.bind fr d ρ).at ρ fun ρ1=>match b ρ1 with
  | .nx ρ2=>fZ tg b fr r ρ2
  | .ct ρ2=>fZ tg b fr r ρ2
  | .bk ρ2=>.nx ρ2
  | o=>o
def dY (it:FI)(tg:Tg)(b:FS):FS:=fun ρ=>(it ρ).at ρ fun x=>if x.st then fZ tg b x.fr x.ds ρ else .stk
def pU (t:FT)(b:FS):Nat->FS
 | 0,_=>.stk
 | n+1,ρ=>(t ρ).at ρ fun c=>if c then (match b ρ with
  | .nx ρ2=>pU t b n ρ2
  | .ct ρ2=>pU t b n ρ2
  | .bk ρ2=>.nx ρ2
  | o=>o) else .nx ρ
def aRc (t:FT)(b:FS):FS:=fun ρ=>pU t b (2^64) ρ
def stE (n:Nat)(ds:List D):Env:=ds.map (fun d=>some ⟨.shr,false,d⟩)++Ao (n-ds.length) none
def bY (np n:Nat)(s:FS):Φ:=fun ds=>if ds.length=np then (match s (stE n ds) with
 | .nx _=>.ok (sc .non)
 | .rt r=>.ok ⟨r.k,r.fr||r.d.imm,r.d⟩
 | .exc x _=>.exc x
 | _=>.stk) else .stk
end Mir
namespace Mir
open PySem L2
variable {X:Cx}{P:XP}{a b c:Expr}{f g:FE}{pos:Pos}
theorem aVe {i:Nat}{x:Str}(hN:X.N[i]?=some x)(hv:Vis X.env.scope x)(hd:(x==("__debug__":Str))=false:=by decide)(hcd:(x==("__classdict__":Str))=false:=by decide):PE X (.Name x pos) (tE X.K P (vE i)):=by
 refine PE.imp (mR hN hv hd hcd) ?_
 rintro σ H Q ⟨H0,B,ρ,d,h⟩
 unfold vE at h;cases e:ρ[i]? with
 | none=>rw[e]at h;exact h.elim
 | some o =>
  cases o with
  | none=>rw[e]at h;exact h.elim
  | some r =>
   rw[e]at h;obtain⟨v,hv,gd⟩:=d.ent i r e;exact⟨v,hv,h v H (aK.refl H) (gd.res d.sam)⟩
theorem m_v (i:Nat){x:Str}(hN:X.N[i]?=some x:=by rfl)(hv:Vis X.env.scope x:=by first | exact Or.inl rfl | exact Or.inr (Or.inl rfl) | exact Or.inr (Or.inr rfl))(hd:(x==("__debug__":Str))=false:=by decide)
 (hcd:(x==("__classdict__":Str))=false:=by decide):PE X (.Name x pos) (tE X.K P (vE i)):=aVe hN hv hd hcd
theorem m_c {d:D}{v:V}{e:Expr}(h:PE X e (tC v))(r:∀ G,Rep X.K G d v):PE X e (tE X.K P (cE d)):=by
 refine PE.imp h ?_
 rintro σ H Q ⟨H0,B,ρ,den,h⟩
 exact h v H (aK.refl H) (r _)
theorem aD {i:Int}{j pos}:PE X (.Constant (.int i) j pos) (tE X.K P (cE (.int i))):=m_c aQq fun _=>rfl
theorem aUw {b:Bool}{j pos}:PE X (.Constant (.bool b) j pos) (tE X.K P (cE (.bl b))):=m_c aR5 fun _=>rfl
theorem cQ {d:D}{i:Int}(h:asI d=.ok i):d=.int i:=by cases d<;>simp[asI]at h;rw[h]
theorem cA {d:D}{x:Xc}(h:asI d=.exc x):False:=by cases d<;>simp[asI]at h
theorem aI9 {d:D}{i:Bool}(h:asB d=.ok i):d=.bl i:=by cases d<;>simp[asB]at h;rw[h]
theorem aDx {d:D}{x:Xc}(h:asB d=.exc x):False:=by cases d<;>simp[asB]at h
theorem dQ {d:D}{i:List D}(h:asL d=.ok i):d=.lst i:=by cases d<;>simp[asL]at h;rw[h]
theorem eK {d:D}{x:Xc}(h:asL d=.exc x):False:=by cases d<;>simp[asL]at h
theorem aIh {d:D}{i:List D}(h:asS d=.ok i):d=.lst i\/d=.tup i:=by cases d<;>simp[asS]at h<;>simp[h]
theorem oJ {d:D}{x:Xc}(h:asS d=.exc x):False:=by cases d<;>simp[asS]at h
theorem t1 {k:Res->R Res}{σ:St}{H:Hp}{Q:VK}{q:VK}(h:tE X.K P (fun ρ=>f ρ >>= k) σ H Q)
 (hk:∀ H0 B ρ v H' r,DenE X.K H0 H' B σ ρ->aP X.K H0 H H' B v r->aK H H'->(match k r with
  | .ok r1=>∀ v1 H1,aK H' H1->aP X.K H0 H H1 B v1 r1->Q v1 H1
  | .exc x=>P.p x σ H'
  | .stk=>False)->q v H'):tE X.K P f σ H q:=by
 obtain⟨H0,B,ρ,d,h⟩:=h;cases e:f ρ with
 | stk=>simp[e]at h
 | exc x=>simp[e]at h;exact dR d e h
 | ok r =>
  simp[e]at h
  refine fO d e fun v H' s d' gd=>hk H0 B ρ v H' r d' gd s ?_
  cases e2:k r with
  | stk=>rw[e2]at h;exact h
  | exc x=>rw[e2]at h;exact P.mono h s
  | ok r1=>rw[e2]at h;exact fun v1 H1 s1 g1=>h v1 H1 (s.trans s1) g1
theorem t2 {k:Res->Res->R Res}{σ:St}{H:Hp}{Q:VK}{q:V->V->Hp->Prop}(h:tE X.K P (fun ρ=>f ρ >>= fun x=>g ρ >>= fun y=>k x y) σ H Q)
 (hk:∀ H0 B ρ v w H' r r',DenE X.K H0 H' B σ ρ->aP X.K H0 H H' B v r->aP X.K H0 H H' B w r'->aK H H'->(match k r r' with
  | .ok r1=>∀ v1 H1,aK H' H1->aP X.K H0 H H1 B v1 r1->Q v1 H1
  | .exc x=>P.p x σ H'
  | .stk=>False)->q v w H'):tE X.K P f σ H fun v H1=>tE X.K P g σ H1 fun w H2=>q v w H2:=by
 obtain⟨H0,B,ρ,d,h⟩:=h;cases e:f ρ with
 | stk=>simp[e]at h
 | exc x=>simp[e]at h;exact dR d e h
 | ok r =>
  simp[e]at h
  refine fO d e fun v H1 s1 d1 g1=>?_
  cases e2:g ρ with
  | stk=>simp[e2]at h
  | exc x=>simp[e2]at h;exact dR d1 e2 (P.mono h s1)
  | ok r' =>
   simp[e2]at h
   refine fO d1 e2 fun w H2 s2 d2 g2=>hk H0 B ρ v w H2 r r' d2 (g1.mono s2) ?_ (s1.trans s2) ?_
   · unfold aP at g2 ⊢
     cases k:r'.k with
     | shr=>rw[k]at g2;exact g2
     | own=>rw[k]at g2;exact g2
     | tmp=>rw[k]at g2;obtain⟨a,o,h1,h2,h3⟩:=g2;exact⟨a,o,h1,s1.none h2,h3⟩
     | old=>rw[k]at g2;exact g2
   · cases e3:k r r' with
     | stk=>rw[e3]at h;exact h
     | exc x=>rw[e3]at h;exact P.mono h (s1.trans s2)
     | ok r1=>rw[e3]at h;exact fun v1 H3 s3 g3=>h v1 H3 ((s1.trans s2).trans s3) g3
theorem aCn {op:Operator}{C:Int->Int->Bool}{C':Int->Int->Prop}{G:Int->Int->Int}(ho:OpR X (binaryOp op) (rI C' fun i j=>.int (G i j)))(hC:∀ i j,C i j=true->C' i j)(ha:PE X a (tE X.K P f))(hb:PE X b (tE X.K P g)) :
 PE X (.BinOp a op b pos) (tE X.K P (i2E C G f g)):=by
 refine PE.imp (aJp ho ha hb) ?_
 intro σ H Q h;refine t2 (q:=fun x y H2=>rI C' (fun i j=>.int (G i j)) x y H2 Q) h ?_
 intro H0 B ρ v w H' r r' d g1 g2 s h;cases e1:asI r.d with
 | stk=>simp[e1]at h
 | exc x=>exact(cA e1).elim
 | ok i =>
  cases e2:asI r'.d with
  | stk=>simp[e1,e2]at h
  | exc x=>exact(cA e2).elim
  | ok j =>
   simp only[e1,e2,R.ok_bind]at h;by_cases hc:C i j=true
   · rw[if_pos hc]at h
     exact⟨i,j,g1.int (cQ e1),g2.int (cQ e2),hC i j hc,h _ H' (aK.refl _) (aP.sc (show Rep _ _ (.int (G i j)) _ from rfl))⟩
   · rw[if_neg hc]at h;exact h.elim
theorem aOb {G:Int->Int->Int}{F:Value->Value->Sem Value}(h:OpR X F (rI0 fun i j=>.int (G i j))):OpR X F (rI (fun _ _=>True) fun i j=>.int (G i j)) :=
 fun pins s σ H x y v u Q I rx ry ⟨i,j,e1,e2,_,q⟩=>h pins s σ H x y v u Q I rx ry ⟨i,j,e1,e2,q⟩
theorem iG (ha:PE X a (tE X.K P f))(hb:PE X b (tE X.K P g)):PE X (.BinOp a .Add b pos) (tE X.K P (cR f g)):=aCn (aOb aOv) (fun _ _ _=>trivial) ha hb
theorem pS (ha:PE X a (tE X.K P f))(hb:PE X b (tE X.K P g)):PE X (.BinOp a .Sub b pos) (tE X.K P (fR f g)):=aCn (aOb aOn) (fun _ _ _=>trivial) ha hb
theorem fJ (ha:PE X a (tE X.K P f))(hb:PE X b (tE X.K P g)):PE X (.BinOp a .Mult b pos) (tE X.K P (bP f g)):=aCn aKq (fun i j h=>by
 unfold CM at h;simp at h;exact h) ha hb
theorem hJ (ha:PE X a (tE X.K P f))(hb:PE X b (tE X.K P g)):PE X (.BinOp a .FloorDiv b pos) (tE X.K P (cH f g)):=aCn aI6 (fun i j h=>by
 unfold CD at h;simp at h;exact h) ha hb
theorem fP (ha:PE X a (tE X.K P f))(hb:PE X b (tE X.K P g)):PE X (.BinOp a .Mod b pos) (tE X.K P (bW f g)):=aCn aQe (fun i j h=>by
 unfold CP at h;simp at h;exact h) ha hb
theorem sR (ha:PE X a (tE X.K P f))(hb:PE X b (tE X.K P g)):PE X (.BinOp a .Pow b pos) (tE X.K P (iM f g)):=aCn aOt (fun i j h=>by
 unfold CW at h;simp at h;exact⟨h.1.1,h.1.2,h.2⟩) ha hb
theorem lR (ha:PE X a (tE X.K P f)):PE X (.UnaryOp .USub a pos) (tE X.K P (dB f)):=by
 refine PE.imp (aTj aPk ha) ?_
 intro σ H Q h;refine t1 (q:=fun x H2=>rU (fun i=>.int (-i)) x H2 Q) h ?_
 intro H0 B ρ v H' r d g1 s h;cases e1:asI r.d with
 | stk=>simp[e1]at h
 | exc x=>exact(cA e1).elim
 | ok i =>
  simp only[e1,R.ok_bind]at h;exact⟨i,g1.int (cQ e1),h _ H' (aK.refl _) (aP.sc (show Rep _ _ (.int (-i)) _ from rfl))⟩
theorem aGq {G:Int->Int->Bool}(σ:St)(H:Hp)(Q:VK)(h:tE X.K P (aIu G f g) σ H Q):tOp (rI0 fun i j=>.bl (G i j)) (tE X.K P f) (tE X.K P g) σ H Q:=by
 refine t2 (q:=fun x y H2=>rI0 (fun i j=>.bl (G i j)) x y H2 Q) h ?_
 intro H0 B ρ v w H' r r' d g1 g2 s h;cases e1:asI r.d with
 | stk=>simp[e1]at h
 | exc x=>exact(cA e1).elim
 | ok i =>
  cases e2:asI r'.d with
  | stk=>simp[e1,e2]at h
  | exc x=>exact(cA e2).elim
  | ok j =>
   simp only[e1,e2,R.ok_bind]at h;exact⟨i,j,g1.int (cQ e1),g2.int (cQ e2),h _ H' (aK.refl _) (aP.sc (show Rep _ _ (.bl (G i j)) _ from rfl))⟩
mutual
theorem Rep.has {G H:Hp}(s:aK G H):∀ {d:D} {p:PyData} {v:V},fY d=some p->Rep X.K G d v->Has X.K H v p
 | .non,_,_,e,h=>by simp[fY]at e;subst e;rw[show _=V.non from h];exact .non
 | .bl b,_,_,e,h=>by simp[fY]at e;subst e;rw[show _=V.bl b from h];exact .bl b
 | .int i,_,_,e,h=>by simp[fY]at e;subst e;rw[show _=V.int i from h];exact .int i
 | .str x,_,_,e,h=>by simp[fY]at e;subst e;rw[show _=V.str x from h];exact .str x
 | .lst ds,_,_,e,⟨a,xs,h1,h2,h3⟩=>by
  simp[fY]at e
  obtain⟨ps,e1,e2⟩:=e;subst e2;subst h1;exact .lst (.inl (aK.rd s h2)) (aN.has s e1 h3)
 | .tup ds,_,_,e,⟨a,xs,h1,h2,h3⟩=>by
  simp[fY]at e
  obtain⟨ps,e1,e2⟩:=e;subst e2;subst h1;exact .tup (.inl (.inl (s _ _ h2))) (aN.has s e1 h3)
 | .obj _ _,_,_,e,_=>by simp[fY]at e
 | .any,_,_,e,_=>by simp[fY]at e
 | .dct _ _,_,_,e,_=>by simp[fY]at e
 | .exc _ _,_,_,e,_=>by simp[fY]at e
theorem aN.has {G H:Hp}(s:aK G H):∀ {ds:List D} {ps:List PyData} {vs:List V},lY ds=some ps->aN X.K G ds vs->HasAll X.K H vs ps
 | [],_,_,e,h=>by simp[lY]at e;subst e;rw[show _=[] from h];exact .nil
 | d :: r,_,_,e,⟨x,xr,h1,h2,h3⟩=>by
  simp[lY,Option.bind_eq_some_iff]at e
  obtain⟨p,e1,q,e2,e3⟩:=e;subst e3;subst h1;exact .cons (Rep.has s e1 h2) (aN.has s e2 h3)
end
theorem aP.has {H0 H H':Hp}{B:Addr->Prop}{v:V}{r:Res}{p:PyData}(g:aP X.K H0 H H' B v r)(e:fY r.d=some p):Has X.K H' v p:=by
 cases k:r.d with
 | lst ds =>
  obtain⟨a,xs,h1,h2,h3⟩:=g.list k;rw[k]at e;simp[fY]at e
  obtain⟨ps,e1,e2⟩:=e;subst e2;subst h1;exact .lst (.inl h2) (aN.has jA e1 h3)
 | dct ks ds=>rw[k]at e;simp[fY]at e
 | _=>exact Rep.has jA e (g.shr_of (by rw[k];rfl))
theorem aJx {x y:D}{z:Xc}(h:nF x y=.exc z):False:=by
 unfold nF at h;split at h
 · split at h<;>cases h
 · cases h
theorem aH1 {n:Bool->Bool}(σ:St)(H:Hp)(Q:VK)(h:tE X.K P (fun ρ=>f ρ >>= fun x=>g ρ >>= fun y=>nF x.d y.d >>= fun t=>.ok (sc (.bl (n t)))) σ H Q) :
 tOp (fun x y H Q=>∃ d e,Has X.K H x d/\Has X.K H y e/\SeqAt.shaped d=true/\SeqAt.shaped e=true/\Q (.bl (n (PyData.eqv d e))) H) (tE X.K P f) (tE X.K P g) σ H Q:=by
 refine t2 (q:=fun x y H2=>∃ d e,Has X.K H2 x d/\Has X.K H2 y e/\SeqAt.shaped d=true/\SeqAt.shaped e=true/\Q (.bl (n (PyData.eqv d e))) H2) h ?_
 intro H0 B ρ v w H' r r' d g1 g2 s h;cases e1:nF r.d r'.d with
 | stk=>simp[e1]at h
 | exc x=>exact(aJx e1).elim
 | ok t =>
  simp only[e1,R.ok_bind]at h;unfold nF at e1;split at e1
  · rename_i p q hp hq
    split at e1
    · rename_i hs
      rw[Ed]at hs;cases e1;exact⟨p,q,g1.has hp,g2.has hq,hs.1,hs.2,h _ H' (aK.refl _) (aP.sc (show Rep _ _ (.bl _) _ from rfl))⟩
    · cases e1
  · cases e1
theorem aEr {σ:St}{H:Hp}{Q:Bool->Hp->Prop}(h:tT X.K P (bT f) σ H Q):tE X.K P f σ H fun x H1=>∃ k,x=.bl k/\Q k H1:=by
 obtain⟨H0,B,ρ,d,h⟩:=h;unfold bT at h;cases e:f ρ with
 | stk=>simp[e]at h
 | exc x=>simp[e]at h;exact dR d e h
 | ok r =>
  cases e1:asB r.d with
  | stk=>simp[e,e1]at h
  | exc x=>exact(aDx e1).elim
  | ok t =>
   simp[e,e1]at h
   exact fO d e fun v H' s d' g'=>⟨t,g'.bl (aI9 e1),h H' s⟩
theorem aVd (ha:PE X a (tE X.K P f))(hb:PE X b (tE X.K P g)):PE X (.Compare a [.Gt] [b] pos) (tE X.K P (gtE f g)):=PE.imp (aEh aN1 ha hb (pA _)) aGq
theorem aUs (hu:X.A.units+64<cLine)(ha:PE X a (tE X.K P f))(hb:PE X b (tE X.K P g)):PE X (.Compare a [.Eq] [b] pos) (tE X.K P (eqE f g)):=PE.imp (aEh (aHb hu) ha hb (pA _)) (aH1 (n:=id))
theorem sF {op:CmpOp}{r:R2}(ho:OpR X (compareOp op) r)(ha:PE X a (tE X.K P f))(hb:PE X b (tE X.K P g))(hm:behindInMarks op b=false){F:FE}(himp:∀ σ H Q,tE X.K P F σ H Q->tOp r (tE X.K P f) (tE X.K P g) σ H Q) :
 PT X (.Compare a [op] [b] pos) (tT X.K P (bT F)):=by
 refine PT.imp (aMv ho ha hb hm) ?_
 intro σ H Q h;exact himp σ H _ (aEr h)
theorem pJ (ha:PE X a (tE X.K P f))(hb:PE X b (tE X.K P g)):PT X (.Compare a [.Lt] [b] pos) (tT X.K P (bT (ltE f g))):=sF aR1 ha hb (pA _) aGq
theorem pO (ha:PE X a (tE X.K P f))(hb:PE X b (tE X.K P g)):PT X (.Compare a [.Gt] [b] pos) (tT X.K P (bT (gtE f g))):=sF aN1 ha hb (pA _) aGq
theorem jT (hu:X.A.units+64<cLine)(ha:PE X a (tE X.K P f))(hb:PE X b (tE X.K P g)):PT X (.Compare a [.Eq] [b] pos) (tT X.K P (bT (eqE f g))):=sF (aHb hu) ha hb (pA _) (aH1 (n:=id))
theorem rS (hu:X.A.units+64<cLine)(ha:PE X a (tE X.K P f))(hb:PE X b (tE X.K P g)):PT X (.Compare a [.NotEq] [b] pos) (tT X.K P (bT (neE f g))):=sF (aOr hu) ha hb (pA _) (aH1 (n:=not))
theorem aQx {e:Expr}(h:PE X e (tE X.K P f))(he:∀ whole,isTrue e X.env whole=(do let v ← whole;standAt e.pos;holding [v] (truthy v)):=by intro _;rfl):PT X e (tT X.K P (bT f)):=by
 refine PT.imp (aQs h he) ?_
 intro σ H Q h;exact aEr h
variable {t u:FT}{rest:List Expr}
theorem tT2 {σ:St}{H:Hp}{Q:Bool->Hp->Prop}{stop:Bool}{h2:Hp->Prop}
 (h:tT X.K P (fun ρ=>t ρ >>= fun b=>if b=stop then .ok stop else u ρ) σ H Q):tT X.K P t σ H fun c H1=>if c=stop then Q stop H1 else tT X.K P u σ H1 Q:=by
 obtain⟨H0,B,ρ,d,h⟩:=h;cases e:t ρ with
 | stk=>simp[e]at h
 | exc x=>simp[e]at h;exact⟨H0,B,ρ,d,by rw[e];exact h⟩
 | ok c =>
  simp only[e,R.ok_bind]at h;refine⟨H0,B,ρ,d,?_⟩
  rw[e];intro H' s;by_cases hc:c=stop
  · rw[if_pos hc]at h ⊢
    exact h H' s
  · rw[if_neg hc]at h ⊢
    refine⟨H0,B,ρ,d.mono s,?_⟩
    cases e2:u ρ with
    | stk=>rw[e2]at h;exact h
    | exc x=>rw[e2]at h;exact P.mono h s
    | ok b=>rw[e2]at h;exact fun H1 s1=>h H1 (s.trans s1)
theorem aK9:iB t u=fun ρ=>t ρ >>= fun b=>if b=false then .ok false else u ρ:=by
 funext ρ
 unfold iB;cases t ρ with
 | ok b=>cases b<;>rfl
 | _=>rfl
theorem aOp:orT t u=fun ρ=>t ρ >>= fun b=>if b=true then .ok true else u ρ:=by
 funext ρ
 unfold orT;cases t ρ with
 | ok b=>cases b<;>rfl
 | _=>rfl
theorem lG (ha:PT X a (tT X.K P t)):PW X (.BoolOp .And [a] pos) (tT X.K P t):=aMy ha
theorem wT (ha:PT X a (tT X.K P t)):PW X (.BoolOp .Or [a] pos) (tT X.K P t):=aPl ha
theorem PW.imp {e:Expr}{t t':TT}(p:PW X e t)(h:∀ σ H Q,t' σ H Q->t σ H Q):PW X e t':=fun wh pins s σ H Q I q=>p wh pins s σ H Q I (h σ H Q q)
theorem pC (ha:PT X a (tT X.K P t))(hb:PW X (.BoolOp .And (b :: rest) pos) (tT X.K P u)):PW X (.BoolOp .And (a :: b :: rest) pos) (tT X.K P (iB t u)):=by
 refine PW.imp (aQ7 ha hb) ?_
 intro σ H Q h;rw[aK9]at h;have h':=tT2 (h2:=fun _=>True) h;obtain⟨H0,B,ρ,d,h⟩:=h';refine⟨H0,B,ρ,d,?_⟩
 cases e:t ρ with
 | stk=>rw[e]at h;exact h
 | exc x=>rw[e]at h;exact h
 | ok c =>
  rw[e]at h;intro H' s;have:=h H' s
  cases c with
  | true=>simpa using this
  | false=>simpa using this
theorem aDb (ha:PT X a (tT X.K P t))(hb:PW X (.BoolOp .Or (b :: rest) pos) (tT X.K P u)):PW X (.BoolOp .Or (a :: b :: rest) pos) (tT X.K P (orT t u)):=by
 refine PW.imp (aS4 ha hb) ?_
 intro σ H Q h;rw[aOp]at h;exact tT2 (h2:=fun _=>True) h
end Mir
namespace Mir
open PySem L2
variable {X:Cx}{P:XP}{a b c e:Expr}{es:List Expr}{f g:FE}{fs:FEs}{pos:Pos}
def eE (K:PySem.W.Frag)(H0 H H':Hp)(B:Addr->Prop):List V->List Res->Prop
 | [],rs=>rs=[]
 | v :: vs,rs=>∃ r rr,rs=r :: rr/\aP K H0 H H' B v r/\eE K H0 H H' B vs rr
theorem aP.old {K:PySem.W.Frag}{H0 H H1 H2:Hp}{B:Addr->Prop}{v:V}{r:Res}(s:aK H H1)(g:aP K H0 H1 H2 B v r):aP K H0 H H2 B v r:=by
 unfold aP at g ⊢;cases k:r.k with
 | shr=>rw[k]at g;exact g
 | own=>rw[k]at g;exact g
 | tmp=>rw[k]at g;obtain⟨a,o,h1,h2,h3⟩:=g;exact⟨a,o,h1,s.none h2,h3⟩
 | old=>rw[k]at g;exact g
theorem eE.old {K:PySem.W.Frag}{H0 H H1 H2:Hp}{B:Addr->Prop}(s:aK H H1):∀ {vs:List V} {rs:List Res},eE K H0 H1 H2 B vs rs->eE K H0 H H2 B vs rs
 | [],_,h=>h
 | _ :: _,_,⟨r,rr,e,g,gs⟩=>⟨r,rr,e,g.old s,eE.old s gs⟩
theorem eE.len {K:PySem.W.Frag}{H0 H H1:Hp}{B:Addr->Prop}:∀ {vs:List V} {rs:List Res},eE K H0 H H1 B vs rs->vs.length=rs.length
 | [],rs,h=>by have e:rs=[]:=h;rw[e];rfl
 | _ :: _,_,⟨r,rr,e,g,gs⟩=>by rw[e];simp[eE.len gs]
def tAs (K:PySem.W.Frag)(P:XP)(fs:FEs):TA:=fun σ H Q=>∃ H0 B ρ,DenE K H0 H B σ ρ/\match evs fs ρ with
 | .ok rs=>∀ vs H',aK H H'->eE K H0 H H' B vs rs->Q vs H'
 | .exc x=>P.p x σ H
 | .stk=>False
theorem PA.imp {t t':TA}(p:PA X es t)(h:∀ σ H Q,t' σ H Q->t σ H Q):PA X es t':=fun pos pins s σ H Q I q=>p pos pins s σ H Q I (h σ H Q q)
theorem aQ:PA X [] (tAs X.K P []):=PA.imp xZ fun σ H Q ⟨H0,B,ρ,d,h⟩=>h [] H (aK.refl H) rfl
theorem aA (ha:PE X e (tE X.K P f))(hr:PA X es (tAs X.K P fs))(hs:starEach (e :: es) X.env=(false,eval e X.env) :: starEach es X.env:=by rfl):PA X (e :: es) (tAs X.K P (f :: fs)):=by
 refine PA.imp (kX ha hr hs) ?_
 rintro σ H Q ⟨H0,B,ρ,d,h⟩
 unfold evs at h;show tE X.K P f σ H fun x H1=>tAs X.K P fs σ H1 fun xs H2=>Q (x :: xs) H2
 cases e1:f ρ with
 | stk=>simp[e1]at h
 | exc x=>simp[e1]at h;exact dR d e1 h
 | ok r =>
  simp only[e1,R.ok_bind]at h;refine fO d e1 fun v H1 s1 d1 g1=>⟨H0,B,ρ,d1,?_⟩
  cases e2:evs fs ρ with
  | stk=>simp[e2]at h
  | exc x=>simp[e2]at h;exact P.mono h s1
  | ok rs =>
   simp only[e2,R.ok_bind]at h;exact fun vs H2 s2 gs=>h (v :: vs) H2 (s1.trans s2) ⟨r,rs,rfl,g1.mono s2,gs.old s1⟩
theorem tA1 {k:List Res->R Res}{σ:St}{H:Hp}{Q:VK}{q:List V->Hp->Prop}(h:tE X.K P (fun ρ=>evs fs ρ >>= k) σ H Q)
 (hk:∀ H0 B ρ vs H' rs,DenE X.K H0 H B σ ρ->DenE X.K H0 H' B σ ρ->eE X.K H0 H H' B vs rs->aK H H'->(match k rs with
  | .ok r1=>∀ v1 H1,aK H' H1->aP X.K H0 H H1 B v1 r1->Q v1 H1
  | .exc x=>P.p x σ H'
  | .stk=>False)->q vs H'):tAs X.K P fs σ H q:=by
 obtain⟨H0,B,ρ,d,h⟩:=h;refine⟨H0,B,ρ,d,?_⟩
 cases e:evs fs ρ with
 | stk=>simp[e]at h
 | exc x=>simp[e]at h;exact h
 | ok rs =>
  simp only[e,R.ok_bind]at h;intro vs H' s gs;refine hk H0 B ρ vs H' rs d (d.mono s) gs s ?_
  cases e2:k rs with
  | stk=>rw[e2]at h;exact h
  | exc x=>rw[e2]at h;exact P.mono h s
  | ok r1=>rw[e2]at h;exact fun v1 H1 s1 g1=>h v1 H1 (s.trans s1) g1
theorem eE.gives {K:PySem.W.Frag}{H0 H H':Hp}{B:Addr->Prop}{σ:St}{ρ:Env}(den:DenE K H0 H B σ ρ):∀ {vs:List V} {rs:List Res} {y:Bool×List D},eE K H0 H H' B vs rs->gives rs=.ok y->aN K (aZ y.1 H0 H' B) y.2 vs
 | [],_,y,h,e=>by rw[show _=[] from h]at e;simp[Mir.gives]at e;subst e;rfl
 | v :: vs,_,y,⟨r,rr,e1,g,gs⟩,e=>by
  subst e1;simp only[Mir.gives]at e;cases e2:r.give with
  | stk=>simp[e2]at e
  | exc x=>simp[e2]at e
  | ok r' =>
   cases e3:Mir.gives rr with
   | stk=>simp[e2,e3]at e
   | exc x=>simp[e2,e3]at e
   | ok y' =>
    simp only[e2,e3,R.ok_bind]at e;cases e;obtain⟨q1,q2⟩:=g.give den e2;have q3:=eE.gives den gs e3;subst q1
    have w:∀ {fr fr':Bool} {d:D} {v:V},Rep K (aZ fr H0 H' B) d v->Rep K (aZ (fr&&fr') H0 H' B) d v:=fun {fr fr' d v} h=>by
     cases fr' with
     | true=>simpa using h
     | false=>simp;exact Rep.same iX h
    have w2:∀ {fr fr':Bool} {d:List D} {v:List V},aN K (aZ fr' H0 H' B) d v->aN K (aZ (fr&&fr') H0 H' B) d v:=fun {fr fr' d v} h=>by
     cases fr with
     | true=>simpa using h
     | false=>simp;exact aN.same iX h
    exact⟨v,vs,rfl,w q2,w2 q3⟩
theorem jB {x:Xc}:∀ {rs:List Res},gives rs=.exc x->False
 | [],h=>by simp[gives]at h
 | r :: rs,h=>by
  simp only[gives]at h;cases e2:r.give with
  | stk=>simp[e2]at h
  | exc x=>unfold Res.give at e2;split at e2<;>cases e2
  | ok r' =>
   cases e3:gives rs with
   | stk=>simp[e2,e3]at h
   | exc x=>exact jB e3
   | ok y=>simp[e2,e3]at h
theorem kK {K:PySem.W.Frag}{H0 H H':Hp}{B:Addr->Prop}{σ:St}{ρ:Env}{p:Addr}{vs:List V}{ds:List D}{fr:Bool}(den:DenE K H0 H' B σ ρ)(s:aK H H')(hp:H' p=none)(r:aN K (aZ fr H0 H' B) ds vs) :
 aP K H0 H (upd H' p (.lst vs)) B (.ref p) ⟨.tmp,fr,.lst ds⟩:=by
 refine⟨p,_,rfl,s.none hp,cK,.lst (aN.same (aW (fun b o e _=>aK.upd_new hp b o e) fun b z=>?_) r)⟩
 rcases z with z | z
 · exact .inl z
 · exact .inr (by rw[z];exact hp)
theorem iW (h:PA X es (tAs X.K P fs)):PE X (.List es pos) (tE X.K P (cF fs)):=by
 refine PE.imp (aQ1 h) ?_
 intro σ H Q h;refine tA1 h ?_
 intro H0 B ρ vs H' rs d0 d gs s h;cases e:gives rs with
 | stk=>simp[e]at h
 | exc x=>exact(jB e).elim
 | ok y =>
  simp only[e,R.ok_bind]at h;have r:=gs.gives d0 e;by_cases hz:y.2.length<=sizeLine
  · rw[if_pos hz]at h
    exact⟨by rw[←r.length];exact hz,fun p hp=>h _ _ (aK.upd_new hp) (kK d s hp r)⟩
  · rw[if_neg hz]at h;exact h.elim
theorem aP.seq {K:PySem.W.Frag}{H0 H H':Hp}{B:Addr->Prop}{v:V}{r:Res}{ds:List D}(g:aP K H0 H H' B v r)(e:asS r.d=.ok ds):∃ a xs,v=.ref a/\(Rd H' a (.lst xs)\/H' a=some (.tup xs))/\aN K (aZ r.fr H0 H' B) ds xs:=by
 rcases aIh e with e | e
 · obtain⟨a,xs,h1,h2,h3⟩:=g.list e
   exact⟨a,xs,h1,.inl h2,h3⟩
 · obtain⟨a,xs,h1,h2,h3⟩:=g.tuple e
   exact⟨a,xs,h1,.inr h2,h3⟩
theorem aAt {k:Res->R Res}{rule:List V->Hp->VK->Prop}{σ:St}{H:Hp}{Q:VK}(h:tE X.K P (fun ρ=>f ρ >>= k) σ H Q)
 (hk:∀ H0 B ρ v H' r,DenE X.K H0 H B σ ρ->DenE X.K H0 H' B σ ρ->aP X.K H0 H H' B v r->aK H H'->(match k r with
  | .ok r1=>∀ v1 H1,aK H' H1->aP X.K H0 H H1 B v1 r1->Q v1 H1
  | .exc x=>P.p x σ H'
  | .stk=>False)->rule [v] H' Q):tCB rule (tAs X.K P [f]) σ H Q:=by
 show tAs X.K P [f] σ H fun vs H1=>rule vs H1 Q
 have e:(fun ρ=>evs [f] ρ >>= fun rs=>match rs with | [r]=>k r | _=>.stk)=fun ρ=>f ρ >>= k:=by
  funext ρ
  unfold evs;cases f ρ with
  | ok r=>rfl
  | _=>rfl
 rw[←e]at h;refine tA1 h ?_
 intro H0 B ρ vs H' rs d0 d gs s h;match vs,rs,gs with
 | [],rs,gs=>have e:rs=[]:=gs;subst e;exact h.elim
 | [v],_,⟨r,rr,e1,g1,g2⟩ =>
  subst e1;rw[show rr=[] from g2]at h
  exact hk H0 B ρ v H' r d0 d g1 s h
 | v :: w :: _,_,⟨r,rr,e1,g1,r2,rr2,e2,g2⟩ =>
  subst e1;subst e2;exact h.elim
variable {x:Str}{p:Pos}
theorem fM (hg:Gl X "len")(hm:X.mg "len" = none)(ha:PE X a (tE X.K P f))(he:starEach [a] X.env=[(false,eval a X.env)]:=by rfl):PE X (.Call (.Name "len" p) [a] [] pos) (tE X.K P (bJ f)):=by
 refine PE.imp (iP yC hg hm PySem.boot_len (aA ha aQ he) (he:=he)) ?_
 intro σ H Q h;refine aAt h ?_
 intro H0 B ρ v H' r d0 d g s h;cases e:asS r.d with
 | stk=>simp[e]at h
 | exc x=>exact(oJ e).elim
 | ok ds =>
  simp only[e,R.ok_bind]at h;obtain⟨a,xs,h1,h2,h3⟩:=g.seq e;exact⟨a,xs,by rw[h1],h2.imp .inl fun z=>.inl (.inl z),h _ H' (aK.refl _) (by rw[h3.length];exact aP.sc (show Rep _ _ (.int _) _ from rfl))⟩
theorem aHl (hg:Gl X "list")(hm:X.mg "list" = none)(ha:PE X a (tE X.K P f))(he:starEach [a] X.env=[(false,eval a X.env)]:=by rfl):PE X (.Call (.Name "list" p) [a] [] pos) (tE X.K P (tH f)):=by
 refine PE.imp (aFr wZ hg hm (by decide +kernel) (aA ha aQ he) (he:=he)) ?_
 intro σ H Q h;refine aAt h ?_
 intro H0 B ρ v H' r d0 d g s h;cases e:asS r.d with
 | stk=>simp[e]at h
 | exc x=>exact(oJ e).elim
 | ok ds =>
  simp only[e,R.ok_bind]at h;obtain⟨a,xs,h1,h2,h3⟩:=g.seq e;exact⟨a,xs,by rw[h1],h2.imp .inl fun z=>.inl (.inl z),fun l hl=>h _ _ (aK.upd_new hl) (kK d s hl h3)⟩
theorem aD3 {K:PySem.W.Frag}{G:Hp}{ds:List D}{xs:List V}{j:Int}{d:D}(r:aN K G ds xs)(e:atI ds j=some d):∃ v,atI xs j=some v/\Rep K G d v:=by
 unfold atI at e ⊢;rw[←r.length];cases q:ixN ds.length j with
 | none=>rw[q]at e;cases e
 | some n=>rw[q]at e;exact r.get e
theorem aRr {σ:St}{H:Hp}{Q:VK}(h:tE X.K P (aT f g) σ H Q):tOp (fun x y H Q=>aM9 X.K x y H Q\/aKt X.K x y H Q) (tE X.K P f) (tE X.K P g) σ H Q:=by
 refine t2 (q:=fun x y H2=>aM9 X.K x y H2 Q\/aKt X.K x y H2 Q) h ?_
 intro H0 B ρ v w H' r r' d g1 g2 s h;cases e1:asS r.d with
 | stk=>simp[e1]at h
 | exc x=>exact(oJ e1).elim
 | ok ds =>
  cases e2:asI r'.d with
  | stk=>simp[e1,e2]at h
  | exc x=>exact(cA e2).elim
  | ok j =>
   simp only[e1,e2,R.ok_bind]at h;cases e3:atI ds j with
   | none=>rw[e3]at h;exact h.elim
   | some dd =>
    rw[e3]at h;rcases aIh e1 with e | e
    · obtain⟨a,xs,h1,h2,h3⟩:=g1.list e
      obtain⟨z,z1,z2⟩:=aD3 h3 e3;exact .inl ⟨a,xs,j,z,h1,g2.int (cQ e2),.inl h2,z1,h z H' (aK.refl _) (Rep.fr d.sam z2)⟩
    · obtain⟨a,xs,h1,h2,h3⟩:=g1.tuple e
      obtain⟨z,z1,z2⟩:=aD3 h3 e3;exact .inr ⟨a,xs,j,z,h1,g2.int (cQ e2),.inl (.inl h2),z1,h z H' (aK.refl _) (Rep.fr d.sam z2)⟩
theorem aP1:IxR X (fun x y H Q=>aM9 X.K x y H Q\/aKt X.K x y H Q):=by
 intro value slice pins s σ H x y v u Q I rx ry h hs;rcases h with h | h
 · exact aM2 value slice pins s σ H x y v u Q I rx ry h hs
 · exact aO4 value slice pins s σ H x y v u Q I rx ry h hs
theorem bQ (ha:PE X a (tE X.K P f))(hb:PE X b (tE X.K P g))(hs:aDp b:=by exact fun _ _=>rfl):PE X (.Subscript a b pos) (tE X.K P (aT f g)):=PE.imp (aR7 aP1 ha hb hs) fun σ H Q h=>aRr h
theorem Inv.rdL {pins:List (Addr×Obj)}{σ:St}{H:Hp}{s:Shared}{l:Addr}{xs:List V}(I:Inv X pins σ H s)(h:Rd H l (.lst xs)):xs.length<=sizeLine/\∃ (its:List Value) (n:Nat),bG xs its/\s.heap.get? l=some { cls:=.type "list",data:=.seq its.toArray n }:=h.ok I.hok
def aNf:R2:=fun x y H Q=>∃ l b xs zs,x=.ref l/\y=.ref b/\Rd H l (.lst xs)/\Rd H b (.lst zs)/\xs.length+zs.length<=sizeLine/\∀ p,H p=none->Q (.ref p) (upd H p (.lst (xs++zs)))
theorem aMp:OpR X (binaryOp .Add) aNf:=by
 intro pins s σ H x y v u Q I rx ry h;obtain⟨l,b,xs,zs,rfl,rfl,hH,hB,hz,q⟩:=h;cases rx;cases ry;obtain⟨z,its,n,r,e⟩:=Inv.rdL I hH;obtain⟨z2,its2,n2,r2,e2⟩:=Inv.rdL I hB;have hl:=r.length;have hl2:=r2.length;refine PySem.P.add_list e e2 ?_ (by rw[Az,Az];omega)
 have ea:its.toArray++its2.toArray=(its++its2).toArray:=by simp
 rw[ea];exact⟨.ref _,_,I.lnew (t':=s.toks) (r.append r2) (by rw[Al];omega),rfl,q _ I.fresh⟩
theorem aN.andL {K:PySem.W.Frag}{H0 H:Hp}{B:Addr->Prop}{fr fr':Bool}{ds:List D}{vs:List V}(h:aN K (aZ fr H0 H B) ds vs):aN K (aZ (fr&&fr') H0 H B) ds vs:=by
 cases fr' with
 | true=>simpa using h
 | false=>simp;exact aN.same iX h
theorem aN.andR {K:PySem.W.Frag}{H0 H:Hp}{B:Addr->Prop}{fr fr':Bool}{ds:List D}{vs:List V}(h:aN K (aZ fr' H0 H B) ds vs):aN K (aZ (fr&&fr') H0 H B) ds vs:=by
 cases fr with
 | true=>simpa using h
 | false=>simp;exact aN.same iX h
theorem uV (ha:PE X a (tE X.K P f))(hb:PE X b (tE X.K P g)):PE X (.BinOp a .Add b pos) (tE X.K P (kG f g)):=by
 refine PE.imp (aJp aMp ha hb) ?_
 intro σ H Q h;refine t2 (q:=fun x y H2=>aNf x y H2 Q) h ?_
 intro H0 B ρ v w H' r r' d g1 g2 s h;cases e1:asL r.d with
 | stk=>simp[e1]at h
 | exc x=>exact(eK e1).elim
 | ok xs =>
  cases e2:asL r'.d with
  | stk=>simp[e1,e2]at h
  | exc x=>exact(eK e2).elim
  | ok ys =>
   simp only[e1,e2,R.ok_bind]at h;obtain⟨a1,xs1,h1,h2,h3⟩:=g1.list (dQ e1);obtain⟨a2,xs2,k1,k2,k3⟩:=g2.list (dQ e2);by_cases hz:xs.length+ys.length<=sizeLine
   · rw[if_pos hz]at h
     exact⟨a1,a2,xs1,xs2,h1,k1,h2,k2,by rw[←h3.length,←k3.length];exact hz,fun p hp=>h _ _ (aK.upd_new hp) (kK d s hp (h3.andL.append k3.andR))⟩
   · rw[if_neg hz]at h;exact h.elim
def tO (K:PySem.W.Frag)(P:XP)(f:FO):TO:=fun σ H Q=>∃ H0 B ρ,DenE K H0 H B σ ρ/\match f ρ with
 | .ok o=>∀ H',aK H H'->Q o H'
 | .exc x=>P.p x σ H
 | .stk=>False
theorem PO.imp {e:Option Expr}{t t':TO}(p:PO X e t)(h:∀ σ H Q,t' σ H Q->t σ H Q):PO X e t':=fun pins s σ H Q I q=>p pins s σ H Q I (h σ H Q q)
theorem vJ:PO X none (tO X.K P noO):=PO.imp aKs fun σ H Q ⟨H0,B,ρ,d,h⟩=>h H (aK.refl H)
theorem lT (ha:PE X a (tE X.K P f)):PO X (some a) (tO X.K P (soO f)):=by
 refine PO.imp (aLu ha) ?_
 rintro σ H Q ⟨H0,B,ρ,d,h⟩
 unfold soO at h;show tE X.K P f σ H fun x H1=>∃ i,x=.int i/\Q (some i) H1
 cases e:f ρ with
 | stk=>simp[e]at h
 | exc x=>simp[e]at h;exact dR d e h
 | ok r =>
  cases e1:asI r.d with
  | stk=>simp[e,e1]at h
  | exc x=>exact(cA e1).elim
  | ok i =>
   simp only[e,e1,R.ok_bind]at h;exact fO d e fun v H' s d' g'=>⟨i,g'.int (cQ e1),h H' s⟩
theorem pQ {lo hi:Option Expr}{fl fh:FO}{p2:Pos}(ha:PE X a (tE X.K P f))(hl:PO X lo (tO X.K P fl))(hh:PO X hi (tO X.K P fh)):PE X (.Subscript a (.Slice lo hi none p2) pos) (tE X.K P (fH f fl fh)):=by
 refine PE.imp (aIa aKm ha hl hh) ?_
 rintro σ H Q ⟨H0,B,ρ,d,h⟩
 unfold fH at h;show tE X.K P f σ H fun x H1=>tO X.K P fl σ H1 fun l H2=>tO X.K P fh σ H2 fun u H3=>aRt X.K x l u H3 Q
 cases e:f ρ with
 | stk=>simp[e]at h
 | exc x=>simp[e]at h;exact dR d e h
 | ok r =>
  simp only[e,R.ok_bind]at h;refine fO d e fun v H1 s1 d1 g1=>⟨H0,B,ρ,d1,?_⟩
  cases e1:fl ρ with
  | stk=>simp[e1]at h
  | exc x=>simp[e1]at h;exact P.mono h s1
  | ok l =>
   simp only[e1,R.ok_bind]at h;intro H2 s2;refine⟨H0,B,ρ,d1.mono s2,?_⟩
   cases e2:fh ρ with
   | stk=>simp[e2]at h
   | exc x=>simp[e2]at h;exact P.mono h (s1.trans s2)
   | ok u =>
    simp only[e2,R.ok_bind]at h;intro H3 s3;cases e3:asL r.d with
    | stk=>simp[e3]at h
    | exc x=>exact(eK e3).elim
    | ok ds =>
     simp only[e3,R.ok_bind]at h;obtain⟨a1,xs,h1,h2,h3⟩:=(g1.mono (s2.trans s3)).list (dQ e3);have s:=(s1.trans s2).trans s3;refine⟨a1,xs,h1,.inl h2,fun p hp=>h _ _ (s.trans (aK.upd_new hp)) ?_⟩
     have q:aN X.K (aZ r.fr H0 H3 B) (uM ds l u) (aE3 xs l u):=by
      unfold uM aE3;rw[←h3.length];exact(h3.drop _).take _
     exact kK (d.mono s) s hp q
theorem aRs {rest:List Expr}(ha:PE X a (tE X.K P f))(hb:PE X (.BoolOp .And (b :: rest) pos) (tE X.K P g)):PE X (.BoolOp .And (a :: b :: rest) pos) (tE X.K P (aF8 f g)):=by
 refine PE.imp (aPt ha hb) ?_
 rintro σ H Q ⟨H0,B,ρ,d,h⟩
 unfold aF8 at h;show tE X.K P f σ H fun x H1=>∃ c,x=.bl c/\if c=true then tE X.K P g σ H1 Q else Q (.bl false) H1
 cases e:f ρ with
 | stk=>simp[e]at h
 | exc x=>simp[e]at h;exact dR d e h
 | ok r =>
  cases e1:asB r.d with
  | stk=>simp[e,e1]at h
  | exc x=>exact(aDx e1).elim
  | ok t =>
   simp only[e,e1,R.ok_bind]at h;refine fO d e fun v H1 s1 d1 g1=>⟨t,g1.bl (aI9 e1),?_⟩
   cases t with
   | false=>exact aIb (h _ H1 s1 (aP.sc (show Rep _ _ (.bl false) _ from rfl)))
   | true =>
    refine aJd ⟨H0,B,ρ,d1,?_⟩
    rw[if_pos rfl]at h;cases e2:g ρ with
    | stk=>rw[e2]at h;exact h
    | exc x=>rw[e2]at h;exact P.mono h s1
    | ok r2=>rw[e2]at h;exact fun v2 H2 s2 g2=>h v2 H2 (s1.trans s2) (g2.old s1)
theorem aSl {op}(h:PE X a (tE X.K P f)):PE X (.BoolOp op [a] pos) (tE X.K P f):=aOz h
theorem aUv {t:FT}(hc:PT X c (tT X.K P t))(ha:PE X a (tE X.K P f))(hb:PE X b (tE X.K P g)):PE X (.IfExp c a b pos) (tE X.K P (ifE t f g)):=by
 refine PE.imp (aJg hc ha hb) ?_
 rintro σ H Q ⟨H0,B,ρ,d,h⟩
 unfold ifE at h;show tT X.K P t σ H fun c H1=>if c=true then tE X.K P f σ H1 Q else tE X.K P g σ H1 Q
 refine⟨H0,B,ρ,d,?_⟩
 cases e:t ρ with
 | stk=>simp[e]at h
 | exc x=>simp[e]at h;exact h
 | ok k =>
  simp only[e,R.ok_bind]at h;intro H1 s1
  have fin:∀ {F:FE},(match F ρ with
   | .ok r=>∀ v H',aK H H'->aP X.K H0 H H' B v r->Q v H'
   | .exc x=>P.p x σ H
   | .stk=>False)->tE X.K P F σ H1 Q:=fun {F} h=>by
   refine⟨H0,B,ρ,d.mono s1,?_⟩
   cases e2:F ρ with
   | stk=>rw[e2]at h;exact h
   | exc x=>rw[e2]at h;exact P.mono h s1
   | ok r2=>rw[e2]at h;exact fun v2 H2 s2 g2=>h v2 H2 (s1.trans s2) (g2.old s1)
  cases k with
  | true=>exact aJd (fin h)
  | false=>exact aIb (fin h)
end Mir
namespace Mir
open PySem L2
variable {X:Cx}{P:XP}{a b c e:Expr}{es:List Expr}{f g:FE}{fs:FEs}{pos:Pos}
def uC (K:PySem.W.Frag)(H0 H':Hp)(B:Addr->Prop)(J:It)(w:Its):Prop:=∃ A:Addr->Prop,(w.st=true->∀ a,A a->¬ B a) /\
 ∀ (H2:Hp) (B2:Addr->Prop),(∀ a o,A a->H' a=some o->H2 a=some o)->(∀ b o,H' b=some o->¬ B b->H2 b=some o)->(∀ b,B2 b->B b\/H' b=none)->(∀ b,B2 b->∃ o,H2 b=some o)->aK H0 H2->∀ i,
  (w.ds.length<=i->J.stop i H2)/\∀ d,w.ds[i]?=some d->J.go i H2/\∀ x H3,J.yld i H2 x H3->aK H2 H3/\Rep K (aZ w.fr H0 H3 B2) d x
def tI (K:PySem.W.Frag)(P:XP)(f:FI):TI:=fun σ H Rq=>∃ H0 B ρ,DenE K H0 H B σ ρ/\match f ρ with
 | .ok w=>∀ J H',aK H H'->uC K H0 H' B J w->Rq J H'
 | .exc x=>P.p x σ H
 | .stk=>False
theorem PI.imp {tg:Expr}{t t':TI}(p:PI X tg e t)(h:∀ σ H Rq,t' σ H Rq->t σ H Rq):PI X tg e t':=fun pins s σ H Rq I q=>p pins s σ H Rq I (h σ H Rq q)
theorem aP.notB {K:PySem.W.Frag}{H0 H H':Hp}{B:Addr->Prop}{v:V}{r:Res}{σ:St}{ρ:Env}{ds:List D}{a:Addr}(den:DenE K H0 H B σ ρ)(g:aP K H0 H H' B v r)(e:r.d=.lst ds)(hv:v=.ref a)(hk:(r.k != .own)=true):¬ B a:=by
 unfold aP at g;cases k:r.k with
 | shr =>
  rw[k,e,hv]at g;obtain⟨a',xs,h1,h2,h3⟩:=g;cases h1;rcases h2 with h | ⟨o,h⟩
  · exact fun z=>(aO.mp h).1 (.inl z)
  · exact fun z=>(aO.mp h).1 (.inl z)
 | own=>rw[k]at hk;cases hk
 | old=>rw[k]at g;exact g.elim
 | tmp =>
  rw[k,hv]at g;obtain⟨a',o',h1,h2,_⟩:=g;cases h1;intro z;obtain⟨o,q,_⟩:=den.bnd a z;rw[h2]at q;cases q
theorem mW {H H2:Hp}{a:Addr}{u:HO}(h:Rd H a u)(k:∀ o,H a=some o->H2 a=some o):Rd H2 a u:=by
 rcases h with h | ⟨o,h⟩
 · exact .inl (k _ h)
 · exact .inr ⟨o,k _ h⟩
theorem aGa {K:PySem.W.Frag}{H0 H':Hp}{B:Addr->Prop}{a:Addr}{xs:List V}{ds:List D}{st fr:Bool}(hs:st=true->¬ B a)(h2:Rd H' a (.lst xs))(h3:aN K (aZ fr H0 H' B) ds xs):uC K H0 H' B (Itl K a) ⟨st,fr,ds⟩:=by
 refine⟨fun b=>b=a,fun h b z=>by rw[z];exact hs h,fun H2 B2 k1 k2 k3 k4 k5 i=>?_⟩
 have q:SqL K H2 a xs:=.inl (mW h2 fun o=>k1 a o rfl);refine⟨fun hi=>⟨xs,q,by rw[←h3.length];exact hi⟩,fun d hd=>?_⟩
 obtain⟨v,hv,rv⟩:=h3.get hd;refine⟨⟨xs,v,q,hv⟩,fun x H3 y=>?_⟩
 obtain⟨e,y⟩:=y;subst e;have:=y xs q
 rw[hv]at this;cases this;exact⟨aK.refl _,Rep.same (aW k2 k3) rv⟩
theorem zN {K:PySem.W.Frag}{H0 H':Hp}{B:Addr->Prop}{lo:Int}{n:Nat}:uC K H0 H' B (Itr lo n) ⟨true,true,kS lo n⟩:=by
 refine⟨fun _=>False,fun _ _ z=>z.elim,fun H2 B2 _ _ _ _ _ i=>⟨fun hi=>?_,fun d hd=>?_⟩⟩
 · show n<=i
   simpa[kS] using hi
 · unfold kS at hd
   rw[Ax]at hd;cases q:(Bf n)[i]? with
   | none=>rw[q]at hd;cases hd
   | some k =>
    rw[q]at hd;cases hd;obtain⟨q1,q2⟩:=Aw.mp q;have hi:i<n:=by simpa using q1
    have:k=i:=by rw[←q2];simp
    subst this;refine⟨hi,fun x H3 y=>?_⟩
    obtain⟨e1,e2⟩:=y;subst e1;exact⟨aK.refl _,e2⟩
theorem dF {tg:Expr}(ha:PE X a (tE X.K P f)):PI X tg a (tI X.K P (bV f)):=by
 refine PI.imp (aLc ha) ?_
 rintro σ H Rq ⟨H0,B,ρ,d,h⟩
 unfold bV at h;show tE X.K P f σ H fun x H1=>∃ a,x=.ref a/\(∃ xs,SqL X.K H1 a xs)/\Rq (Itl X.K a) H1
 cases e:f ρ with
 | stk=>simp[e]at h
 | exc x=>simp[e]at h;exact dR d e h
 | ok r =>
  cases e1:asL r.d with
  | stk=>simp[e,e1]at h
  | exc x=>exact(eK e1).elim
  | ok ds =>
   simp only[e,e1,R.ok_bind]at h;refine fO d e fun v H' s d' g'=>?_
   obtain⟨a,xs,h1,h2,h3⟩:=g'.list (dQ e1);exact⟨a,h1,⟨xs,.inl h2⟩,h _ H' s (aGa (fun hk=>g'.notB d (dQ e1) h1 hk) h2 h3)⟩
variable {p:Pos}
theorem aHy {k:List Res->R Its}{σ:St}{H:Hp}{Rq:It->Hp->Prop}{q:List V->Hp->Prop}(h:tI X.K P (fun ρ=>evs fs ρ >>= k) σ H Rq)
 (hk:∀ H0 B ρ vs H' rs,DenE X.K H0 H B σ ρ->DenE X.K H0 H' B σ ρ->eE X.K H0 H H' B vs rs->aK H H'->(match k rs with
  | .ok w=>∀ J H1,aK H' H1->uC X.K H0 H1 B J w->Rq J H1
  | .exc x=>P.p x σ H'
  | .stk=>False)->q vs H'):tAs X.K P fs σ H q:=by
 obtain⟨H0,B,ρ,d,h⟩:=h;refine⟨H0,B,ρ,d,?_⟩
 cases e:evs fs ρ with
 | stk=>simp[e]at h
 | exc x=>simp[e]at h;exact h
 | ok rs =>
  simp only[e,R.ok_bind]at h;intro vs H' s gs;refine hk H0 B ρ vs H' rs d (d.mono s) gs s ?_
  cases e2:k rs with
  | stk=>rw[e2]at h;exact h
  | exc x=>rw[e2]at h;exact P.mono h s
  | ok r1=>rw[e2]at h;exact fun v1 H1 s1 g1=>h v1 H1 (s.trans s1) g1
theorem kY {tg:Expr}(hg:Gl X "range")(hm:X.mg "range" = none)(ha:PE X a (tE X.K P f))(hs:starEach [a] X.env=[(false,eval a X.env)]:=by rfl):PI X tg (.Call (.Name "range" p) [a] [] pos) (tI X.K P (dW f)):=by
 refine PI.imp (aE5 hg hm (aA ha aQ hs) hs) ?_
 intro σ H Rq h;show tAs X.K P [f] σ H fun vs H1=>∃ j:Int,vs=[.int j]/\-(2^62)<=j/\j<2^62/\Rq (Itr 0 j.toNat) H1
 have e:dW f=fun ρ=>evs [f] ρ >>= fun rs=>match rs with | [x]=>(asI x.d >>= fun j=>if -(2^62)<=j/\j<2^62 then .ok ⟨true,true,kS 0 j.toNat⟩ else .stk) | _=>.stk:=by
  funext ρ
  unfold dW evs;cases f ρ with
  | ok r=>rfl
  | _=>rfl
 rw[e]at h;refine aHy h ?_
 intro H0 B ρ vs H' rs d0 d gs s h;match vs,rs,gs with
 | [],rs,gs=>have e:rs=[]:=gs;subst e;exact h.elim
 | [v],_,⟨r,rr,e1,g1,g2⟩ =>
  subst e1;rw[show rr=[] from g2]at h
  cases e2:asI r.d with
  | stk=>simp[e2]at h
  | exc x=>exact(cA e2).elim
  | ok j =>
   simp only[e2,R.ok_bind]at h;by_cases hj:-(2^62)<=j/\j<2^62
   · rw[if_pos hj]at h
     exact⟨j,by rw[g1.int (cQ e2)],hj.1,hj.2,h _ H' (aK.refl _) zN⟩
   · rw[if_neg hj]at h;exact h.elim
 | v :: w :: _,_,⟨r,rr,e1,g1,r2,rr2,e2,g2⟩ =>
  subst e1;subst e2;exact h.elim
theorem two {k:Res->Res->R Its}{F:FI}(hF:F=fun ρ=>f ρ >>= fun x=>g ρ >>= fun y=>k x y){σ:St}{H:Hp}{Rq:It->Hp->Prop}{q:List V->Hp->Prop}(h:tI X.K P F σ H Rq)
 (hk:∀ H0 B ρ v w H' r r',DenE X.K H0 H B σ ρ->DenE X.K H0 H' B σ ρ->aP X.K H0 H H' B v r->aP X.K H0 H H' B w r'->aK H H'->(match k r r' with
  | .ok w=>∀ J H1,aK H' H1->uC X.K H0 H1 B J w->Rq J H1
  | .exc x=>P.p x σ H'
  | .stk=>False)->q [v,w] H'):tAs X.K P [f,g] σ H q:=by
 have e:F=fun ρ=>evs [f,g] ρ >>= fun rs=>match rs with | [x,y]=>k x y | _=>.stk:=by
  rw[hF];funext ρ
  unfold evs evs;cases f ρ with
  | ok r =>
   show (g ρ >>= fun y=>k r y)=_
   cases g ρ with
   | ok r'=>rfl
   | _=>rfl
  | _=>rfl
 rw[e]at h;refine aHy h ?_
 intro H0 B ρ vs H' rs d0 d gs s h;match vs,rs,gs with
 | [],rs,gs=>have e:rs=[]:=gs;subst e;exact h.elim
 | [v],_,⟨r,rr,e1,g1,g2⟩ =>
  subst e1;rw[show rr=[] from g2]at h
  exact h.elim
 | [v,w],_,⟨r,rr,e1,g1,r2,rr2,e2,g2,g3⟩ =>
  subst e1;subst e2;rw[show rr2=[] from g3]at h
  exact hk H0 B ρ v w H' r r2 d0 d g1 g2 s h
 | _ :: _ :: _ :: _,_,⟨r,rr,e1,g1,r2,rr2,e2,g2,r3,rr3,e3,_⟩ =>
  subst e1;subst e2;subst e3;exact h.elim
theorem qW {tg:Expr}(hg:Gl X "range")(hm:X.mg "range" = none)(ha:PE X a (tE X.K P f))(hb:PE X b (tE X.K P g))(hs:starEach [a,b] X.env=[(false,eval a X.env),(false,eval b X.env)]:=by rfl)(hs2:starEach [b] X.env=[(false,eval b X.env)]:=by rfl) :
 PI X tg (.Call (.Name "range" p) [a,b] [] pos) (tI X.K P (gY f g)):=by
 refine PI.imp (aE7 hg hm (aA ha (aA hb aQ hs2) (by rw[hs,hs2])) hs hs2) ?_
 intro σ H Rq h;refine two rfl h ?_
 intro H0 B ρ v w H' r r' d0 d g1 g2 s h;cases e1:asI r.d with
 | stk=>simp[e1]at h
 | exc x=>exact(cA e1).elim
 | ok i =>
  cases e2:asI r'.d with
  | stk=>simp[e1,e2]at h
  | exc x=>exact(cA e2).elim
  | ok j =>
   simp only[e1,e2,R.ok_bind]at h;by_cases hj:-(2^62)<=i/\i<2^62/\-(2^62)<=j/\j<2^62
   · rw[if_pos hj]at h
     exact⟨i,j,by rw[g1.int (cQ e1),g2.int (cQ e2)],hj,h _ H' (aK.refl _) zN⟩
   · rw[if_neg hj]at h;exact h.elim
theorem aJ2 {K:PySem.W.Frag}{H0 H':Hp}{B:Addr->Prop}{a b:Addr}{xs ys:List V}{ds es:List D}{st fr fr':Bool}(hs:st=true->¬ B a/\¬ B b)(h2:Rd H' a (.lst xs))(k2:Rd H' b (.lst ys))
 (h3:aN K (aZ fr H0 H' B) ds xs) (k3:aN K (aZ fr' H0 H' B) es ys):uC K H0 H' B (Itz K a b) ⟨st,fr&&fr',mV ds es⟩:=by
 refine⟨fun c=>c=a\/c=b,fun h c z=>by rcases z with z | z<;>rw[z];exact(hs h).1;exact(hs h).2,fun H2 B2 j1 j2 j3 j4 j5 i=>?_⟩
 have q1:SqL K H2 a xs:=.inl (mW h2 fun o=>j1 a o (.inl rfl));have q2:SqL K H2 b ys:=.inl (mW k2 fun o=>j1 b o (.inr rfl));have l1:=h3.length;have l2:=k3.length;refine⟨fun hi=>⟨xs,ys,q1,q2,?_⟩,fun d hd=>?_⟩
 · simp[mV]at hi;omega
 · unfold mV at hd
   rw[Fz]at hd;cases e1:ds[i]? with
   | none=>rw[e1]at hd;cases hd
   | some d1 =>
    cases e2:es[i]? with
    | none=>rw[e1,e2]at hd;cases hd
    | some d2 =>
     rw[e1,e2]at hd;cases hd;obtain⟨v,hv,rv⟩:=h3.get e1;obtain⟨w,hw,rw'⟩:=k3.get e2;refine⟨⟨xs,ys,v,w,q1,q2,hv,hw⟩,fun x H3 y=>?_⟩
     obtain⟨t,x1,y1,e3,e4,e5,y2,y3⟩:=y;have z1:=y2 xs q1;have z2:=y3 ys q2;rw[hv]at z1;cases z1;rw[hw]at z2;cases z2;subst e3;subst e5;refine⟨aK.upd_new e4,t,[v,w],rfl,aO.mpr ⟨fun z=>?_,cK⟩,v,[w],rfl,?_,w,[],rfl,?_,rfl⟩
     · rcases z with z | ⟨_,o,z,_⟩
       · obtain⟨o,q⟩:=j4 t z;rw[e4]at q;cases q
       · rw[j5 _ _ z]at e4;cases e4
     · have m:aK (aZ fr H0 H' B) (aZ fr H0 (upd H2 t (.tup [v,w])) B2):=aW (fun b o q n=>aK.upd_new e4 b o (j2 b o q n)) j3
       have:=(aN.one (Rep.same m rv)).andL (fr':=fr')
       obtain⟨_,_,z1,z2,_⟩:=this;cases z1;exact z2
     · have m:aK (aZ fr' H0 H' B) (aZ fr' H0 (upd H2 t (.tup [v,w])) B2):=aW (fun b o q n=>aK.upd_new e4 b o (j2 b o q n)) j3
       have:=(aN.one (Rep.same m rw')).andR (fr:=fr)
       obtain⟨_,_,z1,z2,_⟩:=this;cases z1;exact z2
theorem oR {ts:List Expr}{k:Nat}{tp:Pos}(hc:X.calm=true)(hg:Gl X "zip")(hm:X.mg "zip" = none)(ha:PE X a (tE X.K P f))(hb:PE X b (tE X.K P g))(hs:starEach [a,b] X.env=[(false,eval a X.env),(false,eval b X.env)]:=by rfl)(hs2:starEach [b] X.env=[(false,eval b X.env)]:=by rfl) :
 PI X (.Tuple ts k tp) (.Call (.Name "zip" p) [a,b] [] pos) (tI X.K P (mI f g)):=by
 refine PI.imp (aPe hc hg hm (aA ha (aA hb aQ hs2) (by rw[hs,hs2])) hs hs2) ?_
 intro σ H Rq h;refine two rfl h ?_
 intro H0 B ρ v w H' r r' d0 d g1 g2 s h;cases e1:asL r.d with
 | stk=>simp[e1]at h
 | exc x=>exact(eK e1).elim
 | ok xs =>
  cases e2:asL r'.d with
  | stk=>simp[e1,e2]at h
  | exc x=>exact(eK e2).elim
  | ok ys =>
   simp only[e1,e2,R.ok_bind]at h;obtain⟨a1,xs1,h1,h2,h3⟩:=g1.list (dQ e1);obtain⟨a2,xs2,k1,k2,k3⟩:=g2.list (dQ e2);refine⟨a1,a2,by rw[h1,k1],⟨xs1,.inl h2⟩,⟨xs2,.inl k2⟩,h _ H' (aK.refl _) (aJ2 (fun hk=>?_) h2 k2 h3 k3)⟩
   rw[Ed]at hk;exact⟨g1.notB d0 (dQ e1) h1 hk.1,g2.notB d0 (dQ e2) k1 hk.2⟩
end Mir
namespace Mir
open PySem L2
variable {X:Cx}{P:XP}{a b c e:Expr}{es:List Expr}{f g:FE}{fs:FEs}{pos:Pos}
mutual
def gOf (K:PySem.W.Frag):Tg->TG
 | .nm i=>zF i
 | .tp ts=>aKx K ts.length (kF K ts)
def kF (K:PySem.W.Frag):List Tg->TGs
 | []=>aK3
 | t :: ts=>aD2 (gOf K t) (kF K ts)
end
theorem vC {fr:Bool}:∀ (ts:List Tg) (ds:List D) (ρ ρ':Env),Tg.binds fr ts ds ρ=.ok ρ'->ds.length=ts.length
 | [],ds,ρ,ρ',e=>by
  cases ds with
  | nil=>rfl
  | cons d ds=>simp[Tg.binds]at e
 | t :: ts,ds,ρ,ρ',e=>by
  cases ds with
  | nil=>simp[Tg.binds]at e
  | cons d ds =>
   simp only[Tg.binds]at e;cases e1:Tg.bind fr t d ρ with
   | stk=>simp[e1]at e
   | exc x=>simp[e1]at e
   | ok ρ1 =>
    simp only[e1,R.ok_bind]at e;simp[vC ts ds ρ1 ρ' e]
section
variable {K:PySem.W.Frag}{G H:Hp}{fr:Bool}{I:St->Env->Prop}
mutual
theorem xQ (sub:aK G H)(hI:∀ σ ρ i d v,I σ ρ->Rep K G d v->I (σ.set i (some v)) (ρ.set i (some ⟨.shr,fr,d⟩))):∀ (t:Tg) (d:D) (v:V) (σ:St) (ρ ρ':Env) (Q:St->Hp->Prop),Tg.bind fr t d ρ=.ok ρ'->Rep K G d v->I σ ρ->(∀ σ',I σ' ρ'->Q σ' H)->gOf K t v σ H Q
 | .nm i,d,v,σ,ρ,ρ',Q,e,r,i0,q=>by
  unfold gOf;simp only[Tg.bind]at e;cases e;exact q _ (hI σ ρ i d v i0 r)
 | .tp ts,d,v,σ,ρ,ρ',Q,e,r,i0,q=>by
  unfold gOf;cases d with
  | tup ds =>
   simp only[Tg.bind]at e;obtain⟨a,xs,h1,h2,h3⟩:=r;have:=aBe sub hI ts ds xs σ ρ ρ' Q e h3 i0 q
   exact⟨a,xs,h1,.inl (.inl (sub _ _ h2)),by rw[←h3.length];exact this.2,this.1⟩
  | _=>simp[Tg.bind]at e
theorem aBe (sub:aK G H)(hI:∀ σ ρ i d v,I σ ρ->Rep K G d v->I (σ.set i (some v)) (ρ.set i (some ⟨.shr,fr,d⟩))):∀ (ts:List Tg) (ds:List D) (vs:List V) (σ:St) (ρ ρ':Env) (Q:St->Hp->Prop),Tg.binds fr ts ds ρ=.ok ρ'->aN K G ds vs->I σ ρ->(∀ σ',I σ' ρ'->Q σ' H)->kF K ts vs σ H Q/\ds.length=ts.length
 | [],ds,vs,σ,ρ,ρ',Q,e,r,i0,q=>by
  cases ds with
  | nil =>
   simp only[Tg.binds]at e;cases e;exact⟨by unfold kF;exact⟨r,q σ i0⟩,rfl⟩
  | cons d ds=>simp[Tg.binds]at e
 | t :: ts,ds,vs,σ,ρ,ρ',Q,e,r,i0,q=>by
  cases ds with
  | nil=>simp[Tg.binds]at e
  | cons d ds =>
   simp only[Tg.binds]at e;obtain⟨x,xr,h1,h2,h3⟩:=r;cases e1:Tg.bind fr t d ρ with
   | stk=>simp[e1]at e
   | exc x=>simp[e1]at e
   | ok ρ1 =>
    simp only[e1,R.ok_bind]at e;have len:=vC ts ds ρ1 ρ' e;refine⟨?_,by simp[len]⟩
    unfold kF;exact⟨x,xr,h1,xQ sub hI t d x σ ρ ρ1 _ e1 h2 i0 fun σ' i1=>(aBe sub hI ts ds xr σ' ρ1 ρ' Q e h3 i1 q).1⟩
end
end
theorem nU.to {K:PySem.W.Frag}{H0 H H':Hp}{B B':Addr->Prop}{v:V}{r:Res}(sm:aK H0 H)(g:nU K H0 H B v r)(k:∀ b o,H b=some o->¬ B b->H' b=some o)(ko:∀ b o,H b=some o->B b->r.k=.own->v=.ref b->H' b=some o/\B' b)(h:∀ b,B' b->B b\/H b=none):nU K H0 H' B' v r:=by
 unfold nU at g ⊢;have m:∀ fr,aK (aZ fr H0 H B) (aZ fr H0 H' B'):=fun fr=>aW k h;cases e:r.k with
 | shr=>rw[e]at g;exact Rep.same (m _) g
 | own =>
  rw[e]at g;obtain⟨a,o,h1,h2,h3,h4,h5⟩:=g;obtain⟨q1,q2⟩:=ko a _ h4 h2 e h1;exact⟨a,o,h1,q2,h3,q1,h5.same (m _)⟩
 | tmp=>rw[e]at g;exact g
 | old=>rw[e]at g;exact⟨g.1,Rep.same (eR (fun _ _ q _=>q) fun b z=>(h b z).imp id fun q=>sm.none q) g.2⟩
theorem DenE.to {K:PySem.W.Frag}{H0 H H':Hp}{B B':Addr->Prop}{σ:St}{ρ:Env}(d:DenE K H0 H B σ ρ)(s:aK H H')(hB:∀ b,B b->B' b)(h:∀ b,B' b->B b\/H b=none)(bnd:∀ b,B' b->∃ o,H' b=some o/\stab o=false):DenE K H0 H' B' σ ρ :=
 ⟨d.len,d.sam.trans s,bnd,fun i e he=>let ⟨v,a,g⟩:=d.ent i e he;⟨v,a,g.to d.sam (fun b o q _=>s b o q) (fun b o q q2 _ _=>⟨s b o q,hB b q2⟩) h⟩⟩
theorem DenE.set {K:PySem.W.Frag}{H0 H:Hp}{B:Addr->Prop}{σ:St}{ρ:Env}{i:Nat}{v:V}{r:Res}(d:DenE K H0 H B σ ρ)(g:nU K H0 H B v r):DenE K H0 H B (σ.set i (some v)) (ρ.set i (some r)):=by
 refine⟨by rw[Ar,Ar];exact d.len,d.sam,d.bnd,fun j e he=>?_⟩
 by_cases hj:i=j
 · subst hj
   by_cases hi:i<ρ.length
   · rw[Ay hi]at he
     cases he;exact⟨v,Ay (by rw[←d.len];exact hi),g⟩
   · rw[Cc (by rw[Ar];omega)]at he
     cases he
 · rw[Av hj]at he
   obtain⟨w,q1,q2⟩:=d.ent j e he;exact⟨w,by rw[Av hj];exact q1,q2⟩
theorem DenE.comp {K:PySem.W.Frag}{H0 H:Hp}{B:Addr->Prop}{σ:St}{ρ:Env}(d:DenE K H0 H B σ ρ)(k:Nat)(fs:List Nat):DenE K H0 H B (eZ k fs σ) (eW k fs ρ):=by
 refine⟨by simp[eZ,eW],d.sam,d.bnd,fun i e he=>?_⟩
 unfold eW at he;unfold eZ;by_cases hi:i<k
 · rw[Bl (by simpa using hi),Ci,if_pos hi]at he
   cases he
 · rw[Bb (by simpa using hi),Bu,Ax]at he
   rw[Bb (by simpa using hi),Bu,Ax]
   cases q:fs[i-k]? with
   | none=>rw[q]at he;cases he
   | some j =>
    rw[q]at he;simp only[Ev,Dh.injEq]at he ⊢
    have he':ρ[j]?=some (some e):=by
     cases z:ρ[j]? with
     | none=>rw[z]at he;cases he
     | some y=>rw[z]at he;simp at he;rw[he]
    obtain⟨v,q1,q2⟩:=d.ent j e he';exact⟨v,by rw[q1];rfl,q2⟩
def tBm (K:PySem.W.Frag)(P:XP)(f:FB):St->Hp->(Option V->Hp->Prop)->Prop:=fun σ H Q=>∃ H0 B ρ,DenE K H0 H B σ ρ/\match f ρ with
 | .ok (some r)=>∀ v H',aK H H'->aP K H0 H H' B v r->Q (some v) H'
 | .ok none=>∀ H',aK H H'->Q none H'
 | .exc x=>P.p x σ H
 | .stk=>False
theorem PB.imp {ifs:List Expr}{t t':St->Hp->(Option V->Hp->Prop)->Prop}(p:PB X ifs e t)(h:∀ σ H Q,t' σ H Q->t σ H Q):PB X ifs e t':=fun pins s σ H Q I q=>p pins s σ H Q I (h σ H Q q)
theorem bU (he:PE X e (tE X.K P f)):PB X [] e (tBm X.K P (bE f)):=by
 refine PB.imp (aOi he) ?_
 rintro σ H Q ⟨H0,B,ρ,d,h⟩
 unfold bE at h;show tE X.K P f σ H fun v H'=>Q (some v) H'
 cases e1:f ρ with
 | stk=>simp[e1]at h
 | exc x=>simp[e1]at h;exact dR d e1 h
 | ok r=>simp only[e1,R.ok_bind]at h;exact fO d e1 fun v H' s d' g'=>h v H' s g'
theorem aSq {t:FT}(hc:PT X c (tT X.K P t))(he:PE X e (tE X.K P f)):PB X [c] e (tBm X.K P (Mir.bIf t f)):=by
 refine PB.imp (aRz hc he) ?_
 rintro σ H Q ⟨H0,B,ρ,d,h⟩
 unfold Mir.bIf at h;show tT X.K P t σ H fun b H1=>if b=true then tE X.K P f σ H1 fun v H'=>Q (some v) H' else Q none H1
 refine⟨H0,B,ρ,d,?_⟩
 cases e1:t ρ with
 | stk=>simp[e1]at h
 | exc x=>simp[e1]at h;exact h
 | ok k =>
  simp only[e1,R.ok_bind]at h;intro H1 s1;cases k with
  | false=>exact aIb (h H1 s1)
  | true =>
   refine aJd ⟨H0,B,ρ,d.mono s1,?_⟩
   rw[if_pos rfl]at h;cases e2:f ρ with
   | stk=>simp[e2]at h
   | exc x=>simp[e2]at h;exact P.mono h s1
   | ok r=>simp only[e2,R.ok_bind]at h;exact fun v H' s g'=>h v H' (s1.trans s) (g'.old s1)
theorem yY {fr:Bool}{x:Xc}:∀ (t:Tg) (d:D) (ρ:Env),Tg.bind fr t d ρ=.exc x->False:=by
 have hs:∀ (n:Nat),(∀ (t:Tg) (d:D) (ρ:Env),sizeOf t<=n->Tg.bind fr t d ρ=.exc x->False)/\(∀ (ts:List Tg) (ds:List D) (ρ:Env),sizeOf ts<=n->Tg.binds fr ts ds ρ=.exc x->False):=by
  intro n;induction n with
  | zero =>
   refine⟨fun t d ρ h=>?_,fun ts ds ρ h=>?_⟩
   · cases t<;>simp at h
   · cases ts<;>simp at h
  | succ n ih =>
   refine⟨fun t d ρ h e=>?_,fun ts ds ρ h e=>?_⟩
   · cases t with
     | nm i=>simp[Tg.bind]at e
     | tp ts =>
      cases d with
      | tup ds=>simp only[Tg.bind]at e;exact ih.2 ts ds ρ (by simp at h;omega) e
      | _=>simp[Tg.bind]at e
   · cases ts with
     | nil=>cases ds<;>simp[Tg.binds]at e
     | cons t ts =>
      cases ds with
      | nil=>simp[Tg.binds]at e
      | cons d ds =>
       simp only[Tg.binds]at e;simp at h
       cases e1:Tg.bind fr t d ρ with
       | stk=>simp[e1]at e
       | exc y=>simp[e1]at e;subst e;exact ih.1 t d ρ (by omega) e1
       | ok ρ1=>simp only[e1,R.ok_bind]at e;exact ih.2 ts ds ρ1 (by omega) e
 exact fun t d ρ e=>(hs (sizeOf t)).1 t d ρ (Ah _) e
theorem tP {tg:Tg}{fb:FB}{fr:Bool}{ρ:Env}{x:Xc}:∀ {ds:List D},iT tg fb fr ρ ds=.exc x->False
 | [],e=>by simp[iT]at e
 | d :: r,e=>by
  simp only[iT]at e;cases e1:tg.bind fr d ρ with
  | stk=>simp[e1]at e
  | exc y=>exact yY _ _ _ e1
  | ok ρ1 =>
   simp only[e1,R.ok_bind]at e;cases e2:fb ρ1 with
   | stk=>simp[e2]at e
   | exc y=>simp[e2]at e
   | ok o =>
    cases o with
    | none=>simp only[e2]at e;exact tP e
    | some r' =>
     simp only[e2]at e;cases e3:r'.give with
     | stk=>simp[e3]at e
     | exc y=>unfold Res.give at e3;split at e3<;>cases e3
     | ok z =>
      simp only[e3,R.ok_bind]at e;cases e4:iT tg fb fr ρ r with
      | stk=>simp[e4]at e
      | exc y=>exact tP e4
      | ok z=>simp[e4]at e
theorem aI3 {K:PySem.W.Frag}{H0 H H1:Hp}{B:Addr->Prop}{σ:St}{ρ:Env}{J:It}{w:Its}{k:Nat}{fs:List Nat}{tg:Tg}{fb:FB}{y:Bool×List D}{acc:Addr}{Qf:Hp->Prop}
 (d:DenE K H0 H B σ ρ) (s1:aK H H1) (hw:uC K H0 H1 B J w) (e:iT tg fb w.fr (eW k fs ρ) w.ds=.ok y) (hz:w.ds.length<=sizeLine) (hacc:H1 acc=none)
 (hq:∀ H2,aK H H2->aP K H0 H H2 B (.ref acc) ⟨.tmp,y.1,.lst y.2⟩->Qf H2):xA J k fs (gOf K tg) (tBm K XP0 fb) σ acc Qf H1:=by
 obtain⟨A,hst,hwk⟩:=hw;have hacc0:H acc=none:=s1.none hacc;have nB:¬ B acc:=fun z=>by obtain⟨o,q,_⟩:=d.bnd acc z;rw[hacc0]at q;cases q
 refine⟨fun i m ys H2=>m=w.ds.length-i/\i<=w.ds.length/\ys.length<=i/\aK H1 H2/\H2 acc=some (.lst ys)/\∃ es1 esS frS,y.2=es1++esS/\iT tg fb w.fr (eW k fs ρ) (w.ds.drop i)=.ok (frS,esS)/\(y.1=true->frS=true) /\
  aN K (aZ y.1 H0 H2 fun b=>B b\/b=acc) es1 ys,⟨w.ds.length,rfl,De _,Ah _,aK.upd_new hacc,cK,[],y.2,y.1,rfl,e,fun h=>h,rfl⟩,?_⟩
 rintro i m ys H2 ⟨hm,hi,hys,s2,ha2,es1,esS,frS,hy,hS,hfr,hR⟩
 refine⟨ha2,?_⟩
 have sH2:=s1.trans s2
 have bnd2:∀ b,(B b\/b=acc)->∃ o,H2 b=some o/\stab o=false:=fun b z=>by
  rcases z with z | z
  · obtain⟨o,q,n⟩:=d.bnd b z
    exact⟨o,sH2 _ _ q,n⟩
  · exact⟨_,by rw[z];exact ha2,rfl⟩
 have cond:∀ b,(B b\/b=acc)->B b\/H1 b=none:=fun b z=>z.imp id fun z=>by rw[z];exact hacc
 have cond0:∀ b,(B b\/b=acc)->B b\/H b=none:=fun b z=>z.imp id fun z=>by rw[z];exact hacc0
 have wk:=hwk H2 (fun b=>B b\/b=acc) (fun a o _ q=>s2 _ _ q) (fun b o q _=>s2 _ _ q) cond (fun b z=>let ⟨o,q,_⟩:=bnd2 b z;⟨o,q⟩) (d.sam.trans sH2) i
 by_cases hlt:i<w.ds.length
 · refine .inr ?_
   have hd:w.ds[i]?=some w.ds[i]:=Ac hlt;obtain⟨go,yl⟩:=wk.2 _ hd;refine⟨go,Cg hys (Af hlt hz),fun x H3 y3=>?_⟩
   obtain⟨s3,rx⟩:=yl x H3 y3;rw[List.drop_eq_getElem_cons hlt]at hS;simp only[iT]at hS
   have den3:DenE K H0 H3 (fun b=>B b\/b=acc) (eZ k fs σ) (eW k fs ρ) :=
    (d.to (sH2.trans s3) (fun b z=>.inl z) cond0 fun b z=>let ⟨o,q,n⟩:=bnd2 b z;⟨o,s3 _ _ q,n⟩).comp k fs
   cases e1:tg.bind w.fr w.ds[i] (eW k fs ρ) with
   | stk=>simp[e1]at hS
   | exc x=>simp[e1]at hS
   | ok ρ1 =>
    simp only[e1,R.ok_bind]at hS;refine xQ (G:=aZ w.fr H0 H3 fun b=>B b\/b=acc) (fr:=w.fr) (I:=fun σ' ρ'=>DenE K H0 H3 (fun b=>B b\/b=acc) σ' ρ') jA (fun σ' ρ' i d' v' D r=>D.set r) tg _ x _ _ ρ1 _ e1 rx den3 fun σ4 den4=>?_
    refine⟨H0,_,ρ1,den4,?_⟩
    cases e2:fb ρ1 with
    | stk=>simp[e2]at hS
    | exc x=>simp[e2]at hS
    | ok o =>
     cases o with
     | none =>
      simp only[e2]at hS;intro H5 s5;refine⟨w.ds.length-(i+1),by omega,rfl,hlt,by omega,(s2.trans s3).trans s5,s5 _ _ (s3 _ _ ha2),es1,esS,frS,hy,hS,hfr,aN.same (aW (fun b o q _=>s5 _ _ (s3 _ _ q)) fun b z=>.inl z) hR⟩
     | some r =>
      simp only[e2]at hS;cases e3:r.give with
      | stk=>simp[e3]at hS
      | exc x=>simp[e3]at hS
      | ok r' =>
       simp only[e3,R.ok_bind]at hS;cases e4:iT tg fb w.fr (eW k fs ρ) (w.ds.drop (i+1)) with
       | stk=>simp[e4]at hS
       | exc x=>simp[e4]at hS
       | ok z =>
        simp only[e4,R.ok_bind]at hS;cases hS;intro v H5 s5 g5;obtain⟨q1,q2⟩:=g5.give den4 e3;subst q1;refine⟨s5 _ _ (s3 _ _ ha2),w.ds.length-(i+1),by omega,rfl,hlt,by simp;omega,?_,cK,es1++[r.d],z.2,z.1,by rw[hy];simp,e4,fun h=>?_,?_⟩
        · intro b o q
          rw[bI (bL q hacc)];exact s5 _ _ (s3 _ _ (s2 _ _ q))
        · have:=hfr h
          simp at this
          exact this.2
        · have m:∀ fr,aK (aZ fr H0 H5 fun b=>B b\/b=acc) (aZ fr H0 (upd H5 acc (.lst (ys++[v]))) fun b=>B b\/b=acc):=fun fr=>aW (fun b o q n=>by rw[bI (fun z=>n (.inr z))];exact q) fun b z=>.inl z
          have m2:aK (aZ y.1 H0 H2 fun b=>B b\/b=acc) (aZ y.1 H0 H5 fun b=>B b\/b=acc):=aW (fun b o q _=>s5 _ _ (s3 _ _ q)) fun b z=>.inl z;refine aN.append (aN.same (m _) (aN.same m2 hR)) (aN.one (Rep.same (m _) ?_))
          cases hy1:y.1 with
          | false=>exact Rep.same iX q2
          | true =>
           have:=hfr hy1
           simp at this
           rw[this.1]at q2;exact q2
 · have hi':i=w.ds.length:=by omega
   refine .inl ⟨wk.1 (by omega),hq H2 sH2 ⟨acc,_,rfl,hacc0,ha2,.lst ?_⟩⟩
   rw[El (by omega)]at hS
   simp only[iT]at hS;cases hS;rw[hy,Cv];exact hR
variable {scope:Scope}{N:List Str}{k:Nat}{cs:List Nat}{tg iter elt:Expr}{ifs:List Expr}{t:Tg}{it:FI}{fb:FB}
theorem aJ4 (σ:St)(H:Hp)(Q:VK)(h:tE X.K P (aS it k cs t fb) σ H Q):aNs (tI X.K P it) k cs (gOf X.K t) (tBm X.K XP0 fb) σ H Q:=by
 obtain⟨H0,B,ρ,d,h⟩:=h;unfold aS at h;refine⟨H0,B,ρ,d,?_⟩
 cases e:it ρ with
 | stk=>simp[e]at h
 | exc x=>simp[e]at h;exact h
 | ok w =>
  simp only[e,R.ok_bind]at h;intro J H1 s1 hw acc hacc;cases e2:iT t fb w.fr (eW k cs ρ) w.ds with
  | stk=>simp[e2]at h
  | exc x=>exact(tP e2).elim
  | ok y =>
   simp only[e2,R.ok_bind]at h;by_cases hz:w.ds.length<=sizeLine
   · rw[if_pos hz]at h
     exact aI3 d s1 hw e2 hz hacc fun H2 s2 g2=>h _ H2 s2 g2
   · rw[if_neg hz]at h;exact h.elim
theorem cO (hc:X.calm=true)(C:CompOk X scope N k cs)(hi:PI X tg iter (tI X.K P it))(hg:∀ fp s H,PG (cT X scope N fp s H) tg (gOf X.K t))(gl:xX k (gOf X.K t))(hb:∀ fp s H,PB (cT X scope N fp s H) ifs elt (tBm X.K XP0 fb))
 (hs:∀ x,foldedSetIterable iter X.env x=pure x:=by intro _;rfl):PE X (.ListComp elt [⟨tg,iter,ifs,0⟩] scope pos) (tE X.K P (aS it k cs t fb)) :=
 PE.imp (aMg hc C hi hg gl hb hs) aJ4
end Mir
namespace Mir
open PySem L2
variable {X:Cx}{P:XP}{a b c e:Expr}{es:List Expr}{f g:FE}{fs:FEs}{pos:Pos}
def eP (σ:St)(ρ:Env)(i:Nat)(a:Addr):Prop:=σ[i]?=some (some (.ref a))/\∃ e,ρ[i]?=some (some e)/\e.k=.own
def mC (σ:St)(ρ:Env)(a:Addr):Prop:=∃ i,eP σ ρ i a
abbrev Bs (T:Addr->Prop)(σ:St)(ρ:Env):Addr->Prop:=fun a=>mC σ ρ a\/T a
structure DenS (K:PySem.W.Frag)(H0 H:Hp)(T:Addr->Prop)(σ:St)(ρ:Env):Prop where
 e:DenE K H0 H (Bs T σ ρ) σ ρ
 sep:∀ a,mC σ ρ a->¬ T a
 dis:∀ i j a,eP σ ρ i a->eP σ ρ j a->i=j
structure Ext (H:Hp)(σ:St)(ρ:Env)(H':Hp)(σ':St)(ρ':Env):Prop where
 kp:∀ b o,H b=some o->¬ mC σ ρ b->H' b=some o
 ow:∀ b,mC σ' ρ' b->mC σ ρ b\/H b=none
section
variable {K:PySem.W.Frag}{H0 H H' H'':Hp}{T:Addr->Prop}{σ σ' σ'':St}{ρ ρ' ρ'':Env}
theorem Ext.refl:Ext H σ ρ H σ ρ:=⟨fun _ _ h _=>h,fun _ h=>.inl h⟩
theorem Ext.trans (x:Ext H σ ρ H' σ' ρ')(y:Ext H' σ' ρ' H'' σ'' ρ''):Ext H σ ρ H'' σ'' ρ'':=by
 refine⟨fun b o h n=>y.kp b o (x.kp b o h n) fun z=>?_,fun b z=>?_⟩
 · rcases x.ow b z with q | q
   · exact n q
   · rw[h]at q;cases q
 · rcases y.ow b z with q | q
   · exact x.ow b q
   · cases e:H b with
     | none=>exact .inr rfl
     | some o =>
      by_cases hb:mC σ ρ b
      · exact .inl hb
      · rw[x.kp b o e hb]at q;cases q
theorem Ext.same (s:aK H H'):Ext H σ ρ H' σ ρ:=⟨fun b o h _=>s b o h,fun _ h=>.inl h⟩
theorem DenS.mono (d:DenS K H0 H T σ ρ)(s:aK H H'):DenS K H0 H' T σ ρ:=⟨d.e.mono s,d.sep,d.dis⟩
theorem fQ {i j:Nat}{v:V}{r:Res}{a:Addr}(h:eP (σ.set i (some v)) (ρ.set i (some r)) j a):(j=i/\v=.ref a/\r.k=.own)\/(j≠i/\eP σ ρ j a):=by
 obtain⟨h1,e,h2,h3⟩:=h;by_cases hj:i=j
 · subst hj
   by_cases hi:i<σ.length
   · rw[Ay hi]at h1
     cases h1;by_cases hr:i<ρ.length
     · rw[Ay hr]at h2;cases h2
       exact .inl ⟨rfl,rfl,h3⟩
     · rw[Cc (by rw[Ar];omega)]at h2;cases h2
   · rw[Cc (by rw[Ar];omega)]at h1;cases h1
 · rw[Av hj]at h1 h2
   exact .inr ⟨fun z=>hj z.symm,h1,e,h2,h3⟩
theorem sA {i j:Nat}{v:V}{r:Res}{a:Addr}(h:eP σ ρ j a)(hj:j≠i):eP (σ.set i (some v)) (ρ.set i (some r)) j a:=by
 obtain⟨h1,e,h2,h3⟩:=h;exact⟨by rw[Av (Ne.symm hj)];exact h1,e,by rw[Av (Ne.symm hj)];exact h2,h3⟩
theorem DenS.set_shr {i:Nat}{v:V}{fr:Bool}{dd:D}(d:DenS K H0 H T σ ρ)(r:Rep K (aZ fr H0 H (Bs T σ ρ)) dd v):DenS K H0 H T (σ.set i (some v)) (ρ.set i (some ⟨.shr,fr,dd⟩))/\∀ a,mC (σ.set i (some v)) (ρ.set i (some ⟨.shr,fr,dd⟩)) a->mC σ ρ a:=by
 have sub:∀ a,mC (σ.set i (some v)) (ρ.set i (some ⟨.shr,fr,dd⟩)) a->mC σ ρ a:=fun a ⟨j,h⟩=>by
  rcases fQ h with ⟨_,_,h⟩ | ⟨_,h⟩
  · cases h
  · exact⟨j,h⟩
 have subB:∀ a,Bs T (σ.set i (some v)) (ρ.set i (some ⟨.shr,fr,dd⟩)) a->Bs T σ ρ a:=fun a z=>z.imp (sub a) id;refine⟨⟨⟨by rw[Ar,Ar];exact d.e.len,d.e.sam,fun b z=>d.e.bnd b (subB b z),fun j e he=>?_⟩,fun a z=>d.sep a (sub a z),fun j k a h1 h2=>?_⟩,sub⟩
 · by_cases hj:i=j
   · subst hj
     by_cases hi:i<ρ.length
     · rw[Ay hi]at he
       cases he;exact⟨v,Ay (by rw[←d.e.len];exact hi),Rep.same (aW (fun _ _ q _=>q) fun b z=>.inl (subB b z)) r⟩
     · rw[Cc (by rw[Ar];omega)]at he;cases he
   · rw[Av hj]at he
     obtain⟨w,q1,q2⟩:=d.e.ent j e he;refine⟨w,by rw[Av hj];exact q1,q2.to d.e.sam (fun _ _ q _=>q) (fun b o q _ k1 k2=>⟨q,.inl ⟨j,sA ⟨by rw[q1,k2],e,he,k1⟩ (fun z=>hj z.symm)⟩⟩) fun b z=>.inl (subB b z)⟩
 · rcases fQ h1 with ⟨_,_,h⟩ | ⟨_,h1⟩
   · cases h
   · rcases fQ h2 with ⟨_,_,h⟩ | ⟨_,h2⟩
     · cases h
     · exact d.dis j k a h1 h2
theorem DenS.set_con {i:Nat}{a:Addr}{o:HO}{dd:D}{fr:Bool}(d:DenS K H0 H T σ ρ)(s:aK H H')(ha:H a=none)(ha':H' a=some o)(r:fX K (aZ fr H0 H' fun b=>Bs T σ ρ b\/b=a) dd o) :
 DenS K H0 H' T (σ.set i (some (.ref a))) (ρ.set i (some ⟨.own,fr,dd⟩))/\Ext H σ ρ H' (σ.set i (some (.ref a))) (ρ.set i (some ⟨.own,fr,dd⟩)):=by
 have sub:∀ b,mC (σ.set i (some (.ref a))) (ρ.set i (some ⟨.own,fr,dd⟩)) b->mC σ ρ b\/b=a:=fun b ⟨j,h⟩=>by
  rcases fQ h with ⟨_,h,_⟩ | ⟨_,h⟩
  · cases h;exact .inr rfl
  · exact .inl ⟨j,h⟩
 have subB:∀ b,Bs T (σ.set i (some (.ref a))) (ρ.set i (some ⟨.own,fr,dd⟩)) b->Bs T σ ρ b\/b=a:=fun b z=>by
  rcases z with z | z
  · exact(sub b z).imp .inl id
  · exact .inl (.inr z)
 have subH:∀ b,Bs T (σ.set i (some (.ref a))) (ρ.set i (some ⟨.own,fr,dd⟩)) b->Bs T σ ρ b\/H b=none:=fun b z=>(subB b z).imp id fun z=>by rw[z];exact ha
 have nB:∀ b,Bs T σ ρ b->b≠a:=fun b z q=>by obtain⟨o,w,_⟩:=d.e.bnd b z;rw[q,ha]at w;cases w
 refine⟨⟨⟨by rw[Ar,Ar];exact d.e.len,d.e.sam.trans s,fun b z=>?_,fun j e he=>?_⟩,fun b z=>?_,fun j k b h1 h2=>?_⟩,fun b o h _=>s b o h,fun b z=>(sub b z).imp id fun z=>by rw[z];exact ha⟩
 · rcases subB b z with z | z
   · obtain⟨o,w,n⟩:=d.e.bnd b z;exact⟨o,s _ _ w,n⟩
   · exact⟨_,by rw[z];exact ha',r.stab⟩
 · by_cases hj:i=j
   · subst hj
     by_cases hi:i<ρ.length
     · rw[Ay hi]at he
       cases he;have hσ:(σ.set i (some (V.ref a)))[i]?=some (some (V.ref a)):=Ay (by rw[←d.e.len];exact hi)
       refine⟨.ref a,hσ,a,o,rfl,.inl ⟨i,hσ,_,Ay hi,rfl⟩,d.e.sam.none ha,ha',r.same (aW (fun _ _ q _=>q) fun b z=>.inl (subB b z))⟩
     · rw[Cc (by rw[Ar];omega)]at he;cases he
   · rw[Av hj]at he
     obtain⟨w,q1,q2⟩:=d.e.ent j e he;refine⟨w,by rw[Av hj];exact q1,q2.to d.e.sam (fun _ _ q _=>s _ _ q) (fun b o q _ k1 k2=>⟨s _ _ q,.inl ⟨j,sA ⟨by rw[q1,k2],e,he,k1⟩ (fun z=>hj z.symm)⟩⟩) subH⟩
 · rcases sub b z with z | z
   · exact d.sep b z
   · intro q;exact nB b (.inr q) z
 · rcases fQ h1 with ⟨e1,h,_⟩ | ⟨_,h1⟩
   · cases h
     rcases fQ h2 with ⟨e2,_,_⟩ | ⟨_,h2⟩
     · rw[e1,e2]
     · exact absurd rfl (nB _ (.inl ⟨k,h2⟩))
   · rcases fQ h2 with ⟨_,h,_⟩ | ⟨_,h2⟩
     · cases h;exact absurd rfl (nB _ (.inl ⟨j,h1⟩))
     · exact d.dis j k b h1 h2
theorem DenS.writeO {i:Nat}{a:Addr}{e:Res}{o':HO}{dd:D}{fr:Bool}(d:DenS K H0 H T σ ρ)(hσ:σ[i]?=some (some (.ref a)))(he:ρ[i]?=some (some e))(hk:e.k=.own)(h0:H0 a=none)(r:fX K (aZ fr H0 H (Bs T σ ρ)) dd o') :
 DenS K H0 (upd H a o') T σ (ρ.set i (some ⟨.own,fr,dd⟩))/\Ext H σ ρ (upd H a o') σ (ρ.set i (some ⟨.own,fr,dd⟩)):=by
 have oi:eP σ ρ i a:=⟨hσ,e,he,hk⟩
 have hi:i<ρ.length:=by
  obtain⟨h,_⟩:=Aw.mp he;exact h
 have fwd:∀ j b,eP σ (ρ.set i (some ⟨.own,fr,dd⟩)) j b->eP σ ρ j b:=fun j b ⟨h1,e',h2,h3⟩=>by
  by_cases hj:i=j
  · subst hj;exact⟨h1,e,he,hk⟩
  · rw[Av hj]at h2;exact⟨h1,e',h2,h3⟩
 have bwd:∀ j b,eP σ ρ j b->eP σ (ρ.set i (some ⟨.own,fr,dd⟩)) j b:=fun j b ⟨h1,e',h2,h3⟩=>by
  by_cases hj:i=j
  · subst hj;exact⟨h1,_,Ay hi,rfl⟩
  · exact⟨h1,e',by rw[Av hj];exact h2,h3⟩
 have subB:∀ b,Bs T σ (ρ.set i (some ⟨.own,fr,dd⟩)) b->Bs T σ ρ b:=fun b z=>z.imp (fun⟨j,h⟩=>⟨j,fwd j b h⟩) id;have Ba:Bs T σ ρ a:=.inl ⟨i,oi⟩;have kp:∀ b o,H b=some o->¬ Bs T σ ρ b->upd H a o' b=some o:=fun b o q n=>by rw[bI (fun z=>n (by rw[z];exact Ba))];exact q
 refine⟨⟨⟨by rw[Ar];exact d.e.len,fun b o q=>?_,fun b z=>?_,fun j e' he'=>?_⟩,fun b z=>d.sep b (let ⟨j,h⟩:=z;⟨j,fwd j b h⟩),fun j k b h1 h2=>d.dis j k b (fwd j b h1) (fwd k b h2)⟩,fun b o q n=>?_,fun b z=>.inl (let ⟨j,h⟩:=z;⟨j,fwd j b h⟩)⟩
 · rw[bI (bL q h0)];exact d.e.sam b o q
 · by_cases hb:b=a
   · subst hb;exact⟨_,cK,r.stab⟩
   · obtain⟨o,w,n⟩:=d.e.bnd b (subB b z);exact⟨o,by rw[bI hb];exact w,n⟩
 · by_cases hj:i=j
   · subst hj
     rw[Ay hi]at he';cases he';exact⟨.ref a,hσ,a,o',rfl,.inl ⟨i,bwd i a oi⟩,h0,cK,r.same (aW kp fun b z=>.inl (subB b z))⟩
   · rw[Av hj]at he'
     obtain⟨w,q1,q2⟩:=d.e.ent j e' he';refine⟨w,q1,q2.to d.e.sam kp (fun b o q _ k1 k2=>?_) fun b z=>.inl (subB b z)⟩
     have oj:eP σ ρ j b:=⟨by rw[q1,k2],e',he',k1⟩
     refine⟨?_,.inl ⟨j,bwd j b oj⟩⟩
     rw[bI (fun z=>hj (d.dis i j a oi (by rw[z]at oj;exact oj)))]
     exact q
 · rw[bI (fun z=>n (by rw[z];exact⟨i,oi⟩))];exact q
theorem DenS.write {i:Nat}{a:Addr}{e:Res}{vs:List V}{ds:List D}{fr:Bool}(d:DenS K H0 H T σ ρ)(hσ:σ[i]?=some (some (.ref a)))(he:ρ[i]?=some (some e))(hk:e.k=.own)(h0:H0 a=none)(r:aN K (aZ fr H0 H (Bs T σ ρ)) ds vs) :
 DenS K H0 (upd H a (.lst vs)) T σ (ρ.set i (some ⟨.own,fr,.lst ds⟩))/\Ext H σ ρ (upd H a (.lst vs)) σ (ρ.set i (some ⟨.own,fr,.lst ds⟩)):=d.writeO hσ he hk h0 (.lst r)
theorem qB {i:Nat}{y:Bool×List D}(h:nJ i ρ=.ok y):ρ[i]?=some (some ⟨.own,y.1,.lst y.2⟩):=by
 unfold nJ at h;split at h
 · rename_i e;cases h;exact e
 · cases h
theorem DenS.own {i:Nat}{fr:Bool}{ds:List D}(d:DenS K H0 H T σ ρ)(he:ρ[i]?=some (some ⟨.own,fr,.lst ds⟩)):∃ a vs,σ[i]?=some (some (.ref a))/\H0 a=none/\H a=some (.lst vs)/\aN K (aZ fr H0 H (Bs T σ ρ)) ds vs:=by
 obtain⟨v,q1,a,o,h1,h2,h3,h4,vs,h5,h6⟩:=d.e.ent i _ he;subst h1;subst h5;exact⟨a,vs,q1,h3,h4,h6⟩
theorem DenS.freeze (d:DenS K H0 H T σ ρ)(i:Nat):DenS K H0 H T σ (frz i ρ)/\Ext H σ ρ H σ (frz i ρ):=by
 unfold frz;split
 · rename_i e he
   have hi:i<ρ.length:=by
    obtain⟨h,_⟩:=Aw.mp he;exact h
   have fwd:∀ j b,eP σ (ρ.set i (some ⟨.shr,e.fr,e.d⟩)) j b->j≠i/\eP σ ρ j b:=fun j b ⟨h1,e',h2,h3⟩=>by
    by_cases hj:i=j
    · subst hj;rw[Ay hi]at h2;cases h2;cases h3
    · rw[Av hj]at h2;exact⟨fun z=>hj z.symm,h1,e',h2,h3⟩
   have subB:∀ b,Bs T σ (ρ.set i (some ⟨.shr,e.fr,e.d⟩)) b->Bs T σ ρ b:=fun b z=>z.imp (fun⟨j,h⟩=>⟨j,(fwd j b h).2⟩) id;refine⟨⟨⟨by rw[Ar];exact d.e.len,d.e.sam,fun b z=>d.e.bnd b (subB b z),fun j e' he'=>?_⟩,fun b z=>d.sep b (let ⟨j,h⟩:=z;⟨j,(fwd j b h).2⟩),fun j k b h1 h2=>d.dis j k b (fwd j b h1).2 (fwd k b h2).2⟩,fun b o q _=>q,fun b z=>.inl (let ⟨j,h⟩:=z;⟨j,(fwd j b h).2⟩)⟩
   by_cases hj:i=j
   · subst hj
     rw[Ay hi]at he';cases he';obtain⟨w,q1,q2⟩:=d.e.ent i e he;refine⟨w,q1,?_⟩
     have m:aK (aZ e.fr H0 H (Bs T σ ρ)) (aZ e.fr H0 H (Bs T σ (ρ.set i (some ⟨.shr,e.fr,e.d⟩)))):=aW (fun _ _ q _=>q) fun b z=>.inl (subB b z);unfold nU at q2;cases k:e.k with
     | shr=>rw[k]at q2;exact Rep.same m q2
     | own =>
      rw[k]at q2;obtain⟨a,o,h1,h2,h3,h4,h5⟩:=q2;show Rep K (aZ e.fr H0 H (Bs T σ (ρ.set i (some ⟨.shr,e.fr,e.d⟩)))) e.d w
      rw[h1];refine h5.rep m (aO.mpr ⟨fun z=>?_,h4⟩)
      rcases z with z | ⟨_,o,z,_⟩
      · rcases z with ⟨j,z⟩ | z
        · obtain⟨z1,z2⟩:=fwd j a z
          exact z1 (d.dis j i a z2 ⟨by rw[q1,h1],e,he,k⟩)
        · exact d.sep a ⟨i,by rw[q1,h1],e,he,k⟩ z
      · rw[h3]at z;cases z
     | tmp=>rw[k]at q2;exact q2.elim
     | old =>
      rw[k]at q2;refine Rep.same (fun b o q=>?_) q2.2
      obtain⟨n,q⟩:=aO.mp q;refine aO.mpr ⟨fun z=>?_,d.e.sam b o q⟩
      rcases z with z | ⟨z,_⟩
      · exact n (subB b z)
      · rw[q2.1]at z;cases z
   · rw[Av hj]at he'
     obtain⟨w,q1,q2⟩:=d.e.ent j e' he';refine⟨w,q1,q2.to d.e.sam (fun _ _ q _=>q) (fun b o q _ k1 k2=>⟨q,.inl ⟨j,by rw[q1,k2],e',by rw[Av hj];exact he',k1⟩⟩) fun b z=>.inl (subB b z)⟩
 · exact⟨d,Ext.refl⟩
end
end Mir
namespace Mir
open PySem L2
variable {X:Cx}{P:XP}{a b c e:Expr}{es:List Expr}{f g:FE}{fs:FEs}{pos:Pos}
def jX (K:PySem.W.Frag)(H0 H':Hp)(T:Addr->Prop)(v:V)(r:Res):Prop :=
 match r.k with
 | .shr=>Rep K (aZ r.fr H0 H' T) r.d v
 | _=>∃ a o,v=.ref a/\H0 a=none/\H' a=some o/\fX K (aZ r.fr H0 H' fun b=>T b\/b=a) r.d o
def gW (K:PySem.W.Frag)(P:XP)(D:Ends)(H0:Hp)(T:Addr->Prop)(H:Hp)(σ:St)(ρ:Env)(r:RS):Prop :=
 match r with
 | .nx ρ'=>∀ σ' H',DenS K H0 H' T σ' ρ'->Ext H σ ρ H' σ' ρ'->D.nx σ' H'
 | .bk ρ'=>∀ σ' H',DenS K H0 H' T σ' ρ'->Ext H σ ρ H' σ' ρ'->D.bk σ' H'
 | .ct ρ'=>∀ σ' H',DenS K H0 H' T σ' ρ'->Ext H σ ρ H' σ' ρ'->D.ct σ' H'
 | .rt r=>∀ v H',aK H0 H'->jX K H0 H' T v r->D.rt v H'
 | .exc x ρ'=>∀ σ' H',DenS K H0 H' T σ' ρ'->Ext H σ ρ H' σ' ρ'->P.p x σ' H'
 | .stk=>False
def tS (K:PySem.W.Frag)(P:XP)(F:FS):TS:=fun D σ H=>∃ H0 T ρ,DenS K H0 H T σ ρ/\gW K P D H0 T H σ ρ (F ρ)
theorem gW.trans {K:PySem.W.Frag}{D:Ends}{H0 H H1:Hp}{T:Addr->Prop}{σ σ1:St}{ρ ρ1:Env}{r:RS}(x:Ext H σ ρ H1 σ1 ρ1)(h:gW K P D H0 T H σ ρ r):gW K P D H0 T H1 σ1 ρ1 r:=by
 cases r with
 | nx ρ'=>exact fun σ' H' d y=>h σ' H' d (x.trans y)
 | bk ρ'=>exact fun σ' H' d y=>h σ' H' d (x.trans y)
 | ct ρ'=>exact fun σ' H' d y=>h σ' H' d (x.trans y)
 | rt r=>exact h
 | exc z ρ'=>exact fun σ' H' d y=>h σ' H' d (x.trans y)
 | stk=>exact h
theorem PS.imp {st:Stmt}{t t':TS}(p:PS X st t)(h:∀ D σ H,t' D σ H->t D σ H):PS X st t':=fun pins s σ H D I q=>p pins s σ H D I (h D σ H q)
theorem PSs.imp {st:List Stmt}{t t':TS}(p:PSs X st t)(h:∀ D σ H,t' D σ H->t D σ H):PSs X st t':=fun pins s σ H D I q=>p pins s σ H D I (h D σ H q)
variable {st:Stmt}{rest:List Stmt}{F G:FS}
theorem dP:PSs X [] (tS X.K P cG):=PSs.imp aD4 fun D σ H ⟨H0,T,ρ,d,h⟩=>h σ H d Ext.refl
theorem aRx {K:PySem.W.Frag}(D:Ends)(σ:St)(H:Hp)(h:tS K P (aI F G) D σ H):aG1 (tS K P F) (tS K P G) D σ H:=by
 obtain⟨H0,T,ρ,d,h⟩:=h;refine⟨H0,T,ρ,d,?_⟩
 unfold aI at h;cases e:F ρ with
 | nx ρ1 =>
  rw[e]at h;exact fun σ1 H1 d1 x1=>⟨H0,T,ρ1,d1,h.trans x1⟩
 | bk ρ'=>rw[e]at h;exact h
 | ct ρ'=>rw[e]at h;exact h
 | rt r=>rw[e]at h;exact h
 | exc z ρ'=>rw[e]at h;exact h
 | stk=>rw[e]at h;exact h
theorem aE (h1:PS X st (tS X.K P F))(h2:PSs X rest (tS X.K P G)):PSs X (st :: rest) (tS X.K P (aI F G)):=PSs.imp (kL h1 h2) aRx
theorem aU (h1:PS X st (tS X.K P F)):PSs X [st] (tS X.K P F):=qL h1
theorem aGr {K:PySem.W.Frag}{k:Res->Env->RS}{D:Ends}{σ:St}{H:Hp}{q:VK}(hX:X.K=K)(h:tS K P (fun ρ=>(f ρ).at ρ fun r=>k r ρ) D σ H)
 (hk:∀ H0 T ρ v H' r,DenS K H0 H T σ ρ->DenS K H0 H' T σ ρ->aK H H'->aP K H0 H H' (Bs T σ ρ) v r->gW K P D H0 T H σ ρ (k r ρ)->q v H'):tE K P f σ H q:=by
 subst hX;obtain⟨H0,T,ρ,d,h⟩:=h;cases e:f ρ with
 | stk=>simp only[e,R.at]at h;exact h.elim
 | exc x=>simp only[e,R.at]at h;exact dR d.e e (h σ H d Ext.refl)
 | ok r =>
  simp only[e,R.at]at h;exact fO d.e e fun v H' s d' g'=>hk H0 T ρ v H' r d (d.mono s) s g' h
theorem aCd (he:PE X e (tE X.K P f))(hs:swapsWith e none pos.line X.env=pure false:=by rfl):PS X (.Expr e pos) (tS X.K P (kP f)):=by
 refine PS.imp (qK he hs) ?_
 intro D σ H h;exact aGr (q:=fun _ H1=>D.nx σ H1) rfl h fun H0 T ρ v H' r d d' s g h=>h σ H' d' (Ext.same s)
theorem aQh {K:PySem.W.Frag}{H0 H H':Hp}{T:Addr->Prop}{σ:St}{ρ:Env}{v:V}{r:Res}(d:DenS K H0 H T σ ρ)(g:aP K H0 H H' (Bs T σ ρ) v r):jX K H0 H' T v ⟨if r.k=.shr then .shr else .tmp,r.fr,r.d⟩:=by
 unfold aP at g;unfold jX;cases k:r.k with
 | shr=>rw[k]at g;exact Rep.same (aW (fun _ _ q _=>q) fun b z=>.inl (.inr z)) g
 | own =>
  rw[k]at g;obtain⟨a,o,h1,h2,h3,h4,h5⟩:=g;exact⟨a,o,h1,h3,h4,h5.same (aW (fun _ _ q _=>q) fun b z=>.inl (z.elim .inr fun z=>by rw[z];exact h2))⟩
 | tmp =>
  rw[k]at g;obtain⟨a,o,h1,h2,h3,h4⟩:=g;exact⟨a,o,h1,d.e.sam.none h2,h3,h4.same (aW (fun _ _ q _=>q) fun b z=>.inl (z.imp .inr id))⟩
 | old=>rw[k]at g;exact g.elim
theorem eM (he:PE X e (tE X.K P f)):PS X (.Return (some e) pos) (tS X.K P (bS f)):=by
 refine PS.imp (aQ9 he) ?_
 intro D σ H h;exact aGr (q:=D.rt) (k:=fun r ρ=>.rt ⟨if r.k=.shr then .shr else .tmp,r.fr,r.d⟩) rfl h fun H0 T ρ v H' r d d' s g h=>h v H' d'.e.sam (aQh d g)
theorem rG {K:PySem.W.Frag}{D:Ends}{H0 H H':Hp}{T:Addr->Prop}{σ:St}{ρ:Env}{v:V}{r:Res}{i:Nat}(d:DenS K H0 H T σ ρ)(s:aK H H')(g:aP K H0 H H' (Bs T σ ρ) v r)(h:gW K P D H0 T H σ ρ ((r.keep).at ρ fun e=>.nx (ρ.set i (some e)))) :
 D.nx (σ.set i (some v)) H':=by
 unfold Res.keep at h;unfold aP at g;cases k:r.k with
 | shr =>
  rw[k]at g h;have d':=(d.mono s).set_shr (i:=i) g;refine h _ H' ?_ ⟨fun b o q _=>s b o q,fun b z=>.inl ?_⟩
  · have e:r=⟨.shr,r.fr,r.d⟩:=by rw[←k]
    rw[e];exact d'.1
  · have e:r=⟨.shr,r.fr,r.d⟩:=by rw[←k]
    rw[e]at z;exact d'.2 b z
 | own=>rw[k]at h;exact h.elim
 | old=>rw[k]at h;exact h.elim
 | tmp =>
  rw[k]at g h;obtain⟨a,o,h1,h2,h3,h4⟩:=g;subst h1;have d':=d.set_con (i:=i) s h2 h3 h4;simp only[R.at]at h;exact h _ H' d'.1 d'.2
theorem bF {i:Nat}{x:Str}{pos':Pos}(hN:X.N.Nodup)(hi:X.N[i]?=some x)(hx:Loc X.env.scope x)(he:PE X e (tE X.K P f))(hs:swapsWith e (some (.Name x pos')) pos.line X.env=pure false:=by rfl)(hf:X.fn x=true\/X.env.scope.names.lookup x=some .local:=by first | exact .inl rfl | exact .inr rfl | assumption) :
 PS X (.Assign [.Name x pos'] e pos) (tS X.K P (aC i f)):=by
 refine PS.imp (aIe hN hi hx he hs hf) ?_
 intro D σ H h;exact aGr (q:=fun v H1=>D.nx (σ.set i (some v)) H1) (k:=fun r ρ=>(r.keep).at ρ fun e=>.nx (ρ.set i (some e))) rfl h fun H0 T ρ v H' r d d' s g h=>rG d s g h
theorem oX {scope:Scope}{N:List Str}{k:Nat}{cs:List Nat}{tg iter elt:Expr}{ifs:List Expr}{t:Tg}{it:FI}{fb:FB}{i:Nat}{y:Str}{py spos:Pos}(hc:X.calm=true)(hN:X.N.Nodup)(hi':X.N[i]?=some y)(hy:X.env.scope.names.lookup y=some .local)
 (C:CompOk X scope N k cs) (hi:PI X tg iter (tI X.K P it)) (hg:∀ fp s H,PG (cT X scope N fp s H) tg (gOf X.K t)) (gl:xX k (gOf X.K t)) (hb:∀ fp s H,PB (cT X scope N fp s H) ifs elt (tBm X.K XP0 fb))
 (hsw:swapsWith (.ListComp elt [⟨tg,iter,ifs,0⟩] scope pos) (some (.Name y py)) spos.line X.env=pure true:=by rfl) (hs:∀ x,foldedSetIterable iter X.env x=pure x:=by intro _;rfl) :
 PS X (.Assign [.Name y py] (.ListComp elt [⟨tg,iter,ifs,0⟩] scope pos) spos) (tS X.K P (aC i (aS it k cs t fb))):=by
 refine PS.imp (aMj (i:=i) hc hN hi' hy C hi hg gl hb hsw hs) ?_
 intro D σ H h;have h':=aGr (f:=aS it k cs t fb) (q:=fun v H1=>D.nx (σ.set i (some v)) H1) (k:=fun r ρ=>(r.keep).at ρ fun e=>.nx (ρ.set i (some e))) rfl h fun H0 T ρ v H' r d d' s g h=>rG d s g h;exact aJ4 σ H _ h'
theorem aS6 {t:FT}{D:Ends}{σ:St}{H:Hp}{F G:FS}(h:tS X.K P (ifS t F G) D σ H):tT X.K P t σ H fun b H1=>if b=true then tS X.K P F D σ H1 else tS X.K P G D σ H1:=by
 obtain⟨H0,T,ρ,d,h⟩:=h;unfold ifS at h;refine⟨H0,_,ρ,d.e,?_⟩
 cases e:t ρ with
 | stk=>simp only[e,R.at]at h;exact h.elim
 | exc x=>simp only[e,R.at]at h;exact h σ H d Ext.refl
 | ok k =>
  simp only[e,R.at]at h;intro H1 s1;cases k with
  | true=>exact aJd ⟨H0,T,ρ,d.mono s1,gW.trans (Ext.same s1) h⟩
  | false=>exact aIb ⟨H0,T,ρ,d.mono s1,gW.trans (Ext.same s1) h⟩
theorem fK {t:FT}{sa sb:List Stmt}(hc:PT X c (tT X.K P t))(ha:PSs X sa (tS X.K P F))(hb:PSs X sb (tS X.K P G)):PS X (.If c sa sb pos) (tS X.K P (ifS t F G)):=by
 refine PS.imp (aN4 hc ha hb) ?_
 intro D σ H h;exact aS6 h
theorem iS {i:Nat}(h:PS X st (tS X.K P F)):PS X st (tS X.K P (cN i F)):=by
 refine PS.imp h ?_
 rintro D σ H ⟨H0,T,ρ,d,h⟩
 obtain⟨d',x⟩:=d.freeze i;exact⟨H0,T,frz i ρ,d',gW.trans x h⟩
theorem aEu {i:Nat}{x:Str}{p ap cp:Pos}(hN:X.N[i]?=some x)(hv:Vis X.env.scope x)(he:PE X e (tE X.K P f))(hd:(x==("__debug__":Str))=false:=by decide)(hcd:(x==("__classdict__":Str))=false:=by decide)
 (h1:starEach [e] X.env=[(false,eval e X.env)]:=by rfl) (hbase:attributeBase (.Name x p) "append" X.env (eval (.Name x p) X.env)=eval (.Name x p) X.env:=by rfl)
 (hfew:((backTo cp (starEach [e] X.env)).all (fun x=>!x.1)&&(backToKw cp (keywordEach [] X.env)).all (fun x=>x.1.isSome)&&decide ([e].length+([]:List Keyword).length+(if ([]:List Keyword).isEmpty then 0 else 1)<30))=true:=by rfl)
 (hline:(ap.endLine==cp.line)=true:=by rfl)
 (hs:swapsWith (.Call (.Attribute (.Name x p) "append" ap) [e] [] cp) none pos.line X.env=pure false:=by rfl) :
 PS X (.Expr (.Call (.Attribute (.Name x p) "append" ap) [e] [] cp) pos) (tS X.K P (jY i f)):=by
 refine PS.imp (qK (aOe PySem.F.plainAttrs_list PySem.F.slot_list_append PySem.F.type_list_append oZ (mR hN hv hd hcd) (kX he xZ h1) hbase hfew hline (hs:=h1)) hs) ?_
 rintro D σ H ⟨H0,T,ρ,d,h⟩
 unfold jY at h;cases e3:nJ i ρ with
 | stk=>simp only[e3,R.at]at h;exact h.elim
 | exc z=>unfold nJ at e3;split at e3<;>cases e3
 | ok y =>
  simp only[e3,R.at]at h;have ho:=qB e3;obtain⟨a,vs,q1,q2,q3,q4⟩:=d.own ho;refine⟨_,q1,.inl ⟨rfl,vs,SqL.of q3⟩,?_⟩
  cases e1:f ρ with
  | stk=>simp only[e1]at h;exact h.elim
  | exc z=>simp only[e1]at h;exact dR d.e e1 (h σ H d Ext.refl)
  | ok r =>
   simp only[e1]at h;refine fO d.e e1 fun v H' s d' g'=>?_
   cases e2:r.give with
   | stk=>simp only[e2]at h;exact h.elim
   | exc z=>unfold Res.give at e2;split at e2<;>cases e2
   | ok r' =>
    simp only[e2]at h;obtain⟨g1,g2⟩:=g'.give d.e e2;subst g1;by_cases hz:y.2.length<sizeLine
    · rw[if_pos hz]at h
      have dS:=d.mono s;have q4':aN X.K (aZ y.1 H0 H' (Bs T σ ρ)) y.2 vs:=aN.same (aW (fun b o q _=>s b o q) fun b z=>.inl z) q4;refine⟨a,vs,v,rfl,rfl,s _ _ q3,by rw[←q4.length];exact hz,?_⟩
      obtain⟨w1,w2⟩:=dS.write (fr:=y.1&&r.fr) (ds:=y.2++[r.d]) (vs:=vs++[v]) q1 ho rfl q2 (q4'.andL.append (aN.one g2).andR);exact h σ _ w1 ((Ext.same s).trans w2)
    · rw[if_neg hz]at h;exact h.elim
theorem aDi {i:Nat}{x:Str}{j:Expr}{p tp:Pos}(hN:X.N[i]?=some x)(hv:Vis X.env.scope x)(hj:PE X j (tE X.K P g))(he:PE X e (tE X.K P f))(hd:(x==("__debug__":Str))=false:=by decide)(hcd:(x==("__classdict__":Str))=false:=by decide)
 (ha:∀ v,assign (.Subscript (.Name x p) j tp) X.env v=(do
  let ov ← holding [v] (eval (.Name x p) X.env)
  let iv ← holding [v,ov] (eval j X.env)
  standAt tp
  holding [v,ov,iv] (setItem ov iv v)
  release [v,ov,iv] []):=by intro _;rfl)
 (hs:swapsWithSole [.Subscript (.Name x p) j tp] e pos.line X.env=pure false:=by rfl) (hw:swappedStores [.Subscript (.Name x p) j tp] e X.env=pure none:=by rfl)
 (h1:(assignEach [.Subscript (.Name x p) j tp] X.env).map (·.2)=[assign (.Subscript (.Name x p) j tp) X.env]:=by rfl) :
 PS X (.Assign [.Subscript (.Name x p) j tp] e pos) (tS X.K P (gH i g f)):=by
 refine PS.imp (aHd he (aJn (mR hN hv hd hcd) hj zS ha) hs hw h1) ?_
 rintro D σ H ⟨H0,T,ρ,d,h⟩
 unfold gH at h;show tE X.K P f σ H fun v H1=>mJ i σ H1 fun o H2=>tE X.K P g σ H2 fun k H3=>aJj o k v H3 fun H4=>D.nx σ H4
 cases e1:f ρ with
 | stk=>simp only[e1,R.at]at h;exact h.elim
 | exc z=>simp only[e1,R.at]at h;exact dR d.e e1 (h σ H d Ext.refl)
 | ok r =>
  simp only[e1,R.at]at h;refine fO d.e e1 fun v H1 s1 d1 g1=>?_
  cases e2:r.give with
  | stk=>simp only[e2]at h;exact h.elim
  | exc z=>unfold Res.give at e2;split at e2<;>cases e2
  | ok r' =>
   simp only[e2]at h;obtain⟨w1,w2⟩:=g1.give d.e e2;subst w1;cases e3:nJ i ρ with
   | stk=>simp only[e3]at h;exact h.elim
   | exc z=>unfold nJ at e3;split at e3<;>cases e3
   | ok y =>
    simp only[e3]at h;have ho:=qB e3;obtain⟨a,vs,q1,q2,q3,q4⟩:=d.own ho;refine⟨_,q1,?_⟩
    cases e4:g ρ with
    | stk=>simp only[e4]at h;exact h.elim
    | exc z=>simp only[e4]at h;exact dR d1 e4 (h σ H1 (d.mono s1) (Ext.same s1))
    | ok jr =>
     simp only[e4]at h;refine fO d1 e4 fun kv H2 s2 d2 g2=>?_
     cases e5:asI jr.d with
     | stk=>simp only[e5]at h;exact h.elim
     | exc z=>exact(cA e5).elim
     | ok k =>
      simp only[e5]at h;cases e6:ixN y.2.length k with
      | none=>simp only[e6]at h;exact h.elim
      | some n =>
       simp only[e6]at h;have s:=s1.trans s2;have dS:=d.mono s;have m:∀ fr,aK (aZ fr H0 H (Bs T σ ρ)) (aZ fr H0 H2 (Bs T σ ρ)):=fun fr=>aW (fun b o q _=>s b o q) fun b z=>.inl z;have m1:∀ fr,aK (aZ fr H0 H1 (Bs T σ ρ)) (aZ fr H0 H2 (Bs T σ ρ)):=fun fr=>aW (fun b o q _=>s2 b o q) fun b z=>.inl z;refine⟨a,vs,k,n,rfl,g2.int (cQ e5),s _ _ q3,by rw[←q4.length];exact e6,?_⟩
       have ra:Rep X.K (aZ (y.1&&r.fr) H0 H2 (Bs T σ ρ)) r.d v:=by
        obtain⟨_,_,z1,z2,_⟩:=(aN.one (Rep.same (m1 _) w2)).andR (fr:=y.1);cases z1;exact z2
       obtain⟨v1,v2⟩:=dS.write (fr:=y.1&&r.fr) (ds:=y.2.set n r.d) (vs:=vs.set n v) q1 ho rfl q2 (aN.set ra n (aN.same (m _) q4).andL);exact h σ _ v1 ((Ext.same s).trans v2)
theorem jU {iter:Expr}{body:List Stmt}{tg:Expr}{t:Tg}{it:FI}(hp:PassesOwn (model X.prog X.w) X.A X.env X.xe)(hc:X.calm=true)(hi:PI X tg iter (tI X.K P it))(hg:PG X tg (gOf X.K t))(hb:PSs X body (tS X.K P F))
 (hs:∀ x,foldedSetIterable iter X.env x=pure x:=by intro _;rfl):PS X (.For tg iter body [] pos) (tS X.K P (dY it t F)):=by
 refine PS.imp (aQb hp hc hi hg hb hs) ?_
 rintro D σ H ⟨H0,T,ρ,d,h⟩
 unfold dY at h;refine⟨H0,_,ρ,d.e,?_⟩
 cases e:it ρ with
 | stk=>simp only[e,R.at]at h;exact h.elim
 | exc z=>simp only[e,R.at]at h;exact h σ H d Ext.refl
 | ok w =>
  simp only[e,R.at]at h;by_cases hst:w.st=true
  · rw[if_pos hst]at h
    intro J H1 s1 hw;obtain⟨A,hA,hwk⟩:=hw;refine⟨fun i m σ' H'=>m=w.ds.length-i/\i<=w.ds.length/\∃ ρi,DenS X.K H0 H' T σ' ρi/\Ext H1 σ ρ H' σ' ρi/\gW X.K P D H0 T H1 σ ρ (fZ t F w.fr (w.ds.drop i) ρi),⟨w.ds.length,rfl,De _,ρ,d.mono s1,Ext.refl,gW.trans (Ext.same s1) h⟩,?_⟩
    rintro i m σ' H' ⟨hm,hi',ρi,di,xi,pi⟩
    have wk:=hwk H' (Bs T σ' ρi) (fun a o ha q=>xi.kp a o q fun z=>hA hst a ha (.inl z)) (fun b o q n=>xi.kp b o q fun z=>n (.inl z)) (fun b z=>?_) (fun b z=>let ⟨o,q,_⟩:=di.e.bnd b z;⟨o,q⟩) di.e.sam i
    · by_cases hlt:i<w.ds.length
      · refine .inr ?_
        have hd:w.ds[i]?=some w.ds[i]:=Ac hlt;obtain⟨go,yl⟩:=wk.2 _ hd;refine⟨go,fun σ'' H''=>w.ds.length-(i+1)=w.ds.length-(i+1)/\i+1<=w.ds.length/\∃ ρi,DenS X.K H0 H'' T σ'' ρi/\Ext H1 σ ρ H'' σ'' ρi/\gW X.K P D H0 T H1 σ ρ (fZ t F w.fr (w.ds.drop (i+1)) ρi),fun σ'' H'' q=>⟨_,by omega,q⟩,fun x H3 y3=>?_⟩
        obtain⟨s3,rx⟩:=yl x H3 y3;rw[List.drop_eq_getElem_cons hlt]at pi;simp only[fZ]at pi;cases e1:t.bind w.fr w.ds[i] ρi with
        | stk=>simp only[e1,R.at]at pi;exact pi.elim
        | exc z=>exact(yY _ _ _ e1).elim
        | ok ρ1 =>
         simp only[e1,R.at]at pi;refine xQ (G:=aZ w.fr H0 H3 (Bs T σ' ρi)) (fr:=w.fr) (I:=fun σ2 ρ2=>DenS X.K H0 H3 T σ2 ρ2/\∀ a,mC σ2 ρ2 a->mC σ' ρi a) jA (fun σ2 ρ2 j dd v ⟨D2,O2⟩ r=>?_) t _ x σ' ρi ρ1 _ e1 rx ⟨di.mono s3,fun a z=>z⟩ fun σ4 ⟨d4,o4⟩=>?_
         · have:=D2.set_shr (i:=j) (Rep.same (aW (fun _ _ q _=>q) fun b z=>.inl (z.imp (O2 b) id)) r)
           exact⟨this.1,fun a z=>O2 a (this.2 a z)⟩
         · have x4:Ext H1 σ ρ H3 σ4 ρ1:=xi.trans ⟨fun b o q _=>s3 b o q,fun b z=>.inl (o4 b z)⟩
           refine⟨H0,T,ρ1,d4,?_⟩
           cases e2:F ρ1 with
           | stk=>simp only[e2]at pi;exact pi
           | nx ρ2=>simp only[e2]at pi;exact fun σ5 H5 d5 x5=>⟨rfl,hlt,ρ2,d5,x4.trans x5,pi⟩
           | ct ρ2=>simp only[e2]at pi;exact fun σ5 H5 d5 x5=>⟨rfl,hlt,ρ2,d5,x4.trans x5,pi⟩
           | bk ρ2=>simp only[e2]at pi;exact fun σ5 H5 d5 x5=>pi σ5 H5 d5 (x4.trans x5)
           | rt r=>simp only[e2]at pi;exact pi
           | exc z ρ2=>simp only[e2]at pi;exact fun σ5 H5 d5 x5=>pi σ5 H5 d5 (x4.trans x5)
      · refine .inl ⟨wk.1 (by omega),?_⟩
        rw[El (by omega)]at pi
        exact pi σ' H' di xi
    · rcases z with z | z
      · exact(xi.ow b z).imp .inl id
      · exact .inl (.inr z)
  · rw[if_neg hst]at h;exact h.elim
theorem aUa {t:FT}{body:List Stmt}(hp:PassesOwn (model X.prog X.w) X.A X.env X.xe)(hc:PT X c (tT X.K P t))(hb:PSs X body (tS X.K P F)):PS X (.While c body [] pos) (tS X.K P (aRc t F)):=by
 refine PS.imp (aJq hp hc hb) ?_
 rintro D σ H ⟨H0,T,ρ,d,h⟩
 refine⟨fun m σ' H'=>∃ ρi,DenS X.K H0 H' T σ' ρi/\Ext H σ ρ H' σ' ρi/\gW X.K P D H0 T H σ ρ (pU t F m ρi),⟨2^64,ρ,d,Ext.refl,h⟩,?_⟩
 rintro m σ' H' ⟨ρi,di,xi,pi⟩
 cases m with
 | zero=>exact pi.elim
 | succ n =>
  simp only[pU]at pi;refine⟨H0,_,ρi,di.e,?_⟩
  cases e:t ρi with
  | stk=>simp only[e,R.at]at pi;exact pi.elim
  | exc z=>simp only[e,R.at]at pi;exact pi σ' H' di xi
  | ok k =>
   simp only[e,R.at]at pi;intro H1 s1;have x1:Ext H σ ρ H1 σ' ρi:=xi.trans (Ext.same s1);cases k with
   | false=>exact aIb (pi σ' H1 (di.mono s1) x1)
   | true =>
    rw[if_pos rfl]at pi;refine aJd ⟨fun σ'' H''=>∃ ρi,DenS X.K H0 H'' T σ'' ρi/\Ext H σ ρ H'' σ'' ρi/\gW X.K P D H0 T H σ ρ (pU t F n ρi),fun σ'' H'' q=>⟨n,Ho n,q⟩,H0,T,ρi,di.mono s1,?_⟩
    cases e2:F ρi with
    | stk=>simp only[e2]at pi;exact pi
    | nx ρ2=>simp only[e2]at pi;exact fun σ5 H5 d5 x5=>⟨ρ2,d5,x1.trans x5,pi⟩
    | ct ρ2=>simp only[e2]at pi;exact fun σ5 H5 d5 x5=>⟨ρ2,d5,x1.trans x5,pi⟩
    | bk ρ2=>simp only[e2]at pi;exact fun σ5 H5 d5 x5=>pi σ5 H5 d5 (x1.trans x5)
    | rt r=>simp only[e2]at pi;exact pi
    | exc z ρ2=>simp only[e2]at pi;exact fun σ5 H5 d5 x5=>pi σ5 H5 d5 (x1.trans x5)
end Mir
namespace Mir
open PySem L2
variable {X:Cx}{P:XP}{a b c e:Expr}{es:List Expr}{f g:FE}{fs:FEs}{pos:Pos}
def XD (x:Xc)(dx:Option Addr)(H:Hp):Prop:=match x.ds with
 | []=>dx=none
 | [.int p]=>∃ a,dx=some a/\H a=some (.ext (aDo a p))
 | _=>False
theorem XD.same {x:Xc}{dx:Option Addr}{H H':Hp}(h:XD x dx H)(s:aK H H'):XD x dx H':=by
 obtain⟨c,ds⟩:=x;unfold XD at h ⊢;dsimp only at h ⊢
 split at h
 · exact h
 · obtain⟨a,h1,h2⟩:=h
   exact⟨a,h1,s _ _ h2⟩
 · exact h.elim
def spM (K:PySem.W.Frag)(cl:XC->Addr)(φ:Φ):Sp:=fun vs H Q E=>∃ ds B,(∀ b,B b->∃ o,H b=some o/\stab o=false)/\aN K (cut H B) ds vs/\match φ ds with
 | .ok r=>∀ v H',aK H H'->jX K H H' B v r->Q v H'
 | .exc x=>∀ H' dx,aK H H'->XD x dx H'->E (.ref (cl x.c)) dx H'
 | .stk=>False
def Thr (CX:CXT)(cl:XC->Addr)(X:Cx)(P:XP):Prop:=∀ (pins:List (Addr×Obj)) (σ:St) (H:Hp) (s:Shared) (e:Value) (s':Shared),Inv X pins σ H s->CX X.stack H s (fun c dx H'=>∃ x:Xc,c=.ref (cl x.c)/\XD x dx H'/\P.p x σ H') e s'->X.xe e s'
theorem aC6 {CX:CXT}{k:Nat}{fa:Addr}{fd:FuncData}{ps:List Str}{sp:Sp}{E:XK}{pins:List (Addr×Obj)}{σ:St}{H:Hp}{s:Shared}{Q:VK}{us:List Value}{vs:List V}(F:FnOk X.prog X.w X.K X.mg X.base CX k fa fd ps sp)(hr:Room k X.A)(hb:lV X.K fd ps [])
 (hx:∀ e s',CX X.stack H s E e s'->X.xe e s') (I:Inv X pins σ H s) (r:bG vs us) (h:sp vs H Q E):wpAny (model X.prog X.w) X.A (call (.ref fa) us) (EP X pins σ Q) X.xe s:=by
 have hl:us.length=ps.length:=by rw[←r.length];exact F.len _ _ _ _ h
 have hb':=hb s us I.kIn (by rw[Cv];exact hl)
 rw[Cv]at hb';refine wpAny_call (codeAny_mono (F.run X.A X.stack s H ⟨us,[]⟩ us vs Q E hr I.env0 hb' r h) fun r s' hq=>?_)
 cases r with
 | error e=>exact hx e s' hq
 | ok fl =>
  cases fl with
  | ret u=>exact I.after hq
  | next=>exact False.elim hq
  | brk=>exact False.elim hq
  | cont=>exact False.elim hq
theorem eE.plain {K:PySem.W.Frag}{H0 H H':Hp}{B:Addr->Prop}{σ:St}{ρ:Env}{Z:Addr->Prop}(den:DenE K H0 H B σ ρ):∀ {vs:List V} {rs:List Res},eE K H0 H H' B vs rs->(∀ b,Z b->B b/\V.ref b∉vs)->aN K (cut H' Z) (rs.map (·.d)) vs
 | [],_,h,_=>by rw[show _=[] from h];rfl
 | v :: vs,_,⟨r,rr,e,g,gs⟩,hz=>by
  subst e;refine⟨v,vs,rfl,?_,eE.plain den gs fun b z=>⟨(hz b z).1,fun q=>(hz b z).2 (Ae _ q)⟩⟩
  have m:∀ fr,aK (aZ fr H0 H' B) (cut H' Z):=fun fr=>eR (fun _ _ q _=>q) fun b z=>.inl (.inl (hz b z).1);unfold aP at g;cases k:r.k with
  | shr=>rw[k]at g;exact Rep.same (m _) g
  | own =>
   rw[k]at g;obtain⟨a,o,h1,h2,h3,h4,h5⟩:=g;subst h1;exact h5.rep (m _) (aO.mpr ⟨fun z=>(hz a z).2 Ad,h4⟩)
  | old=>rw[k]at g;exact g.elim
  | tmp =>
   rw[k]at g;obtain⟨a,o,h1,h2,h3,h4⟩:=g;subst h1;exact h4.rep (eR (fun _ _ q _=>q) fun b z=>.inl (.inl (.inl (hz b z).1))) (aO.mpr ⟨fun z=>(hz a z).2 Ad,h3⟩)
theorem zU:∀ {rs:List Res} {y:Bool×List D},gives rs=.ok y->y.2=rs.map (·.d)
 | [],y,e=>by simp[gives]at e;subst e;rfl
 | r :: rs,y,e=>by
  simp only[gives]at e;cases e2:r.give with
  | stk=>simp[e2]at e
  | exc x=>simp[e2]at e
  | ok r' =>
   cases e3:gives rs with
   | stk=>simp[e2,e3]at e
   | exc x=>simp[e2,e3]at e
   | ok y' =>
    simp only[e2,e3,R.ok_bind]at e;cases e
    have:r'.d=r.d:=by
     unfold Res.give at e2;split at e2
     · cases e2
     · cases e2;rfl
    simp[zU e3,this]
theorem aFc {cl:XC->Addr}{φ:Φ}{σ:St}{H:Hp}{Q:VK}(h:tE X.K P (aL φ fs) σ H Q):tAs X.K P fs σ H fun vs H1=>spM X.K cl φ vs H1 Q (fun c dx H'=>∃ x:Xc,c=.ref (cl x.c)/\XD x dx H'/\P.p x σ H'):=by
 refine tA1 h ?_
 intro H0 B ρ vs H' rs d0 d gs s h;cases e:φ (rs.map (·.d)) with
 | stk=>simp[e]at h
 | exc x =>
  simp[e]at h
  refine⟨rs.map (·.d),fun _=>False,fun _ z=>z.elim,gs.plain d0 (fun _ z=>z.elim),?_⟩
  rw[e];exact fun H2 dx s2 xd=>⟨x,rfl,xd,P.mono h s2⟩
 | ok r =>
  simp only[e,R.ok_bind]at h;by_cases hf:r.fr=true
  · rw[if_pos hf]at h
    refine⟨rs.map (·.d),fun b=>B b/\V.ref b∉vs,fun b z=>d.bnd b z.1,gs.plain d0 (fun _ z=>z),?_⟩
    rw[e];intro v H2 s2 ro;refine h v H2 s2 ?_
    have ban:∀ b o,H2 b=some o->¬ Ban true H' (fun b=>B b/\V.ref b∉vs) b->¬ Ban true H0 B b:=fun b o q n z=>by
     rcases z with z | ⟨_,o',z1,z2⟩
     · obtain⟨o',z1,z2⟩:=d.bnd b z
       exact n (.inr ⟨rfl,o',z1,z2⟩)
     · exact n (.inr ⟨rfl,o',d.sam _ _ z1,z2⟩)
    unfold jX at ro;unfold aP;cases k:r.k with
    | shr =>
     rw[k]at ro;simp only[if_true];rw[hf]at ro;exact Rep.same (fun b o q=>let ⟨q1,q2⟩:=aO.mp q;aO.mpr ⟨ban b o q2 q1,q2⟩) ro
    | own =>
     rw[k]at ro;obtain⟨a,o',h1,h2,h3,h5⟩:=ro;rw[hf]at h5;refine⟨a,o',h1,s.none h2,h3,h5.same (fun b o q=>?_)⟩
     obtain⟨q1,q2⟩:=aO.mp q;refine aO.mpr ⟨fun z=>?_,q2⟩
     rcases z with (z | z) | z
     · exact ban b o q2 (fun w=>q1 (w.imp .inl id)) (.inl z)
     · exact q1 (.inl (.inr z))
     · exact ban b o q2 (fun w=>q1 (w.imp .inl id)) (.inr z)
    | old =>
     rw[k]at ro;obtain⟨a,o',h1,h2,h3,h5⟩:=ro;rw[hf]at h5;refine⟨a,o',h1,s.none h2,h3,h5.same (fun b o q=>?_)⟩
     obtain⟨q1,q2⟩:=aO.mp q;refine aO.mpr ⟨fun z=>?_,q2⟩
     rcases z with (z | z) | z
     · exact ban b o q2 (fun w=>q1 (w.imp .inl id)) (.inl z)
     · exact q1 (.inl (.inr z))
     · exact ban b o q2 (fun w=>q1 (w.imp .inl id)) (.inr z)
    | tmp =>
     rw[k]at ro;obtain⟨a,o',h1,h2,h3,h5⟩:=ro;rw[hf]at h5;refine⟨a,o',h1,s.none h2,h3,h5.same (fun b o q=>?_)⟩
     obtain⟨q1,q2⟩:=aO.mp q;refine aO.mpr ⟨fun z=>?_,q2⟩
     rcases z with (z | z) | z
     · exact ban b o q2 (fun w=>q1 (w.imp .inl id)) (.inl z)
     · exact q1 (.inl (.inr z))
     · exact ban b o q2 (fun w=>q1 (w.imp .inl id)) (.inr z)
  · rw[if_neg hf]at h
    have hf':r.fr=false:=by cases q:r.fr with | true=>exact absurd q hf | false=>rfl
    cases e2:gives rs with
    | stk=>simp[e2]at h
    | exc x=>exact(jB e2).elim
    | ok y =>
     simp only[e2,R.ok_bind]at h;have re:=gs.gives d0 e2;rw[zU e2]at re;refine⟨rs.map (·.d),Ban y.1 H0 B,fun b z=>?_,re,?_⟩
     · rcases z with z | ⟨_,o,z1,z2⟩
       · exact d.bnd b z
       · exact⟨o,d.sam _ _ z1,z2⟩
     · rw[e]
       intro v H2 s2 ro;refine h v H2 s2 ?_
       unfold jX at ro;unfold aP;cases k:r.k with
       | shr =>
        rw[k,hf']at ro;simp only[if_true];exact Rep.same (eR (fun _ _ q _=>q) fun b z=>.inl (.inl z)) ro
       | own =>
        rw[k,hf']at ro;obtain⟨a,o',h1,h2,h3,h5⟩:=ro;refine⟨a,o',h1,s.none h2,h3,h5.same (eR (fun _ _ q _=>q) fun b z=>.inl (.inl ?_))⟩
        rcases z with (z | z) | z
        · exact .inl (.inl z)
        · exact .inr z
        · exact .inl (.inr z)
       | old =>
        rw[k,hf']at ro;obtain⟨a,o',h1,h2,h3,h5⟩:=ro;refine⟨a,o',h1,s.none h2,h3,h5.same (eR (fun _ _ q _=>q) fun b z=>.inl (.inl ?_))⟩
        rcases z with (z | z) | z
        · exact .inl (.inl z)
        · exact .inr z
        · exact .inl (.inr z)
       | tmp =>
        rw[k,hf']at ro;obtain⟨a,o',h1,h2,h3,h5⟩:=ro;refine⟨a,o',h1,s.none h2,h3,h5.same (eR (fun _ _ q _=>q) fun b z=>.inl (.inl ?_))⟩
        rcases z with (z | z) | z
        · exact .inl (.inl z)
        · exact .inr z
        · exact .inl (.inr z)
variable {x:Str}{p:Pos}{ps:List Str}{k:Nat}{CX:CXT}{cl:XC->Addr}{φ:Φ}
theorem bM (cc:aH X.prog X.w X.K X.mg X.base CX k x ps (spM X.K cl φ))(hr:Room k X.A)(hg:Gl X x)(ht:Thr CX cl X P)(ha:PA X (e :: es) (tAs X.K P fs))
 (hdb:(x==("__debug__":Str))=false:=by decide) (he:starEach (e :: es) X.env=(false,eval e X.env) :: starEach es X.env:=by rfl) (hpl:(backTo pos (starEach es X.env)).any (·.1)=false:=by rfl) :
 PE X (.Call (.Name x p) (e :: es) [] pos) (tE X.K P (aL φ fs)):=by
 obtain⟨fa,fd,F,m,kp,b⟩:=cc;intro pins s σ H Q I h;refine wpAny_Call_Name_kw (qN I hg m ?_ hdb)
 refine Iw (h₀:=X.base) I.ok.mod.kin kp (thn (ha pos pins s σ H _ I (aFc (cl:=cl) h)) fun us s1 ⟨vs,H1,I1,r,q⟩=>⟨I1.kIn,?_⟩) he hpl
 exact aC6 F hr b (fun e s' hq=>ht pins σ H1 s1 e s' I1 hq) I1 r q
theorem DenS.start {K:PySem.W.Frag}{H:Hp}{B:Addr->Prop}{vs:List V}{ds:List D}{N:List Str}(hB:∀ b,B b->∃ o,H b=some o/\stab o=false)(r:aN K (cut H B) ds vs):DenS K H H B (L2.start N vs) (stE N.length ds):=by
 have no:∀ i a,¬ eP (L2.start N vs) (stE N.length ds) i a:=fun i a ⟨_,e,h2,h3⟩=>by
  unfold stE at h2;by_cases hi:i<ds.length
  · rw[Bl (by simpa using hi),Ax]at h2
    cases q:ds[i]? with
    | none=>rw[q]at h2;cases h2
    | some d=>rw[q]at h2;cases h2;cases h3
  · rw[Bb (by simpa using hi),Ci]at h2
    split at h2<;>cases h2
 refine⟨⟨?_,aK.refl H,fun b z=>?_,fun i e he=>?_⟩,fun a ⟨i,z⟩=>(no i a z).elim,fun i j a z _=>(no i a z).elim⟩
 · unfold stE L2.start
   simp[r.length]
 · rcases z with ⟨i,z⟩ | z
   · exact(no i b z).elim
   · exact hB b z
 · unfold stE at he
   by_cases hi:i<ds.length
   · rw[Bl (by simpa using hi),Ax]at he
     cases q:ds[i]? with
     | none=>rw[q]at he;cases he
     | some d =>
      rw[q]at he;cases he;obtain⟨v,q1,q2⟩:=r.get q;refine⟨v,?_,?_⟩
      · unfold L2.start
        have:i<vs.length:=by rw[←r.length];exact hi
        rw[Bl (by simpa using this),Ax,q1]
        rfl
      · refine Rep.same (eR (fun _ _ q _=>q) fun b z=>.inl ?_) q2
        rcases z with (⟨j,z⟩ | z) | ⟨z,_⟩
        · exact(no j b z).elim
        · exact z
        · cases z
   · rw[Bb (by simpa using hi),Ci]at he
     split at he<;>cases he
theorem jX.fr {K:PySem.W.Frag}{H0 H':Hp}{T:Addr->Prop}{v:V}{r:Res}(s:aK H0 H')(h:jX K H0 H' T v r):jX K H0 H' T v ⟨r.k,r.fr||r.d.imm,r.d⟩:=by
 unfold jX at h ⊢;cases k:r.k with
 | shr=>rw[k]at h;exact Rep.fr s h
 | own =>
  rw[k]at h;obtain⟨a,o,h1,h2,h3,h4⟩:=h;refine⟨a,o,h1,h2,h3,?_⟩
  rw[h4.imm,Hu];exact h4
 | old =>
  rw[k]at h;obtain⟨a,o,h1,h2,h3,h4⟩:=h;refine⟨a,o,h1,h2,h3,?_⟩
  rw[h4.imm,Hu];exact h4
 | tmp =>
  rw[k]at h;obtain⟨a,o,h1,h2,h3,h4⟩:=h;refine⟨a,o,h1,h2,h3,?_⟩
  rw[h4.imm,Hu];exact h4
section
variable {Pg:Program}{w:World}{K:PySem.W.Frag}{mg:Str->Option Value}{base:Heap}
theorem aL3 {φ:Φ}{n:Nat}(h:∀ ds,ds.length≠n->φ ds=.stk):∀ vs H Q E,spM K cl φ vs H Q E->vs.length=n:=fun vs H Q E ⟨ds,B,_,r,q⟩=>by
 rw[←r.length];by_cases e:ds.length=n
 · exact e
 · rw[h ds e]at q;exact q.elim
end
end Mir
namespace Mir
open PySem L2
variable {X:Cx}{P:XP}{a b c e:Expr}{es:List Expr}{f g:FE}{fs:FEs}{pos:Pos}
theorem bB {i:Nat}{x:Str}(hN:X.N.Nodup)(hi:X.N[i]?=some x)(hx:Loc X.env.scope x)(hf:X.fn x=true\/X.env.scope.names.lookup x=some .local:=by first | exact .inl rfl | exact .inr rfl | assumption):PG X (.Name x pos) (gOf X.K (.nm i)):=by
 unfold gOf;exact aLp hN hi hx hf
theorem eV:PGs X [] (kF X.K []):=by
 unfold kF;exact aMz
theorem bH {t:Tg}{ts:List Tg}(h1:PG X e (gOf X.K t))(h2:PGs X es (kF X.K ts))(hs:(assignEach (e :: es) X.env).map (·.2)=assign e X.env :: (assignEach es X.env).map (·.2):=by rfl):PGs X (e :: es) (kF X.K (t :: ts)):=by
 unfold kF;exact aJy h1 h2 hs
theorem jV {ts:List Tg}{k:Nat}(hc:X.calm=true)(h:PGs X es (kF X.K ts))(hn:(assignEach es X.env).length=ts.length:=by rfl)(hst:(assignEach es X.env).findIdx? (·.1)=none:=by rfl):PG X (.Tuple es k pos) (gOf X.K (.tp ts)):=by
 unfold gOf;exact aQ4 hc h hn hst
mutual
def Tg.inK (k:Nat):Tg->Bool
 | .nm i=>decide (i<k)
 | .tp ts=>Tg.inKs k ts
def Tg.inKs (k:Nat):List Tg->Bool
 | []=>true
 | t :: ts=>t.inK k&&Tg.inKs k ts
end
mutual
theorem aNw {K:PySem.W.Frag}:∀ t:Tg,aAk (gOf K t)
 | .nm i=>by unfold gOf;exact aE6
 | .tp ts=>by unfold gOf;exact aHj (aCb ts)
theorem aCb {K:PySem.W.Frag}:∀ ts:List Tg,oQ (kF K ts)
 | []=>by unfold kF;exact aFk
 | t :: ts=>by unfold kF;exact aBr (aNw t) (aCb ts)
end
mutual
theorem fF {K:PySem.W.Frag}{k:Nat}:∀ {t:Tg},t.inK k=true->xX k (gOf K t)
 | .nm i,h=>by unfold gOf;exact aJw (by simpa[Tg.inK] using h)
 | .tp ts,h=>by unfold gOf;exact aMf (aNl (by simpa[Tg.inK] using h))
theorem aNl {K:PySem.W.Frag}{k:Nat}:∀ {ts:List Tg},Tg.inKs k ts=true->aBi k (kF K ts)
 | [],_=>by unfold kF;exact aIz
 | t :: ts,h=>by
  have h':t.inK k=true/\Tg.inKs k ts=true:=by simpa[Tg.inKs] using h
  unfold kF;exact aE2 (aNw t) (aCb ts) (fF h'.1) (aNl h'.2)
end
def fL:List D->R (List Int)
 | []=>.ok []
 | d :: r=>do
  let i ← asI d
  let l ← fL r
  .ok (i :: l)
def aE8 (a:FE):FE:=fun ρ=>do
 let x ← a ρ
 let ds ← asL x.d
 let l ← fL ds
 .ok (sc (.int l.sum))
theorem lC {x:Xc}:∀ {ds:List D},fL ds=.exc x->False
 | [],h=>by simp[fL]at h
 | d :: r,h=>by
  simp only[fL]at h;cases e:asI d with
  | stk=>simp[e]at h
  | exc y=>exact cA e
  | ok i =>
   cases e2:fL r with
   | stk=>simp[e,e2]at h
   | exc y=>exact lC e2
   | ok l=>simp[e,e2]at h
theorem aN.ints {K:PySem.W.Frag}{G:Hp}:∀ {ds:List D} {vs:List V} {l:List Int},fL ds=.ok l->aN K G ds vs->vs=l.map V.int
 | [],vs,l,h,r=>by simp[fL]at h;subst h;exact r
 | d :: r,vs,l,h,⟨x,xr,h1,h2,h3⟩=>by
  simp only[fL]at h;cases e:asI d with
  | stk=>simp[e]at h
  | exc y=>simp[e]at h
  | ok i =>
   cases e2:fL r with
   | stk=>simp[e,e2]at h
   | exc y=>simp[e,e2]at h
   | ok l' =>
    simp[e,e2]at h
    subst h;rw[cQ e]at h2;rw[h1,aN.ints e2 h3,show x=.int i from h2]
    rfl
variable {p:Pos}
theorem aUc (hc:X.calm=true)(hg:Gl X "sum")(hm:X.mg "sum" = none)(ha:PE X a (tE X.K P f))(he:starEach [a] X.env=[(false,eval a X.env)]:=by rfl):PE X (.Call (.Name "sum" p) [a] [] pos) (tE X.K P (aE8 f)):=by
 refine PE.imp (iP (aI5 hc) hg hm (by decide +kernel) (aA ha aQ he) (he:=he)) ?_
 intro σ H Q h;refine aAt h ?_
 intro H0 B ρ v H' r d0 d g s h;cases e:asL r.d with
 | stk=>simp[e]at h
 | exc x=>exact(eK e).elim
 | ok ds =>
  cases e2:fL ds with
  | stk=>simp[e,e2]at h
  | exc x=>exact(lC e2).elim
  | ok l =>
   simp only[e,e2,R.ok_bind]at h;obtain⟨a,xs,h1,h2,h3⟩:=g.list (dQ e);exact⟨a,l,by rw[h1],by rw[←aN.ints e2 h3];exact .inl h2,h _ H' (aK.refl _) (aP.sc (show Rep _ _ (.int _) _ from rfl))⟩
inductive Ty where
 | int | bool | list | tuple | str
 deriving DecidableEq
def Ty.nm:Ty->String
 | .int=>"int"
 | .bool=>"bool"
 | .list=>"list"
 | .tuple=>"tuple"
 | .str=>"str"
def aAi:Ty->D->R Bool
 | .int,.int _=>.ok true
 | .int,.bl _=>.ok true
 | .bool,.bl _=>.ok true
 | .list,.lst _=>.ok true
 | .tuple,.tup _=>.ok true
 | .str,.str _=>.ok true
 | _,.obj _ _=>.stk
 | _,.exc _ _=>.stk
 | _,.any=>.stk
 | _,.dct _ _=>.stk
 | _,_=>.ok false
def aF7 (t:Ty)(a:FE):FE:=fun ρ=>do
 let x ← a ρ
 let b ← aAi t x.d
 .ok (sc (.bl b))
def tyD:D->String
 | .non=>"NoneType"
 | .bl _=>"bool"
 | .int _=>"int"
 | .str _=>"str"
 | .lst _=>"list"
 | .tup _=>"tuple"
 | _=>""
theorem aL6 {K:PySem.W.Frag}{H:Hp}{a:Addr}{xs:List V}(h:Rd H a (.lst xs)):TyOf K H (.ref a) (.type "list"):=by
 rcases h with h | ⟨o,h⟩
 · exact .lst h
 · exact .frz h
theorem aP.ty {K:PySem.W.Frag}{H0 H H':Hp}{B:Addr->Prop}{v:V}{r:Res}(g:aP K H0 H H' B v r)(h1:∀ c ds,r.d≠.obj c ds)(h2:∀ c ds,r.d≠.exc c ds)(h3:r.d≠.any)(h4:∀ c ds,r.d≠.dct c ds):TyOf K H' v (.type (tyD r.d)):=by
 cases k:r.d with
 | lst ds=>obtain⟨a,xs,q1,q2,q3⟩:=g.list k;rw[q1];exact aL6 q2
 | non=>have:=g.shr_of (by rw[k];rfl);rw[k]at this;rw[show v=.non from this];exact .non
 | bl b=>have:=g.shr_of (by rw[k];rfl);rw[k]at this;rw[show v=.bl b from this];exact .bl b
 | int b=>have:=g.shr_of (by rw[k];rfl);rw[k]at this;rw[show v=.int b from this];exact .int b
 | str b=>have:=g.shr_of (by rw[k];rfl);rw[k]at this;rw[show v=.str b from this];exact .str b
 | tup ds =>
  obtain⟨a,xs,q1,q2,q3⟩:=g.tuple k;rw[q1];exact .tup q2
 | obj c b=>exact absurd k (h1 _ _)
 | exc c b=>exact absurd k (h2 _ _)
 | any=>exact absurd k h3
 | dct c b=>exact absurd k (h4 _ _)
theorem aHk {t:Ty}{d:D}{x:Xc}(h:aAi t d=.exc x):False:=by
 cases t<;>cases d<;>simp[aAi]at h
theorem nS {t:Ty}{d:D}{b:Bool}(h:aAi t d=.ok b):(∀ c ds,d≠.obj c ds)/\(∀ c ds,d≠.exc c ds)/\d≠.any/\∀ c ds,d≠.dct c ds:=by
 cases t<;>cases d<;>simp[aAi]at h<;>exact⟨fun _ _ z=>(by cases z),fun _ _ z=>(by cases z),fun z=>(by cases z),fun _ _ z=>(by cases z)⟩
theorem aQu {K:PySem.W.Frag}{t:Ty}{d:D}{b:Bool}(h:aAi t d=.ok b):Iu K (.type (tyD d)) (.type t.nm)=some b:=by
 cases t<;>cases d<;>simp[aAi]at h<;>subst h<;>rfl
theorem aSk {t:Ty}{y:Str}{p2:Pos}(hg:Gl X "isinstance")(hm:X.mg "isinstance" = none)(ha:PE X a (tE X.K P f))(hb:PE X (.Name y p2) (tC (.ty t.nm)))(he:starEach [a,.Name y p2] X.env=[(false,eval a X.env),(false,eval (.Name y p2) X.env)]:=by rfl)
 (he2:starEach [.Name y p2] X.env=[(false,eval (.Name y p2) X.env)]:=by rfl):PE X (.Call (.Name "isinstance" p) [a,.Name y p2] [] pos) (tE X.K P (aF7 t f)):=by
 refine PE.imp (iP aIm hg hm (by decide +kernel) (kX ha (kX hb xZ he2) (by rw[he,he2])) (he:=by rw[he,he2]) (hpl:=by rw[he2];rfl)) ?_
 intro σ H Q h;refine t1 (q:=fun v H1=>∃ x t' n b,[v,V.ty t.nm]=[x,.ty n]/\TyOf X.K H1 x t'/\Iu X.K t' (.type n)=some b/\Q (.bl b) H1) h ?_
 intro H0 B ρ v H' r d g s h;cases e:aAi t r.d with
 | stk=>simp[e]at h
 | exc x=>exact(aHk e).elim
 | ok b =>
  simp only[e,R.ok_bind]at h;exact⟨v,_,t.nm,b,rfl,g.ty (nS e).1 (nS e).2.1 (nS e).2.2.1 (nS e).2.2.2,aQu e,h _ H' (aK.refl _) (aP.sc (show Rep _ _ (.bl _) _ from rfl))⟩
end Mir
namespace Mir
open PySem L2
variable {X:Cx}{P:XP}{a b c e:Expr}{es:List Expr}{f g:FE}{fs:FEs}{pos p:Pos}
def aMc:FS:=fun _=>.stk
theorem aHs {st:Stmt}:PS X st (tS X.K P aMc):=PS.imp aG3 fun D σ H ⟨H0,T,ρ,d,h⟩=>h
def yO (a b:FE):FE:=fun ρ=>do
 let x ← a ρ
 let y ← b ρ
 let ds ← asL x.d
 let k ← asI y.d
 if x.k≠.shr/\-(2^63)<=k/\k<2^63/\ds.length*k.toNat<=sizeLine then .ok ⟨.tmp,x.fr,.lst (Ao k.toNat ds).flatten⟩ else .stk
theorem aN.rep {K:PySem.W.Frag}{G:Hp}{ds:List D}{vs:List V}(r:aN K G ds vs):∀ n:Nat,aN K G (Ao n ds).flatten (Ao n vs).flatten
 | 0=>rfl
 | n+1=>by
  rw[Ck,Ek,Ck,Ek];exact r.append (aN.rep r n)
theorem aOa (ha:PE X a (tE X.K P f))(hb:PE X b (tE X.K P g)):PE X (.BinOp a .Mult b pos) (tE X.K P (yO f g)):=by
 refine PE.imp (aJp aO5 ha hb) ?_
 intro σ H Q h;refine t2 (q:=fun x y H2=>aTs x y H2 Q) h ?_
 intro H0 B ρ v w H' r r' d g1 g2 s h;cases e1:asL r.d with
 | stk=>simp[e1]at h
 | exc x=>exact(eK e1).elim
 | ok ds =>
  cases e2:asI r'.d with
  | stk=>simp[e1,e2]at h
  | exc x=>exact(cA e2).elim
  | ok k =>
   simp only[e1,e2,R.ok_bind]at h;by_cases hc:r.k≠.shr/\-(2^63)<=k/\k<2^63/\ds.length*k.toNat<=sizeLine
   · rw[if_pos hc]at h
     obtain⟨hk,h1,h2,hz⟩:=hc
     have:∃ a xs,v=.ref a/\H' a=some (.lst xs)/\aN X.K (aZ r.fr H0 H' B) ds xs:=by
      have hd:=dQ e1;obtain⟨a,o,q1,q2,q3⟩:=g1.con hk;rw[hd]at q3;obtain⟨vs,q4,q5⟩:=q3;subst q4;exact⟨a,vs,q1,q2,q5⟩
     obtain⟨a,xs,q1,q2,q3⟩:=this;exact⟨a,k,xs,q1,g2.int (cQ e2),q2,h1,h2,by rw[←q3.length];exact hz,fun p hp=>h _ _ (aK.upd_new hp) (kK d s hp (q3.rep _))⟩
   · rw[if_neg hc]at h;exact h.elim
theorem aSf {k:Res->Res->R Res}{F:FE}(hF:F=fun ρ=>f ρ >>= fun x=>g ρ >>= fun y=>k x y){σ:St}{H:Hp}{Q:VK}{q:List V->Hp->Prop}(h:tE X.K P F σ H Q)
 (hk:∀ H0 B ρ v w H' r r',DenE X.K H0 H B σ ρ->DenE X.K H0 H' B σ ρ->aP X.K H0 H H' B v r->aP X.K H0 H H' B w r'->aK H H'->(match k r r' with
  | .ok r1=>∀ v1 H1,aK H' H1->aP X.K H0 H H1 B v1 r1->Q v1 H1
  | .exc x=>P.p x σ H'
  | .stk=>False)->q [v,w] H'):tAs X.K P [f,g] σ H q:=by
 have e:F=fun ρ=>evs [f,g] ρ >>= fun rs=>match rs with | [x,y]=>k x y | _=>.stk:=by
  rw[hF];funext ρ
  unfold evs evs;cases f ρ with
  | ok r =>
   show (g ρ >>= fun y=>k r y)=_
   cases g ρ with
   | ok r'=>rfl
   | _=>rfl
  | _=>rfl
 rw[e]at h;refine tA1 h ?_
 intro H0 B ρ vs H' rs d0 d gs s h;match vs,rs,gs with
 | [],rs,gs=>have e:rs=[]:=gs;subst e;exact h.elim
 | [v],_,⟨r,rr,e1,g1,g2⟩ =>
  subst e1;rw[show rr=[] from g2]at h
  exact h.elim
 | [v,w],_,⟨r,rr,e1,g1,r2,rr2,e2,g2,g3⟩ =>
  subst e1;subst e2;rw[show rr2=[] from g3]at h
  exact hk H0 B ρ v w H' r r2 d0 d g1 g2 s h
 | _ :: _ :: _ :: _,_,⟨r,rr,e1,g1,r2,rr2,e2,g2,r3,rr3,e3,_⟩ =>
  subst e1;subst e2;subst e3;exact h.elim
def aQ8 (a b:FE):FE:=fun ρ=>do
 let x ← a ρ
 let y ← b ρ
 let xs ← asL x.d
 let ys ← asL y.d
 .ok ⟨.tmp,x.fr&&y.fr,.lst (mV xs ys)⟩
theorem aRu {p1 p2 q1 q2:Pos}(hc:X.calm=true)(g1:Gl X "list")(m1:X.mg "list" = none)(g2:Gl X "zip")(m2:X.mg "zip" = none)(ha:PE X a (tE X.K P f))(hb:PE X b (tE X.K P g))
 (hs:starEach [a,b] X.env=[(false,eval a X.env),(false,eval b X.env)]:=by rfl) (hs2:starEach [b] X.env=[(false,eval b X.env)]:=by rfl)
 (hs3:starEach [Expr.Call (.Name "zip" p2) [a,b] [] q2] X.env=[(false,eval (.Call (.Name "zip" p2) [a,b] [] q2) X.env)]:=by rfl) :
 PE X (.Call (.Name "list" p1) [.Call (.Name "zip" p2) [a,b] [] q2] [] q1) (tE X.K P (aQ8 f g)):=by
 refine PE.imp (aCt hc g1 m1 g2 m2 (aA ha (aA hb aQ hs2) (by rw[hs,hs2])) hs hs2 hs3) ?_
 intro σ H Q h;refine aSf rfl h ?_
 intro H0 B ρ v w H' r r' d0 d g1 g2 s h;cases e1:asL r.d with
 | stk=>simp[e1]at h
 | exc x=>exact(eK e1).elim
 | ok ds =>
  cases e2:asL r'.d with
  | stk=>simp[e1,e2]at h
  | exc x=>exact(eK e2).elim
  | ok es =>
   simp only[e1,e2,R.ok_bind]at h;obtain⟨a1,xs,h1,h2,h3⟩:=g1.list (dQ e1);obtain⟨a2,ys,k1,k2,k3⟩:=g2.list (dQ e2);refine⟨a1,a2,xs,ys,by rw[h1,k1],.inl h2,.inl k2,fun l ts H2 z=>?_⟩
   obtain⟨z1,z2,z3,z4,z5⟩:=z;refine h _ H2 z1 ⟨l,_,rfl,s.none z2,z3,.lst (aN.of_get ?_ fun i dd vv hd hv=>?_)⟩
   · simp[mV,z4,h3.length,k3.length]
   · rw[Ax]at hv
     cases ht:ts[i]? with
     | none=>rw[ht]at hv;cases hv
     | some t =>
      rw[ht]at hv;cases hv;obtain⟨n1,x,y,ex,ey,et⟩:=z5 i t ht;unfold mV at hd;rw[Fz]at hd;obtain⟨d1,f1,r1⟩:=h3.getv ex;obtain⟨d2,f2,r2⟩:=k3.getv ey;rw[f1,f2]at hd;cases hd;have tl:t≠l:=fun q=>by rw[q,z3]at et;cases et
      have m:∀ fr,aK (aZ fr H0 H' B) (aZ fr H0 H2 fun b=>B b\/b=l):=fun fr=>aW (fun b o q _=>z1 b o q) fun b q=>q.imp id fun q=>by rw[q];exact z2
      refine⟨t,[x,y],rfl,aO.mpr ⟨fun q=>?_,et⟩,x,[y],rfl,?_,y,[],rfl,?_,rfl⟩
      · rcases q with (q | q) | ⟨_,o,q,_⟩
        · obtain⟨o,q1,_⟩:=d.bnd t q;rw[n1]at q1;cases q1
        · exact tl q
        · rw[d.sam _ _ q]at n1;cases n1
      · obtain⟨_,_,q1,q2,_⟩:=(aN.one (Rep.same (m _) r1)).andL (fr':=r'.fr)
        cases q1;exact q2
      · obtain⟨_,_,q1,q2,_⟩:=(aN.one (Rep.same (m _) r2)).andR (fr:=r.fr)
        cases q1;exact q2
end Mir
namespace Mir
open PySem
def KD {α:Type}:Sem α->Prop
 | .pure _=>True
 | .raise _=>True
 | .unsupported _=>True
 | .finish _=>True
 | .rule _ k=>KD (k ())
 | .at _ k=>KD (k ())
 | .load _ _ k=>∀ o,KD (k o)
 | .update _ _ f k=>(∀ o:Obj,(f o).dict=o.dict/\(o.isFreed=false->(f o).isFreed=false))/\KD (k ())
 | .loadIfAlive _ k=>∀ o,KD (k o)
 | .point _ k=>KD (k ())
 | .alloc _ k=>∀ a,KD (k a)
 | .fresh k=>∀ a,KD (k a)
 | .ask k=>∀ a,KD (k a)
 | .handled _ k=>∀ a,KD (k a)
 | .stack k=>∀ a,KD (k a)
 | .thread k=>∀ a,KD (k a)
 | _=>False
theorem KD.bind {α β:Type}{m:Sem α}{f:α->Sem β}(h:KD m)(hf:∀ a,KD (f a)):KD (m >>= f):=by
 induction m with
 | pure a=>exact hf a
 | raise e=>exact trivial
 | unsupported w=>exact trivial
 | finish e=>exact trivial
 | rule t k ih=>exact ih () h
 | «at» p k ih=>exact ih () h
 | load a p k ih=>exact fun o=>ih o (h o)
 | update a p g k ih=>exact⟨h.1,ih () h.2⟩
 | loadIfAlive a k ih=>exact fun o=>ih o (h o)
 | point l k ih=>exact ih () h
 | alloc o k ih=>exact fun a=>ih a (h a)
 | fresh k ih=>exact fun a=>ih a (h a)
 | ask k ih=>exact fun a=>ih a (h a)
 | handled o k ih=>exact fun a=>ih a (h a)
 | stack k ih=>exact fun a=>ih a (h a)
 | thread k ih=>exact fun a=>ih a (h a)
 | _=>exact h.elim
theorem aFj {h:Heap}{a:Addr}{o:Obj}(e:h.get? a=some o):o.isFreed=false:=(Heap.get?_some_iff.mp e).2
theorem KD.wp {α:Type}{M:Model}{Γ:Ctx}{Q:α->Pos->Shared->Prop}{E:Value->Pos->Shared->Prop}{e:Addr}{dx:Option Addr}(m:Sem α):KD m->∀ (p:Pos) (s:Shared) (o:Obj),s.heap.get? e=some o->o.dict=dx->Sem.wp M Γ m Q E p s ->
 Sem.wp M Γ m (fun a p s'=>Q a p s'/\∃ o',s'.heap.get? e=some o'/\o'.dict=dx) E p s:=by
 induction m with
 | pure a =>
  intro _ p s o h1 h2 h;rw[Sem.wp]at h ⊢;exact⟨h,o,h1,h2⟩
 | raise x =>
  intro _ p s o h1 h2 h;rw[Sem.wp]at h ⊢;exact h
 | unsupported w =>
  intro _ p s o h1 h2 h;rw[Sem.wp]at h;exact h.elim
 | finish w =>
  intro _ p s o h1 h2 h;rw[Sem.wp]at h;exact h.elim
 | rule t k ih =>
  intro kd p s o h1 h2 h;rw[Sem.wp]at h ⊢;exact ih () kd p s o h1 h2 h
 | «at» q k ih =>
  intro kd p s o h1 h2 h;rw[Sem.wp]at h ⊢;exact ih () kd q s o h1 h2 h
 | load a q k ih =>
  intro kd p s o h1 h2 h;rw[Sem.wp]at h ⊢;obtain⟨x,h3,h4⟩:=h;exact⟨x,h3,ih x (kd x) p s o h1 h2 h4⟩
 | update a q g k ih =>
  intro kd p s o h1 h2 h;rw[Sem.wp]at h ⊢;obtain⟨h3,h4⟩:=h;refine⟨h3,?_⟩
  by_cases z:a=e
  · subst z
    exact ih () kd.2 p _ (g o) (Ga g h1 ((kd.1 o).2 (aFj h1))) ((kd.1 o).1.trans h2) h4
  · exact ih () kd.2 p _ o ((Hk _ _ z).trans h1) h2 h4
 | loadIfAlive a k ih =>
  intro kd p s o h1 h2 h;rw[Sem.wp]at h ⊢;exact ih _ (kd _) p s o h1 h2 h
 | point l k ih =>
  intro kd p s o h1 h2 h;rw[Sem.wp]at h ⊢;exact ih () kd p s o h1 h2 h
 | alloc x k ih =>
  intro kd p s o h1 h2 h;rw[Sem.wp]at h ⊢;exact ih _ (kd _) p _ o (As _ h1) h2 h
 | fresh k ih =>
  intro kd p s o h1 h2 h;rw[Sem.wp]at h ⊢;exact ih _ (kd _) p _ o h1 h2 h
 | ask k ih =>
  intro kd p s o h1 h2 h;rw[Sem.wp]at h ⊢;exact ih _ (kd _) p _ o h1 h2 h
 | handled w k ih =>
  intro kd p s o h1 h2 h;rw[Sem.wp]at h ⊢;exact ih _ (kd _) p _ o h1 h2 h
 | stack k ih =>
  intro kd p s o h1 h2 h;rw[Sem.wp]at h ⊢;exact ih _ (kd _) p _ o h1 h2 h
 | thread k ih =>
  intro kd p s o h1 h2 h;rw[Sem.wp]at h ⊢;exact ih _ (kd _) p _ o h1 h2 h
 | _=>exact fun kd=>kd.elim
theorem KD.any {α:Type}{M:Model}{A:Around}{Q:α->Shared->Prop}{E:Value->Shared->Prop}{s:Shared}{e:Addr}{o:Obj}{m:Sem α}(k:KD m)(h1:s.heap.get? e=some o)(h:wpAny M A m Q E s):wpAny M A m (fun a s'=>Q a s'/\∃ o',s'.heap.get? e=some o'/\o'.dict=o.dict) E s :=
 fun Γ p hΓ=>KD.wp m k p s o h1 rfl (h Γ p hΓ)
theorem aTv {α:Type}{w:String}:KD (unsupported w:Sem α):=trivial
theorem wR {a:Addr}:KD (load a):=fun _=>trivial
theorem uA:KD stack:=fun _=>trivial
theorem aIy {a:Addr}{f:Obj->Obj}(h:∀ o:Obj,(f o).dict=o.dict/\(o.isFreed=false->(f o).isFreed=false)):KD (update a f):=⟨h,trivial⟩
theorem aQc (f:Array Value->Array Value)(o:Obj):(Obj.mapFields f o).dict=o.dict/\(o.isFreed=false->(Obj.mapFields f o).isFreed=false):=by
 obtain⟨c,d,da,sl⟩:=o;cases da<;>exact⟨rfl,id⟩
theorem yU (v:Value):KD (fieldsOf v):=by
 unfold fieldsOf;split
 · refine KD.bind wR fun o=>?_
   split<;>exact trivial
 · exact trivial
theorem oO (v:Value)(i:Nat):KD (field v i):=by
 unfold field;refine KD.bind (yU v) fun vs=>?_
 split<;>exact trivial
theorem kR (v:Value)(i:Nat)(x:Value):KD (setField v i x):=by
 unfold setField;split
 · unfold updateField
   refine KD.bind wR fun o=>?_
   split
   · split
     · exact aIy (aQc _)
     · exact trivial
   · exact trivial
 · exact trivial
theorem xF:KD frameEnvs:=by
 unfold frameEnvs;exact KD.bind uA fun _=>trivial
theorem aBf:∀ l:List PySem.Env,KD (readyFrames l)
 | []=>by unfold readyFrames;exact trivial
 | env :: outer=>by
  unfold readyFrames;split
  · refine KD.bind wR fun o=>?_
    split
    · exact trivial
    · refine KD.bind ?_ fun _=>KD.bind ?_ fun _=>KD.bind (aIy fun o=>⟨rfl,fun h=>by
       obtain⟨c,d,da,sl⟩:=o
       cases da<;>first | rfl | cases h⟩) fun _=>aBf outer
      · unfold behindIsImport
        split
        · exact trivial
        · split
          · exact trivial
          · exact KD.bind (oO _ _) fun _=>trivial
      · unfold keptBack
        split
        · split
          · exact trivial
          · refine KD.bind ?_ fun _=>trivial
            unfold underTheClaimsCaller;exact KD.bind uA fun _=>trivial
        · exact trivial
  · exact trivial
theorem aBn (env:PySem.Env):KD (frameOf env):=by
 unfold frameOf;refine KD.bind xF fun l=>KD.bind ?_ fun r=>?_
 · unfold frameObject
   split
   · exact trivial
   · exact KD.bind (aBf _) fun _=>trivial
 · split<;>exact trivial
theorem uK (f:Addr)(b:Bool):KD (entryPlaceOf f b):=by
 unfold entryPlaceOf;refine KD.bind uA fun l=>?_
 split<;>exact trivial
theorem zM (a b c d e:Value)(l:List Value):KD (EntryCells.newEntry a b c d e l):=by
 unfold EntryCells.newEntry newFields newObj
 have jp:∀ da:Data,KD (newObjAsIs (.type "traceback") da):=fun da=>by
  unfold newObjAsIs;exact KD.bind (fun _=>trivial) fun _=>trivial
 generalize ([a,b,c,d,e]++if l.isEmpty=true then Ao 6 Value.none else l)=vs
 dsimp only
 split
 · exact KD.bind aTv fun _=>jp _
 · exact jp _
theorem aL5 (e:Value)(env:PySem.Env):KD (noteFrame e env):=by
 unfold noteFrame;split
 · rename_i f _
   refine KD.bind (oO _ _) fun h=>?_
   have last:KD (do setField e 1 (← EntryCells.newEntry h (← frameOf env) .none (rawInt f) .none (← entryPlaceOf f (h != .none)))):=KD.bind (aBn _) fun _=>KD.bind (uK _ _) fun _=>KD.bind (zM _ _ _ _ _ _) fun _=>kR _ _ _
   split
   · refine KD.bind (oO _ _) fun x=>?_
     split
     · exact trivial
     · exact KD.bind (kR _ _ _) fun _=>last
   · exact last
 · exact trivial
theorem aFo (e:Value)(f:Option Addr):KD (setFlight e f):=by
 unfold setFlight;refine KD.bind (oO _ _) fun tb=>?_
 split
 · exact kR _ _ _
 · exact trivial
theorem aBy (env:PySem.Env)(e:Value):KD (leaving env e):=by
 unfold leaving;exact KD.bind (aL5 _ _) fun _=>aFo _ _
end Mir
namespace Mir
open PySem L2
variable {X:Cx}{P:XP}{pins:List (Addr×Obj)}{σ:St}{H H':Hp}{s s':Shared}{ea C:Addr}
theorem dO.there {Pg:Program}{w:World}{H:Hp}{h:Heap}{a:Addr}{o:HO}(x:dO Pg w H h a o):∃ ob,h.get? a=some ob:=by
 cases o with
 | lst xs=>obtain⟨_,_,_,_,e⟩:=x;exact⟨_,e⟩
 | tup xs=>obtain⟨_,_,_,p⟩:=x;obtain⟨o,e,_⟩:=p;exact⟨o,e⟩
 | dK kvs=>obtain⟨_,_,_,_,o,_,_,e,_⟩:=x;exact⟨o,e⟩
 | dT kvs=>obtain⟨_,_,_,_,o,_,_,e,_⟩:=x;exact⟨o,e⟩
 | set S n=>obtain⟨o,_,_,_,e,_⟩:=x;exact⟨o,e⟩
 | ins C dx fs=>obtain⟨_,_,_,e,_⟩:=x;exact⟨_,e⟩
 | own y=>exact x
 | xd fs=>obtain⟨_,⟨o,_,_,e,_⟩,_⟩:=x;exact⟨o,e⟩
 | rng lo hi=>obtain⟨_,_,_,e⟩:=x;exact⟨_,e⟩
 | frz ob u=>obtain⟨e,_⟩:=x;exact⟨_,e⟩
 | tbl ps=>exact⟨_,x⟩
 | met f y=>exact⟨_,x⟩
 | ext φ=>obtain⟨_,e,_⟩:=x;exact e
structure Fly (Pg:Program)(w:World)(l:List PySem.Env)(H:Hp)(s:Shared)(ea C:Addr)(H':Hp)(s':Shared):Prop where
 os:s'.os=s.os
 bare:PyProof.Rows.AllBare s'.gens
 hok:HOk Pg w H' s'.heap
 un:Un (frs l) [] H H' s.heap s'.heap
 new:s.heap.get? ea=none
 unt:H' ea=none
 fly:∃ a0 Bh,Heap.FlyingW Bh l ea (.ref C) a0 s'.heap/\(∀ b o o',s.heap.get? b=some o->b∉frs l->s'.heap.get? b=some o'->Bh.get? b=some o')/\(∀ b u o',H' b=some u->s'.heap.get? b=some o'->Bh.get? b=some o')
def Dct (a:Addr)(dx:Option Addr)(h:Heap):Prop:=∃ o,h.get? a=some o/\o.dict=dx
def CXM (Pg:Program)(w:World):CXT:=fun outer H s E e s'=>∃ ea C dx H',e=.ref ea/\Fly Pg w outer H s ea C H' s'/\Dct ea dx s'.heap/\E (.ref C) dx H'
theorem aDu {Pg:Program}{w:World}{h h' Bh:Heap}(x:HOk Pg w H h)(k:∀ b u o',H b=some u->h.get? b=some o'->Bh.get? b=some o')(st:Bh.StaysIn h'):HOk Pg w H h':=fun a o e =>
 (x a o e).stay (fun b u hb q=>by
  rcases hb with hb | hb
  · exact st _ _ (k b o u (by rw[hb];exact e) q)
  · exact st _ _ (k b _ u hb q)) (fun _ q=>q) fun _ _ q=>q
theorem aGo {Pg:Program}{w:World}{fs:List Addr}{H0:Hp}{h0 h h' Bh:Heap}(u:Un fs [] H0 H h0 h)(ok:HOk Pg w H h)(hk:∀ b o o',h0.get? b=some o->b∉fs->h.get? b=some o'->Bh.get? b=some o')(ht:∀ b u o',H b=some u->h.get? b=some o'->Bh.get? b=some o')(st:Bh.StaysIn h')
 (sl:∀ b o,b∈fs->h.get? b=some o->∃ s,h'.get? b=some { o with slots:=s }):Un fs [] H0 H h0 h':=by
 refine⟨fun b o q n hb hx=>st _ _ (hk b o o q hb (u.keep b o q n hb hx)),fun b o q n hb hx=>?_,u.free,fun b o q hx=>?_,u.tups,u.frzs,u.tbls⟩
 · obtain⟨s1,e1⟩:=u.slot b o q n hb hx
   obtain⟨s2,e2⟩:=sl b _ hb e1;exact⟨s2,e2⟩
 · obtain⟨o',e⟩:=u.there b o q hx
   by_cases hb:b∈fs
   · obtain⟨s2,e2⟩:=sl b _ hb e
     exact⟨_,e2⟩
   · exact⟨o',st _ _ (hk b o o' q hb e)⟩
theorem aAv {env:PySem.Env}{l:List PySem.Env}{L:Addr}(h:env.frame=some L):frs (env :: l)=L :: frs l:=by unfold frs;rw[Gk,h]
theorem aGl {M:Model}{E:Value->Shared->Prop}{Q:Unit->Shared->Prop}(I:Inv X pins σ H s)(hx:X.ex=[])(hst:X.stack=X.env :: X.outer)(hf:X.env.frame=some X.env.locals)(F:Fly X.prog X.w X.stack H s ea C H' s')
 (hQ:∀ h',Fly X.prog X.w X.outer X.H₀ X.s₀ ea C H' { s' with heap:=h' }->Q () { s' with heap:=h' }):wpAny M X.A (leaving X.env (.ref ea)) Q E s':=by
 obtain⟨a0,Bh,fl,cov,trk⟩:=F.fly;have I':Inv X pins σ H' s':=I.call' (ch:=[]) F.os F.un F.hok F.bare (fun b z=>absurd z (by simp))
 rw[hst]at fl;refine wpAny_leaves_onW (by rw[I.ok.frames,hst]) hf fl fun h' x1 x2=>hQ h' ?_
 have ne:∀ b o,X.s₀.heap.get? b=some o->b≠X.env.locals:=fun b o e=>Cb (Af (Am e) I.ok.above)
 have cov':∀ b o o',X.s₀.heap.get? b=some o->b∉frs X.outer->s'.heap.get? b=some o'->Bh.get? b=some o':=fun b o o' e n q=>by
  obtain⟨o1,e1⟩:=I.base.there b o e (by rw[hx];simp)
  refine cov b o1 o' e1 ?_ q
  rw[hst,aAv hf];simp only[Ag,not_or];exact⟨ne b o e,n⟩
 have base:Un (frs X.outer) [] X.H₀ H' X.s₀.heap s'.heap:=by
  have:=I'.base
  rw[hx]at this;exact this
 refine⟨F.os.trans I.os,F.bare,aDu F.hok trk x1.1,aGo base F.hok cov' trk x1.1 (fun b o hb q=>?_),?_,F.unt,a0,Bh,x1,fun b o o' e n q=>?_,fun b u o' e q=>?_⟩
 · obtain⟨_,o1,e1,nf⟩:=fl.2.2.1.mem (b:=b) (by have:=aAv (l:=X.outer) hf;unfold frs at this;rw[this];exact Ae _ hb)
   rw[q]at e1;cases e1;exact x2 b o q nf
 · cases q:X.s₀.heap.get? ea with
   | none=>rfl
   | some o =>
    obtain⟨o1,e1⟩:=I.base.there ea o q (by rw[hx];simp)
    rw[F.new]at e1;cases e1
 · obtain⟨o1,e1⟩:=base.there b o e (by simp)
   have q1:=cov' b o o1 e n e1;have:=x1.1 _ _ q1
   rw[show ({ s' with heap:=h' }:Shared).heap.get? b=some o' from q]at this
   cases this;exact q1
 · obtain⟨o1,e1⟩:=dO.there (F.hok b u e)
   have q1:=trk b u o1 e e1;have:=x1.1 _ _ q1
   rw[show ({ s' with heap:=h' }:Shared).heap.get? b=some o' from q]at this
   cases this;exact q1
theorem aM3 {M:Model}{E:Value->Shared->Prop}{Q:Unit->Shared->Prop}{dx:Option Addr}(I:Inv X pins σ H s)(hx:X.ex=[])(hst:X.stack=X.env :: X.outer)(hf:X.env.frame=some X.env.locals)(F:Fly X.prog X.w X.stack H s ea C H' s')(di:Dct ea dx s'.heap)
 (hQ:∀ h',Fly X.prog X.w X.outer X.H₀ X.s₀ ea C H' { s' with heap:=h' }->Dct ea dx h'->Q () { s' with heap:=h' }):wpAny M X.A (leaving X.env (.ref ea)) Q E s':=by
 obtain⟨o,e1,e2⟩:=di;refine wpAny_mono (KD.any (aBy _ _) e1 (aGl (Q:=fun _ s2=>∃ h',s2={ s' with heap:=h' }/\Fly X.prog X.w X.outer X.H₀ X.s₀ ea C H' { s' with heap:=h' }) I hx hst hf F fun h' z=>⟨h',rfl,z⟩)) (fun _ s2 z=>?_) fun _ _ z=>z
 obtain⟨⟨h',q1,q2⟩,o',q3,q4⟩:=z;subst q1;exact hQ h' q2 ⟨o',q3,q4.trans e2⟩
end Mir
namespace Mir
open PySem L2
variable {X:Cx}{P:XP}{a b c e:Expr}{es:List Expr}{f g:FE}{fs:FEs}{pos:Pos}
abbrev bmV:List Value:=[.type "ValueError",.type "Exception",.type "BaseException",.type "object"]
def PX (cl:XC->Addr)(E:XK):XP:=⟨fun x _ H=>∀ H' dx,aK H H'->XD x dx H'->E (.ref (cl x.c)) dx H',fun h s H' dx s' xd=>h H' dx (s.trans s') xd⟩
section
variable {Pg:Program}{w:World}{K:PySem.W.Frag}{mg:Str->Option Value}{base:Heap}{cl:XC->Addr}{N:List Str}{qual:Str}{scope:Scope}{fa:Addr}{cdv:Value}{A:Around}{outer:List PySem.Env}{s0:Shared}{H0:Hp}{E:XK}
theorem fB:Thr (CXM Pg w) cl (lO (CXM Pg w) Pg w K mg base N qual scope fa cdv A outer s0 H0 E) (PX cl E):=by
 rintro pins σ H s e s' I ⟨ea,C,dx,H',rfl,F,di,x,hx,xd,px⟩
 refine aM3 I rfl rfl rfl F di fun h' F' di'=>⟨ea,C,dx,H',rfl,F',di',?_⟩
 rw[hx];exact px H' dx (aK.refl H') xd
theorem iO:PassesOwn (model Pg w) (lO (CXM Pg w) Pg w K mg base N qual scope fa cdv A outer s0 H0 E).A (lO (CXM Pg w) Pg w K mg base N qual scope fa cdv A outer s0 H0 E).env (lO (CXM Pg w) Pg w K mg base N qual scope fa cdv A outer s0 H0 E).xe:=PassesOwn.leaving
theorem aU4 {X:Cx}{cl:XC->Addr}:Thr (CXM Pg w) cl X XP0:=by
 rintro pins σ H s e s' I ⟨ea,C,dx,H',rfl,F,di,x,hx,xd,px⟩
 exact px.elim
theorem aN7 {x:Str}{ps:List Str}{k:Nat}{st:Stmt}{F:FS}{f:Addr}{fd:FuncData}(Fu:Fun K x x st f fd)(S:FnScope N ps (aG st))
 (hb:∀ (f:Addr) (cdv:Value) (A:Around) (outer:List PySem.Env) (s:Shared) (H:Hp) (E:XK),Room k (A.deeper (Ip x (aG st) s.heap.objs.size f cdv)) ->
  PSs (lO (CXM Pg w) Pg w K mg base N x (aG st) f cdv A outer s H E) (cU st) (tS K (PX cl E) F)):FnOk Pg w K mg base (CXM Pg w) (k+1) f fd ps (spM K cl (bY ps.length N.length F)):=by
 obtain⟨oc,od,kV,doc,pm,an,cdv,ct,osl,rfl,lk,hcd⟩:=Fu.ex;refine yT lk hcd S (aL3 fun ds e=>?_) fun A outer s H vs Q E hr hsp=>⟨_,hb f cdv A outer s H E hr,?_⟩
 · unfold bY
   rw[if_neg e]
 · obtain⟨ds,B,hB,r,q⟩:=hsp
   refine⟨H,B,stE N.length ds,DenS.start hB r,?_⟩
   unfold bY at q;by_cases e:ds.length=ps.length
   · rw[if_pos e]at q
     cases e2:F (stE N.length ds) with
     | nx ρ'=>simp only[e2]at q;exact fun σ' H' d' x'=>q .non H' d'.e.sam (show V.non=V.non from rfl)
     | rt r=>simp only[e2]at q;exact fun v H' s' ro=>q v H' s' (ro.fr s')
     | bk ρ'=>simp only[e2]at q
     | ct ρ'=>simp only[e2]at q
     | exc z ρ'=>simp only[e2]at q;exact fun σ' H' d' x' H'' dx s'' xd=>q H'' dx (d'.e.sam.trans s'') xd
     | stk=>simp only[e2]at q
   · rw[if_neg e]at q;exact q.elim
theorem cZ {x:Str}{ps:List Str}{k:Nat}{st:Stmt}{F:FS}(Fa:bD K mg x st ps)(S:FnScope N ps (aG st))
 (hb:∀ (f:Addr) (cdv:Value) (A:Around) (outer:List PySem.Env) (s:Shared) (H:Hp) (E:XK),Room k (A.deeper (Ip x (aG st) s.heap.objs.size f cdv)) ->
  PSs (lO (CXM Pg w) Pg w K mg base N x (aG st) f cdv A outer s H E) (cU st) (tS K (PX cl E) F)):aH Pg w K mg base (CXM Pg w) (k+1) x ps (spM K cl (bY ps.length N.length F)) :=
 let ⟨f,fd,Fu,m,b⟩:=Fa
 ⟨f,fd,aN7 Fu S hb,m,Fu.kp,b⟩
end
end Mir
namespace Mir
open PySem L2
variable {X:Cx}{P:XP}{pins:List (Addr×Obj)}{σ:St}{H H':Hp}{s s':Shared}{ea C:Addr}
section
variable {Pg:Program}{w:World}{l:List PySem.Env}{M:Model}{A:Around}{E:Value->Shared->Prop}{R:Shared->Prop}
theorem Fly.at {h' Bh:Heap}{a0:Value}(F:Fly Pg w l H s ea C H' s')(fl:Heap.FlyingW Bh l ea (.ref C) a0 s'.heap)(cov:∀ b o o',s.heap.get? b=some o->b∉frs l->s'.heap.get? b=some o'->Bh.get? b=some o')
 (trk:∀ b u o',H' b=some u->s'.heap.get? b=some o'->Bh.get? b=some o') (fl':Heap.FlyingW Bh l ea (.ref C) a0 h') (up:s'.heap.UpToSlots h'):Fly Pg w l H s ea C H' { s' with heap:=h' }:=by
 have same:∀ b o1 o',Bh.get? b=some o1->h'.get? b=some o'->o1=o':=fun b o1 o' q e=>Dh.inj ((fl'.1 _ _ q).symm.trans e);refine⟨F.os,F.bare,aDu F.hok trk fl'.1,aGo F.un F.hok cov trk fl'.1 fun b o hb q=>?_,F.new,F.unt,a0,Bh,fl',fun b o o' e n q=>?_,fun b u o' e q=>?_⟩
 · obtain⟨_,o1,e1,nf⟩:=fl.2.2.1.mem (b:=b) hb
   rw[q]at e1;cases e1;exact up b o q nf
 · obtain⟨o1,e1⟩:=F.un.there b o e (by simp)
   have q1:=cov b o o1 e n e1;exact same b o1 o' q1 q▸q1
 · obtain⟨o1,e1⟩:=dO.there (F.hok b u e)
   have q1:=trk b u o1 e e1;exact same b o1 o' q1 q▸q1
end
theorem Fly.inv (F:Fly X.prog X.w X.stack H s ea C H' s')(I:Inv X pins σ H s):Inv X pins σ H' s':=I.call' (ch:=[]) F.os F.un F.hok F.bare fun b z=>absurd z (by simp)
end Mir
namespace Mir
open PySem L2
variable {K:PySem.W.Frag}
def noL (K:PySem.W.Frag):Bool:=K.all fun p=>!(p.2.cls==Value.type "list")
theorem aPb (h:noL K=true){a:Addr}{o:Obj}(e:K.lookup a=some o):o.cls≠.type "list":=fun c=>by
 have m:(a,o)∈K:=by
  clear h c
  induction K with
  | nil=>cases e
  | cons p r ih =>
   obtain⟨b,u⟩:=p;rw[Br]at e;cases q:a==b with
   | true=>rw[q]at e;cases e;rw[eq_of_beq q];exact Ad
   | false=>rw[q]at e;exact Ae _ (ih e)
 have:=Gi.mp h _ m
 rw[c]at this;simp at this
theorem vF {G:Hp}:∀ ns:List Int,aN K G (ns.map .int) (ns.map V.int)
 | []=>rfl
 | n :: r=>⟨.int n,r.map V.int,rfl,rfl,vF r⟩
theorem aPf {φ:Φ}{H:Hp}{a:Addr}{ns:List Int}(hL:noL K=true)(h:φ [.lst (ns.map .int)]=.ok (sc (.bl true)))(hS:SqL K H a (ns.map V.int)):spM K (clK K) φ [.ref a] H (fun v _=>v=.bl true) fun _ _ _=>False:=by
 have rd:Rd H a (.lst (ns.map V.int)):=by
  rcases hS with q | ⟨o,its,n,e,c,_⟩
  · exact q
  · exact absurd c (aPb hL e)
 refine⟨[.lst (ns.map .int)],fun _=>False,fun _ z=>z.elim,⟨.ref a,[],rfl,⟨a,ns.map V.int,rfl,?_,vF ns⟩,rfl⟩,?_⟩
 · rcases rd with q | ⟨o,q⟩
   · exact .inl (aO.mpr ⟨fun z=>z,q⟩)
   · exact .inr ⟨o,aO.mpr ⟨fun z=>z,q⟩⟩
 · rw[h]
   exact fun v H' _ r=>r
abbrev aRb (T:Addr):List Value:=[.ref T,.type "ValueError",.type "Exception",.type "BaseException",.type "object"]
structure XOne (K:PySem.W.Frag)(T:Addr)(n:Str)(C:Addr):Prop where
 ns:Ca K mainGlobals n=some (some (.ref C))
 lk:∃ od cd sl,K.lookup C=some ⟨.type "type",od,.cls cd,sl⟩/\cd.mro=.ref C :: aRb T
 ga:Bd K (.ref C) "__getattribute__" = some (some (.builtin "BaseException.__getattribute__"))
 gh:Bd K (.ref C) "__getattr__" = some none
 cl:Bd K (.ref C) "__class__" = some (some (.builtin "object.__class__"))
structure XRaw (K:PySem.W.Frag)(T:Addr)(n:Str)(C:Addr)(od:Option Addr)(cd:ClassData)(sl:Array (Option Value)):Prop where
 ns:Ca K mainGlobals n=some (some (.ref C))
 lk:K.lookup C=some ⟨.type "type",od,.cls cd,sl⟩
 mro:cd.mro=.ref C :: aRb T
 ga:Bd K (.ref C) "__getattribute__" = some (some (.builtin "BaseException.__getattribute__"))
 gh:Bd K (.ref C) "__getattr__" = some none
 cl:Bd K (.ref C) "__class__" = some (some (.builtin "object.__class__"))
theorem XRaw.one {T C:Addr}{n:Str}{od:Option Addr}{cd:ClassData}{sl:Array (Option Value)}(x:XRaw K T n C od cd sl):XOne K T n C:=⟨x.ns,⟨od,cd,sl,x.lk,x.mro⟩,x.ga,x.gh,x.cl⟩
structure At (K:PySem.W.Frag)(x:Str)(st:Stmt)(f:Addr)(oc kV doc pm cdv ct:Value)(od an:Option Addr)(sl:Array (Option Value)):Prop where
 ns:Ca K mainGlobals x=some (some (.ref f))
 lk:K.lookup f=some ⟨oc,od,.func (Ef x x (fV st) (cU st) (aG st) .none kV doc pm an cdv ct),sl⟩
 cd:Fn K cdv x=true
 kp:Er K (.ref f)=true
end Mir
namespace Mir
open PySem L2
variable {X:Cx}{P:XP}{a b c e:Expr}{es:List Expr}{f g:FE}{fs:FEs}{pos p:Pos}
def jZ (a:FE):FE:=fun ρ=>do
 let x ← a ρ
 let i ← asI x.d
 .ok (sc (.int (if i<0 then -i else i)))
def uI (a b:FE):FE:=fun ρ=>do
 let x ← a ρ
 let y ← b ρ
 let i ← asI x.d
 let j ← asI y.d
 .ok (sc (.int (if j<i then j else i)))
def uP (a b:FE):FE:=fun ρ=>do
 let x ← a ρ
 let y ← b ρ
 let i ← asI x.d
 let j ← asI y.d
 .ok (sc (.int (if j>i then j else i)))
theorem aJu (hg:Gl X "abs")(hm:X.mg "abs" = none)(ha:PE X a (tE X.K P f))(he:starEach [a] X.env=[(false,eval a X.env)]:=by rfl):PE X (.Call (.Name "abs" p) [a] [] pos) (tE X.K P (jZ f)):=by
 refine PE.imp (iP aH6 hg hm (by decide +kernel) (aA ha aQ he) (he:=he)) ?_
 intro σ H Q h;refine aAt h ?_
 intro H0 B ρ v H' r d0 d g s h;cases e:asI r.d with
 | stk=>simp[e]at h
 | exc x=>exact(cA e).elim
 | ok i =>
  simp only[e,R.ok_bind]at h;exact⟨i,by rw[g.int (cQ e)],h _ H' (aK.refl _) (aP.sc (show Rep _ _ (.int _) _ from rfl))⟩
theorem aNm {n:Str}{id:String}{G:Int->Int->Int}{F:FE}(hF:F=fun ρ=>f ρ >>= fun x=>g ρ >>= fun y=>asI x.d >>= fun i=>asI y.d >>= fun j=>.ok (sc (.int (G i j))))
 (hr:kU X (.builtin id) (fun xs H Q=>∃ i j,xs=[.int i,.int j]/\Q (.int (G i j)) H)) (hg:Gl X n) (hm:X.mg n=none) (hv:bootBuiltins n=some (.builtin id)) (hn:n ≠ "__name__") (hd:(n==("__debug__":Str))=false) (ha:PE X a (tE X.K P f)) (hb:PE X b (tE X.K P g))
 (he:starEach [a,b] X.env=[(false,eval a X.env),(false,eval b X.env)]) (he2:starEach [b] X.env=[(false,eval b X.env)]):PE X (.Call (.Name n p) [a,b] [] pos) (tE X.K P F):=by
 refine PE.imp (iP hr hg hm hv (aA ha (aA hb aQ he2) (by rw[he,he2])) hn hd (he:=by rw[he,he2]) (hpl:=by rw[he2];rfl)) ?_
 intro σ H Q h;refine aSf hF h ?_
 intro H0 B ρ v w H' r r' d0 d g1 g2 s h;cases e1:asI r.d with
 | stk=>simp[e1]at h
 | exc x=>exact(cA e1).elim
 | ok i =>
  cases e2:asI r'.d with
  | stk=>simp[e1,e2]at h
  | exc x=>exact(cA e2).elim
  | ok j =>
   simp only[e1,e2,R.ok_bind]at h;exact⟨i,j,by rw[g1.int (cQ e1),g2.int (cQ e2)],h _ H' (aK.refl _) (aP.sc (show Rep _ _ (.int _) _ from rfl))⟩
theorem aNt (hc:X.calm=true)(hg:Gl X "min")(hm:X.mg "min" = none)(ha:PE X a (tE X.K P f))(hb:PE X b (tE X.K P g))(he:starEach [a,b] X.env=[(false,eval a X.env),(false,eval b X.env)]:=by rfl)(he2:starEach [b] X.env=[(false,eval b X.env)]:=by rfl) :
 PE X (.Call (.Name "min" p) [a,b] [] pos) (tE X.K P (uI f g)):=aNm (G:=fun i j=>if j<i then j else i) rfl (aFl hc) hg hm (by decide +kernel) (by decide) (by decide) ha hb he he2
theorem aS0 (hc:X.calm=true)(hg:Gl X "max")(hm:X.mg "max" = none)(ha:PE X a (tE X.K P f))(hb:PE X b (tE X.K P g))(he:starEach [a,b] X.env=[(false,eval a X.env),(false,eval b X.env)]:=by rfl)(he2:starEach [b] X.env=[(false,eval b X.env)]:=by rfl) :
 PE X (.Call (.Name "max" p) [a,b] [] pos) (tE X.K P (uP f g)):=aNm (G:=fun i j=>if j>i then j else i) rfl (aF3 hc) hg hm (by decide +kernel) (by decide) (by decide) ha hb he he2
end Mir
namespace L2
open PySem PySem.Spec PyProof.Rows
def Ite (K:PySem.W.Frag)(a:Addr):It :=
 ⟨fun i H=>∃ xs x,SqL K H a xs/\xs[i]?=some x,fun i H v H'=>∃ t x,v=.ref t/\H t=none/\H'=upd H t (.tup [.int i,x])/\∀ xs,SqL K H a xs->xs[i]?=some x,fun i H=>∃ xs,SqL K H a xs/\xs.length<=i⟩
def ETn (e it a:Addr)(i:Nat)(h:Heap):Prop:=(∃ old,IsEnum h e it i old)/\h.IsListIter it a i
theorem aF4 {P:Program}{w:World}{K:PySem.W.Frag}{es:List Expr}{k:Nat}{pos:Pos}{e it a:Addr}(n1:e≠it):Turn P w K (.Tuple es k pos) (Ite K a) [e,it] e (ETn e it a) where
 mem:=by simp
 obj:=fun i h st c hc=>by
  obtain⟨⟨old,he⟩,o,q1,q2,q3⟩:=st;simp only[Ag,Bi,or_false]at hc;rcases hc with z | z<;>rw[z]
  · exact⟨_,he,fun v z=>nomatch z⟩
  · exact⟨o,q1,fun v z=>by rw[q3]at z;cases z⟩
 keep:=fun i h h' st kp=>⟨st.1.imp fun old he=>kp _ (by simp) _ he,st.2.at fun o q=>kp _ (by simp) o q⟩
 item:=by
  intro X hP hw hK hc i pins s σ H E I hf st hg;subst hP hw hK;obtain⟨xs,x,ha,hx⟩:=hg;obtain⟨us,ru,pu,_⟩:=I.list ha;obtain⟨u,eu,rxu⟩:=ru.get hx;obtain⟨⟨old,he⟩,hit⟩:=st;have ee:e<s.heap.objs.size:=Am he;have ei:it<s.heap.objs.size:=by obtain⟨_,q,_⟩:=hit;exact Am q
  refine wpAny_pyNext_enum_item he hit pu.isList (x:=u) (by simpa using eu) n1 fun h' b1 b2 b3 b4 b5=>⟨_,rfl,?_⟩
  refine wpAny_letOwnedTupleGo_enum b1 fun hp2 c1 cs=>?_
  have kp:∀ c o,c∉[e,it]->s.heap.get? c=some o->hp2.get? c=some o:=fun c o hc' q=>by
   simp only[Ag,Bi,or_false,not_or]at hc';exact cs.extBut c o hc'.1 (b5 c o hc'.1 hc'.2 q)
  have st':ETn e it a (i+1) hp2:=⟨⟨u,by push_cast;exact c1⟩,b2.extBut cs.extBut n1.symm⟩
  have pr:=cs.extBut _ _ (Ge ee) b3
  refine⟨.ref s.heap.objs.size,upd H s.heap.objs.size (.tup [.int i,x]),I.turnedNew (t':=s.toks+1) kp hf (fun c hc'=>?_) (Ah _) ⟨by show 2<=sizeLine;decide,[.int i s.toks,u],.cons ⟨_,rfl⟩ (.cons rxu .nil),⟨_,pr,rfl,_,rfl⟩⟩,rfl,
   ⟨_,x,rfl,I.fresh,rfl,fun zs hq=>by rw[I.list_inj hq ha];exact hx⟩,st',fun c hc'=>?_⟩
  · obtain⟨⟨_,d1⟩,o,d2,_⟩:=st'
    simp only[Ag,Bi,or_false]at hc';rcases hc' with z | z<;>rw[z]
    · exact⟨_,d1⟩
    · exact⟨_,d2⟩
  · have lt:c<s.heap.objs.size:=by
     simp only[Ag,Bi,or_false]at hc';rcases hc' with z | z<;>rw[z]<;>assumption
    rw[bI (Cb lt)];exact(hf c hc').1
 done:=by
  intro X hP hw hK hc i pins s σ H E I hf st hg;subst hP hw hK;obtain⟨xs,ha,hend⟩:=hg;obtain⟨us,ru,pu,_⟩:=I.list ha;have lu:=ru.length;obtain⟨⟨old,he⟩,hit⟩:=st;refine wpAny_pyNext_enum_end (I.ok.hd hc) he hit pu.isList (Array.getElem?_eq_none (by rw[Az];omega)) fun h' kp=>⟨rfl,I.turnedL (t':=s.toks) (fun c o hc' q=>?_) hf⟩
  simp only[Ag,Bi,or_false,not_or]at hc';exact kp c o hc'.2 q
 self:=fun _ _ _ _ _ st h=>let ⟨⟨_,he⟩,_⟩:=st;wpAny_pyIter_enum he h
def aTx (K:PySem.W.Frag)(ta:TA):TI:=fun σ H R=>ta σ H fun vs H1=>∃ a,vs=[.ref a]/\(∃ xs,SqL K H1 a xs)/\R (Ite K a) H1
theorem aM5 {X:Cx}{es:List Expr}{k:Nat}{tp:Pos}{a:Expr}{t:TA}{p pos:Pos}(hg:Gl X "enumerate")(hm:X.mg "enumerate" = none)(ha:PA X [a] t)(hs:starEach [a] X.env=[(false,eval a X.env)]:=by rfl) :
 PI X (.Tuple es k tp) (.Call (.Name "enumerate" p) [a] [] pos) (aTx X.K t):=by
 intro pins s σ H R I h;refine Call_ (gO I hg hm (show bootBuiltins "enumerate" = some (.type "enumerate") by decide +kernel) (Bw (thn (ha pos pins s σ H _ I h) fun us s1 ⟨vs,H1,I1,r1,x,e,⟨xs,hx⟩,q⟩=>?_) (by rw[hs];rfl) rfl))
 subst e;obtain⟨u,rfl,rx⟩:=vB r1;cases rx;obtain⟨us',ru,pu,zu⟩:=I1.list hx;refine call_enumerate_list pu.isList fun h1 he hit hsz hk=>wpAny_pyIter_enum he ?_
 have big:∀ c∈[s1.heap.objs.size+1,s1.heap.objs.size],s1.heap.objs.size<=c:=fun c hc'=>by
  simp only[Ag,Bi,or_false]at hc';rcases hc' with z | z<;>rw[z]
  · exact Dq _ 1
  · exact Ah _
 exact⟨_,[s1.heap.objs.size+1,s1.heap.objs.size],_,_,H1,rfl,I1.kept (t':=s1.toks) hk,aF4 (Nat.succ_ne_self _),⟨⟨_,he⟩,hit⟩,fun c hc'=>I1.fpOk (big c hc') (I1.hok.fresh (big c hc')),q⟩
end L2
namespace Mir
open PySem L2
variable {X:Cx}{P:XP}{a b c e:Expr}{es:List Expr}{f g:FE}{fs:FEs}{pos p:Pos}
def rV (ds:List D):List D:=ds.zipIdx.map fun x=>.tup [.int x.2,x.1]
def mU (a:FE):FI:=fun ρ=>do
 let x ← a ρ
 let xs ← asL x.d
 .ok ⟨x.k != .own,x.fr,rV xs⟩
theorem aF0 {K:PySem.W.Frag}{H0 H':Hp}{B:Addr->Prop}{a:Addr}{xs:List V}{ds:List D}{st fr:Bool}(hs:st=true->¬ B a)(h2:Rd H' a (.lst xs))(h3:aN K (aZ fr H0 H' B) ds xs):uC K H0 H' B (Ite K a) ⟨st,fr,rV ds⟩:=by
 refine⟨fun c=>c=a,fun h c z=>z▸hs h,fun H2 B2 j1 j2 j3 j4 j5 i=>?_⟩
 have q1:SqL K H2 a xs:=.inl (mW h2 fun o=>j1 a o rfl);have l1:=h3.length;refine⟨fun hi=>⟨xs,q1,?_⟩,fun d hd=>?_⟩
 · simp[rV]at hi;omega
 · cases e1:ds[i]? with
   | none=>simp[rV,e1]at hd
   | some d1 =>
    have ed:d=.tup [.int i,d1]:=by simp[rV,e1]at hd;exact hd.symm
    subst ed;obtain⟨v,hv,rv⟩:=h3.get e1;refine⟨⟨xs,v,q1,hv⟩,fun x H3 y=>?_⟩
    obtain⟨t,x1,e3,e4,e5,y2⟩:=y;have z1:=y2 xs q1;rw[hv]at z1;cases z1;subst e3;subst e5;refine⟨aK.upd_new e4,t,[.int i,v],rfl,aO.mpr ⟨fun z=>?_,cK⟩,.int i,[v],rfl,rfl,v,[],rfl,?_,rfl⟩
    · rcases z with z | ⟨_,o,z,_⟩
      · obtain⟨o,q⟩:=j4 t z;rw[e4]at q;cases q
      · rw[j5 _ _ z]at e4;cases e4
    · exact Rep.same (aW (fun b o q n=>aK.upd_new e4 b o (j2 b o q n)) j3) rv
theorem xO {ts:List Expr}{k:Nat}{tp:Pos}(hg:Gl X "enumerate")(hm:X.mg "enumerate" = none)(ha:PE X a (tE X.K P f))(hs:starEach [a] X.env=[(false,eval a X.env)]:=by rfl) :
 PI X (.Tuple ts k tp) (.Call (.Name "enumerate" p) [a] [] pos) (tI X.K P (mU f)):=by
 refine PI.imp (aM5 hg hm (aA ha aQ hs) hs) ?_
 intro σ H Rq h
 have e:mU f=fun ρ=>evs [f] ρ >>= fun rs=>match rs with | [x]=>(asL x.d >>= fun xs=>.ok ⟨x.k != .own,x.fr,rV xs⟩) | _=>.stk:=by
  funext ρ
  unfold mU evs;cases f ρ<;>rfl
 rw[e]at h;refine aHy (q:=fun vs H1=>∃ a,vs=[.ref a]/\(∃ xs,SqL X.K H1 a xs)/\Rq (Ite X.K a) H1) h ?_
 intro H0 B ρ vs H' rs d0 d gs s h;match vs,rs,gs with
 | [],rs,gs=>have e:rs=[]:=gs;subst e;exact h.elim
 | [v],_,⟨r,rr,e1,g1,g2⟩ =>
  subst e1;rw[show rr=[] from g2]at h
  cases e2:asL r.d with
  | stk=>simp[e2]at h
  | exc x=>exact(eK e2).elim
  | ok ds =>
   simp only[e2,R.ok_bind]at h;obtain⟨a,xs,h1,h2,h3⟩:=g1.list (dQ e2);exact⟨a,by rw[h1],⟨xs,.inl h2⟩,h _ H' (aK.refl _) (aF0 (fun hk=>g1.notB d0 (dQ e2) h1 hk) h2 h3)⟩
 | v :: w :: _,_,⟨r,rr,e1,g1,r2,rr2,e2,g2⟩ =>
  subst e1;subst e2;exact h.elim
end Mir
namespace Srt
open PySem PySem.W PyProof.Rows
section
variable {lt:Nat->Nat->Bool}{n:Nat}
def at' (p:Array Nat)(k:Nat):Nat:=p.getD k 0
def Le (lt:Nat->Nat->Bool)(a b:Nat):Prop:=lt b a=false
structure Ord (lt:Nat->Nat->Bool):Prop where
 tr:∀ {a b c},Le lt a b->Le lt b c->Le lt a c
 tot:∀ {a b},lt a b=true->Le lt a b
theorem Ord.refl (o:Ord lt)(a:Nat):Le lt a a:=by
 cases h:lt a a with
 | false=>exact h
 | true=>exact o.tot h
def Inv (n:Nat)(p:Array Nat):Prop:=p.Perm (Bf n).toArray
theorem Inv.size {p:Array Nat}(h:Inv n p):p.size=n:=by simpa using h.size_eq
theorem Inv.bd {p:Array Nat}(h:Inv n p){k:Nat}(hk:k<n):at' p k<n:=by
 have hk':k<p.size:=by rw[h.size];exact hk
 have:p[k]∈(Bf n).toArray:=h.mem_iff.mp (Array.getElem_mem hk')
 unfold at';simpa[Array.getD,hk'] using this
def Up (lt:Nat->Nat->Bool)(p:Array Nat)(m:Nat):Prop:=∀ i j,i<=j->j<m->Le lt (at' p i) (at' p j)
def Dn (lt:Nat->Nat->Bool)(p:Array Nat)(m:Nat):Prop:=∀ i j,i<=j->j<m->Le lt (at' p j) (at' p i)
theorem Up.step (o:Ord lt){p:Array Nat}{m:Nat}(h:Up lt p m)(hm:1<=m)(e:Le lt (at' p (m-1)) (at' p m)):Up lt p (m+1):=fun i j hij hj=>by
 by_cases h1:j<m
 · exact h i j hij h1
 · have:j=m:=by omega
   subst this;by_cases h2:i=j
   · subst h2;exact o.refl _
   · exact o.tr (h i (j-1) (by omega) (by omega)) e
theorem Dn.step (o:Ord lt){p:Array Nat}{m:Nat}(h:Dn lt p m)(hm:1<=m)(e:Le lt (at' p m) (at' p (m-1))):Dn lt p (m+1):=fun i j hij hj=>by
 by_cases h1:j<m
 · exact h i j hij h1
 · have:j=m:=by omega
   subst this;by_cases h2:i=j
   · subst h2;exact o.refl _
   · exact o.tr e (h i (j-1) (by omega) (by omega))
end
end Srt
namespace Srt
open PySem PySem.W PyProof.Rows
abbrev lx:=HT.aOd
theorem aH3:∀ a:List Int,lx a a=false
 | []=>rfl
 | x :: a=>by show (if x=x then lx a a else _)=false;rw[if_pos rfl];exact aH3 a
theorem aIj:∀ {a b:List Int},lx a b=true->lx b a=false
 | [],[],_=>rfl
 | [],_ :: _,_=>rfl
 | _ :: _,[],h=>by cases h
 | x :: a,y :: b,h=>by
  have h':(if x=y then lx a b else decide (x<y))=true:=h
  show (if y=x then lx b a else decide (y<x))=false
  by_cases e:x=y
  · rw[if_pos e]at h';rw[if_pos e.symm];exact aIj h'
  · rw[if_neg e]at h';rw[if_neg (Ne.symm e)]
    have:=of_decide_eq_true h'
    exact decide_eq_false (by omega)
theorem aIr:∀ {a b:List Int},lx a b=false->lx b a=false->a=b
 | [],[],_,_=>rfl
 | [],(_ :: _),h,_=>(by cases h)
 | (_ :: _),[],_,h=>(by cases h)
 | x :: a,y :: b,h,g=>by
  have h':(if x=y then lx a b else decide (x<y))=false:=h
  have g':(if y=x then lx b a else decide (y<x))=false:=g
  by_cases e:x=y
  · rw[if_pos e]at h';rw[if_pos e.symm]at g';rw[e,aIr h' g']
  · rw[if_neg e]at h';rw[if_neg (Ne.symm e)]at g'
    have u:=of_decide_eq_false h';have v:=of_decide_eq_false g';omega
theorem aG8:∀ {a b c:List Int},lx a b=true->lx b c=true->lx a c=true
 | [],[],_,h,_=>by cases h
 | [],_ :: _,[],_,g=>by cases g
 | [],(_ :: _),(_ :: _),_,_=>rfl
 | (_ :: _),[],_,h,_=>(by cases h)
 | _ :: _,_ :: _,[],_,g=>by cases g
 | x :: a,y :: b,z :: c,h,g=>by
  have h':(if x=y then lx a b else decide (x<y))=true:=h
  have g':(if y=z then lx b c else decide (y<z))=true:=g
  show (if x=z then lx a c else decide (x<z))=true
  by_cases e:x=y
  · rw[if_pos e]at h'
    by_cases f:y=z
    · rw[if_pos f]at g';rw[if_pos (e.trans f)];exact aG8 h' g'
    · rw[if_neg f]at g';rw[if_neg (by omega)];have:=of_decide_eq_true g';exact decide_eq_true (by omega)
  · rw[if_neg e]at h'
    have u:=of_decide_eq_true h';by_cases f:y=z
    · rw[if_neg (by omega)];exact decide_eq_true (by omega)
    · rw[if_neg f]at g';have v:=of_decide_eq_true g';rw[if_neg (by omega)];exact decide_eq_true (by omega)
def px (a b:List Int×Int):Bool:=if a.1=b.1 then decide (a.2<b.2) else lx a.1 b.1
theorem aOq {a b:List Int×Int}(h:px a b=true):px b a=false:=by
 unfold px at h ⊢;by_cases e:a.1=b.1
 · rw[if_pos e]at h;rw[if_pos e.symm];have:=of_decide_eq_true h;exact decide_eq_false (by omega)
 · rw[if_neg e]at h;rw[if_neg (Ne.symm e)];exact aIj h
theorem aQk {a b:List Int×Int}(h:px a b=false)(g:px b a=false):a=b:=by
 unfold px at h g;by_cases e:a.1=b.1
 · rw[if_pos e]at h;rw[if_pos e.symm]at g
   have u:=of_decide_eq_false h;have v:=of_decide_eq_false g;exact Prod.ext e (by omega)
 · rw[if_neg e]at h;rw[if_neg (Ne.symm e)]at g;exact absurd (aIr h g) e
theorem aPy {a b c:List Int×Int}(h:px a b=true)(g:px b c=true):px a c=true:=by
 unfold px at h g ⊢;by_cases e:a.1=b.1
 · rw[if_pos e]at h
   by_cases f:b.1=c.1
   · rw[if_pos f]at g;rw[if_pos (e.trans f)]
     have u:=of_decide_eq_true h;have v:=of_decide_eq_true g;exact(decide_eq_true (by omega))
   · rw[if_neg f]at g;rw[if_neg (by rw[e];exact f),e];exact g
 · rw[if_neg e]at h
   by_cases f:b.1=c.1
   · rw[if_neg (by rw[←f];exact e),←f];exact h
   · rw[if_neg f]at g
     have t:=aG8 h g;rw[if_neg (fun z=>by rw[z,aH3]at t;cases t)];exact t
section
variable {prog:Program}{w:World}{A:Around}{E:Value->Shared->Prop}{s:Shared}
def aC4 (h:Heap)(vs:List Value)(ks:List (List Int)):Prop:=vs.length=ks.length/\∀ (i:Nat) (k:List Int),ks[i]?=some k->∃ a its,vs[i]?=some (.ref a)/\IsTup h a its/\IntsAre its.toList k
theorem aC4.at_ {h:Heap}{vs:List Value}{ks:List (List Int)}(t:aC4 h vs ks){i:Nat}(hi:i<vs.length):∃ a its,vs.getD i Value.none=.ref a/\IsTup h a its/\IntsAre its.toList (ks.getD i []):=by
 have hk:i<ks.length:=by rw[←t.1];exact hi
 obtain⟨a,its,h1,h2,h3⟩:=t.2 i ks[i] (Ac hk);refine⟨a,its,by rw[Aa,h1];rfl,h2,?_⟩
 rw[Aa,Ac hk];exact h3
end
end Srt
namespace Srt
open PySem PySem.W PyProof.Rows
section
variable {prog:Program}{w:World}{A:Around}{E:Value->Shared->Prop}{s:Shared}{lt:Nat->Nat->Bool}
def aAb (h:Heap)(vs:List Value)(ks:List (List Int×Int)):Prop:=vs.length=ks.length/\∀ (i:Nat) (k:List Int×Int),ks[i]?=some k->∃ p a its tz,vs[i]?=some (.ref p)/\IsTup h p #[.ref a,.int k.2 tz]/\IsTup h a its/\IntsAre its.toList k.1
theorem aAb.at_ {h:Heap}{vs:List Value}{ks:List (List Int×Int)}(t:aAb h vs ks){i:Nat}(hi:i<vs.length):∃ p a its tz,vs.getD i Value.none=.ref p/\IsTup h p #[.ref a,.int (ks.getD i ([],0)).2 tz]/\IsTup h a its/\IntsAre its.toList (ks.getD i ([],0)).1:=by
 have hk:i<ks.length:=by rw[←t.1];exact hi
 obtain⟨p,a,its,tz,h1,h2,h3,h4⟩:=t.2 i ks[i] (Ac hk);refine⟨p,a,its,tz,by rw[Aa,h1];rfl,?_⟩
 rw[Aa,Ac hk];exact⟨h2,h3,h4⟩
end
end Srt
namespace L2
open PySem PySem.Spec PyProof.Rows
def aBh (sc:Scope)(XN:List Str)(scope:Scope)(N:List Str)(k:Nat)(fs:List Nat):Bool :=
 scope.kind==.function&&decide (scope.names.map (·.1)).Nodup&&scope.names.all (fun y=>y.2 != .free||sc.names.contains (y.1,.cell)||sc.names.contains (y.1,.free))&&N.length==k+fs.length &&
  fs.zipIdx.all fun p=>match N[k+p.2]?,XN[p.1]? with
   | some x,some y=>decide (x=y)&&scope.names.lookup x==some .free&&(sc.names.lookup x==some .cell||sc.names.lookup x==some .free)
   | _,_=>false
theorem xS {scope:Scope}{env:Env}{x:Str}:scope.names.lookup x=some .cell->(relabel scope env).names.lookup x=some .cell:=by
 unfold relabel;generalize scope.names=names
 induction names with
 | nil=>simp
 | cons y r ih =>
  obtain⟨n,kd⟩:=y;simp only[Aj];intro h;cases hx:x==n with
  | true =>
   simp only[hx,Br]at h;cases h;simp[Br,hx]
  | false =>
   simp only[hx,Br]at h;have:=ih h
   split<;>simp only[Br,hx]<;>exact this
theorem lI {X:Cx}{sc scope:Scope}{k0 k:Nat}{N0 N:List Str}{fs0 fs:List Nat}{fp:List Addr}{s:Shared}{H:Hp}(C0:CompOk X sc N0 k0 fs0)(h:aBh sc N0 scope N k fs=true):CompOk (cT X sc N0 fp s H) scope N k fs:=by
 unfold aBh at h;simp only[Da]at h;obtain⟨⟨⟨⟨h1,h2⟩,h3⟩,h4⟩,h5⟩:=h;refine⟨by simpa using h1,of_decide_eq_true h2,fun y hy hf=>?_,by simpa using h4,fun j i e=>?_⟩
 · show y.1∈(cellsFrom (s.heap.objs.size+1) sc.names (iL X.env.cells sc.names [])).map (·.1)
   rw[cC,Dm,An];have:=Gi.mp h3 y hy
   rw[hf]at this;simp only[bne_self_eq_false,Bool.false_or,Jq,List.contains_iff_mem]at this;rcases this with q | q
   · exact .inl (iF _ _ _ (Ai.mpr ⟨_,Ew.mpr ⟨q,rfl⟩,rfl⟩))
   · obtain⟨c,e⟩:=bO (C0.free _ q rfl)
     exact .inr (Ai.mpr ⟨_,oE sc.names [] (.inr ⟨q,e⟩),rfl⟩)
 · have hm:(i,j)∈fs.zipIdx:=Im.mpr e
   have:=Gi.mp h5 (i,j) hm
   dsimp only at this
   split at this
   · rename_i x y e1 e2
     simp only[Ed,Jq,beq_iff_eq,decide_eq_true_eq]at this;obtain⟨⟨q1,q2⟩,q3⟩:=this;subst q1;refine⟨x,e1,e2,q2,?_⟩
     exact q3.elim (fun q=>.inl (xS q)) nW
   · cases this
end L2
namespace Mir
open PySem L2
variable {X:Cx}{P:XP}{a b c e:Expr}{es:List Expr}{f g:FE}{fs:FEs}{pos p:Pos}
theorem aP.str {H0 H H':Hp}{K:PySem.W.Frag}{B:Addr->Prop}{v:V}{r:Res}{i:Str}(g:aP K H0 H H' B v r)(e:r.d=.str i):v=.str i:=by
 have:=g.shr_of (by rw[e];rfl)
 rw[e]at this;exact this
end Mir
namespace Mir
open PySem L2
variable {X:Cx}{P:XP}{a b c e:Expr}{es:List Expr}{f g:FE}{fs:FEs}{pos p:Pos}
theorem aPg {x:Str}{i:Int}(hg:Gl X x)(hm:∃ t,X.mg x=some (.int i t))(hd:(x==("__debug__":Str))=false:=by decide):PE X (.Name x pos) (tE X.K P (cE (.int i))) :=
 let ⟨t,hm⟩:=hm
 m_c (aKi (v:=.int i) hg hm ⟨t,rfl⟩ hd) fun _=>rfl
def aJr (a:FE):FT:=fun ρ=>do
 let x ← a ρ
 let ds ← asS x.d
 .ok (!ds.isEmpty)
theorem aN.empty {K:PySem.W.Frag}{G:Hp}{ds:List D}{vs:List V}(r:aN K G ds vs):vs.isEmpty=ds.isEmpty:=by
 have:=r.length
 cases ds<;>cases vs<;>simp at this ⊢
theorem aQr {e:Expr}(h:PE X e (tE X.K P f))(he:∀ whole,isTrue e X.env whole=(do let v ← whole;standAt e.pos;holding [v] (truthy v)):=by intro _;rfl):PT X e (tT X.K P (aJr f)):=by
 refine PT.imp (aKf h he) ?_
 rintro σ H Q ⟨H0,B,ρ,d,h⟩
 unfold aJr at h;cases e1:f ρ with
 | stk=>simp[e1]at h
 | exc x=>simp[e1]at h;exact dR d e1 h
 | ok r =>
  cases e2:asS r.d with
  | stk=>simp[e1,e2]at h
  | exc x=>exact(oJ e2).elim
  | ok ds =>
   simp only[e1,e2,R.ok_bind]at h;refine fO d e1 fun v H' s d' g'=>?_
   obtain⟨a,xs,h1,h2,h3⟩:=g'.seq e2;refine⟨!ds.isEmpty,?_,h H' s⟩
   rw[h1];rcases h2 with h2 | h2
   · exact .inl ⟨xs,.inl h2,by rw[h3.empty]⟩
   · exact .inr (.inl ⟨xs,SqT.of h2,by rw[h3.empty]⟩)
def inE (neg:Bool)(a b:FE):FE:=fun ρ=>do
 let x ← a ρ
 let y ← b ρ
 let i ← asI x.d
 let ds ← asS y.d
 let l ← fL ds
 .ok (sc (.bl (if neg then !l.any (·==i) else l.any (·==i))))
theorem aGv (i:Int)(l:List Int):inV (.int i) (l.map V.int)=l.any (·==i):=by
 unfold inV;rw[List.any_map];rfl
theorem aUj {neg:Bool}(σ:St)(H:Hp)(Q:VK)(h:tE X.K P (inE neg f g) σ H Q):tOp (rIn X.K neg) (tE X.K P f) (tE X.K P g) σ H Q:=by
 refine t2 (q:=fun x y H2=>rIn X.K neg x y H2 Q) h ?_
 intro H0 B ρ v w H' r r' d g1 g2 s h;cases e1:asI r.d with
 | stk=>simp[e1]at h
 | exc x=>exact(cA e1).elim
 | ok i =>
  cases e2:asS r'.d with
  | stk=>simp[e1,e2]at h
  | exc x=>exact(oJ e2).elim
  | ok ds =>
   cases e3:fL ds with
   | stk=>simp[e1,e2,e3]at h
   | exc x=>exact(lC e3).elim
   | ok l =>
    simp only[e1,e2,e3,R.ok_bind]at h;obtain⟨a,xs,h1,h2,h3⟩:=g2.seq e2;have hx:=aN.ints e3 h3;refine⟨a,xs,h1,h2.imp .inl SqT.of,by rw[g1.int (cQ e1)];rfl,by rw[hx];simp[nZ],?_⟩
    rw[g1.int (cQ e1),hx,aGv];exact h _ H' (aK.refl _) (aP.sc (show Rep _ _ (.bl _) _ from rfl))
theorem aQt (ha:PE X a (tE X.K P f))(hb:PE X b (tE X.K P g))(hm:behindInMarks .NotIn b=false:=by rfl):PT X (.Compare a [.NotIn] [b] pos) (tT X.K P (bT (inE true f g))):=sF wS ha hb hm aUj
end Mir
namespace Mir
open PySem L2
variable {X:Cx}{P:XP}{a b c e:Expr}{es:List Expr}{f g:FE}{fs:FEs}{pos p:Pos}
variable {st:Stmt}{rest:List Stmt}{F G:FS}
mutual
theorem Rep.stb {K:PySem.W.Frag}{G G':Hp}(s:∀ b o,G b=some o->stab o=true->G' b=some o):∀ {d:D} {v:V},d.imm=true->Rep K G d v->Rep K G' d v
 | .non,_,_,h=>h
 | .bl _,_,_,h=>h
 | .int _,_,_,h=>h
 | .str _,_,_,h=>h
 | .lst _,_,i,_=>by cases i
 | .tup ds,_,i,⟨a,xs,h1,h2,h3⟩=>⟨a,xs,h1,s _ _ h2 rfl,aN.stb s (by simpa[D.imm] using i) h3⟩
 | .obj _ _,_,i,_=>by cases i
 | .any,_,i,_=>by cases i
 | .dct _ _,_,i,_=>by cases i
 | .exc _ _,_,_,h=>aCg.map h fun _ _ q=>s _ _ q rfl
theorem aN.stb {K:PySem.W.Frag}{G G':Hp}(s:∀ b o,G b=some o->stab o=true->G' b=some o):∀ {ds:List D} {vs:List V},D.imms ds=true->aN K G ds vs->aN K G' ds vs
 | [],_,_,h=>h
 | d :: r,_,i,⟨x,xr,h1,h2,h3⟩=>by
  have i':d.imm=true/\D.imms r=true:=by simpa[D.imms] using i
  exact⟨x,xr,h1,Rep.stb s i'.1 h2,aN.stb s i'.2 h3⟩
end
end Mir
namespace Mir
open PySem L2
variable {X:Cx}{P:XP}{a b c e:Expr}{es:List Expr}{f g:FE}{fs:FEs}{pos p:Pos}
def aI0 (H0 H H1:Hp):Prop:=∀ b,H1 b=H b\/∃ o xs,H b=some (.frz o (.lst xs))/\H1 b=some (.lst xs)/\H0 b=none
theorem aI0.ne {H0 H H1:Hp}(t:aI0 H0 H H1){b:Addr}{u:HO}(h:H b=some u)(n:∀ o xs,u≠.frz o (.lst xs)):H1 b=some u:=by
 rcases t b with e | ⟨o,ys,e1,e2,_⟩
 · exact e.trans h
 · rw[e1]at h;cases h;exact absurd rfl (n _ _)
theorem aI0.cut {H0 H H1:Hp}(t:aI0 H0 H H1)(B:Addr->Prop):aI0 H0 (Mir.cut H B) (Mir.cut H1 B):=fun b=>by
 unfold Mir.cut;by_cases hb:B b
 · left;simp[hb]
 · simpa[hb] using t b
end Mir
namespace L2
open PySem PySem.Spec PyProof.Rows
section
variable {κ:Type}[DecidableEq κ]
def aAq (kvs:List (κ×V))(k:κ):Option V:=(kvs.find? fun kv=>decide (kv.1=k)).map (·.2)
def aMi (kvs:List (κ×V))(k:κ)(v:V):List (κ×V) :=
 if (kvs.any fun kv=>decide (kv.1=k))=true then kvs.map (fun kv=>if kv.1=k then (kv.1,v) else kv) else kvs++[(k,v)]
theorem sO {p:κ×V}{r:List (κ×V)}{k:κ}(e:p.1=k):aAq (p :: r) k=some p.2:=by simp[aAq,Fx,e]
theorem rQ {p:κ×V}{r:List (κ×V)}{k:κ}(e:¬ p.1=k):aAq (p :: r) k=aAq r k:=by simp[aAq,Fx,e]
theorem zC (k:κ):∀ kvs:List (κ×V),(kvs.any fun kv=>decide (kv.1=k))=(aAq kvs k).isSome
 | []=>rfl
 | p :: r=>by
  rw[Gn];by_cases e:p.1=k
  · simp only[sO e,decide_eq_true e,Bool.true_or,Option.isSome_some]
  · rw[rQ e,decide_eq_false e,Bool.false_or];exact zC k r
theorem oY.isSome_eq {o:Option V}{u:Option Value}(r:oY o u):o.isSome=u.isSome:=by
 cases o with
 | none=>cases u with
  | none=>rfl
  | some _=>exact(show False from r).elim
 | some _=>cases u with
  | none=>exact(show False from r).elim
  | some _=>rfl
theorem oY.getD {o:Option V}{u:Option Value}{d:V}{d':Value}(r:oY o u)(rd:bN d d'):bN (o.getD d) (u.getD d'):=by
 cases o with
 | none=>cases u with
  | none=>exact rd
  | some _=>exact(show False from r).elim
 | some _=>cases u with
  | none=>exact(show False from r).elim
  | some _=>exact r
theorem KV.val {kvs:List (κ×V)}{vs:List (κ×Value)}(r:KV kvs vs)(k:κ):oY (aAq kvs k) (valueAt vs k):=by
 unfold KV at r;induction r with
 | nil=>exact True.intro
 | @cons p q ps qs h t ih =>
  obtain⟨h1,h2⟩:=h;by_cases e:p.1=k
  · have e':q.1=k:=h1.symm.trans e
    have b:valueAt (q :: qs) k=some q.2:=by simp[valueAt,Fx,e']
    rw[sO e,b];exact h2
  · have e':¬ q.1=k:=fun z=>e (h1.trans z)
    have b:valueAt (q :: qs) k=valueAt qs k:=by simp[valueAt,Fx,e']
    rw[rQ e,b];exact ih
theorem KV.any {kvs:List (κ×V)}{vs:List (κ×Value)}(r:KV kvs vs)(k:κ):(kvs.any fun kv=>decide (kv.1=k))=vs.any fun kv=>decide (kv.1=k):=by
 unfold KV at r;induction r with
 | nil=>rfl
 | cons h t ih=>rw[Gn,Gn,ih,h.1]
theorem KV.repl {kvs:List (κ×V)}{vs:List (κ×Value)}(r:KV kvs vs)(k:κ){y:V}{u:Value}(ry:bN y u) :
 KV (kvs.map fun kv=>if kv.1=k then (kv.1,y) else kv) (vs.map fun kv=>if kv.1=k then (kv.1,u) else kv):=by
 unfold KV at r ⊢;induction r with
 | nil=>exact .nil
 | @cons p q ps qs h t ih =>
  rw[Aj,Aj];refine .cons ?_ ih
  obtain⟨h1,h2⟩:=h;by_cases e:p.1=k
  · rw[if_pos e,if_pos (h1.symm.trans e)];exact⟨h1,ry⟩
  · rw[if_neg e,if_neg (fun z=>e (h1.trans z))];exact⟨h1,h2⟩
theorem KV.put {kvs:List (κ×V)}{vs:List (κ×Value)}(r:KV kvs vs)(k:κ){y:V}{u:Value}(ry:bN y u):KV (aMi kvs k y) (stored vs k u):=by
 unfold aMi stored;rw[r.any k];by_cases e:(vs.any fun kv=>decide (kv.1=k))=true
 · rw[if_pos e,if_pos e];exact r.repl k ry
 · rw[if_neg e,if_neg e];exact Paired.snoc r ⟨rfl,ry⟩
theorem KV.length {kvs:List (κ×V)}{vs:List (κ×Value)}(r:KV kvs vs):kvs.length=vs.length:=Paired.length r
end
abbrev KT (H:Hp):List (List Key×V)->List (List Key×Addr×Value)->Prop:=Paired fun p q=>p.1=q.1/\H q.2.1=some (.tup (p.1.map kV))/\bN p.2 q.2.2
theorem KT.val {H:Hp}{kvs:List (List Key×V)}{xs:List (List Key×Addr×Value)}(r:KT H kvs xs)(k:List Key):oY (aAq kvs k) ((atKey xs k).map (·.2)):=by
 induction r with
 | nil=>exact True.intro
 | @cons p q ps qs h t ih =>
  obtain⟨h1,_,h2⟩:=h;by_cases e:p.1=k
  · have e':q.1=k:=h1.symm.trans e
    have b:atKey (q :: qs) k=some q.2:=by simp[atKey,Fx,e']
    rw[sO e,b];exact h2
  · have e':¬ q.1=k:=fun z=>e (h1.trans z)
    have b:atKey (q :: qs) k=atKey qs k:=by simp[atKey,Fx,e']
    rw[rQ e,b];exact ih
theorem KT.repl {H:Hp}{kvs:List (List Key×V)}{xs:List (List Key×Addr×Value)}(r:KT H kvs xs)(k:List Key){y:V}{u:Value}(ry:bN y u) :
 KT H (kvs.map fun kv=>if kv.1=k then (kv.1,y) else kv) (xs.map (putAt k u)):=by
 induction r with
 | nil=>exact .nil
 | @cons p q ps qs h t ih =>
  rw[Aj,Aj];refine .cons ?_ ih
  obtain⟨h1,h2,h3⟩:=h;unfold putAt;by_cases e:p.1=k
  · rw[if_pos e,if_pos (h1.symm.trans e)];exact⟨h1,h2,ry⟩
  · rw[if_neg e,if_neg (fun z=>e (h1.trans z))];exact⟨h1,h2,h3⟩
theorem KT.put {H:Hp}{kvs:List (List Key×V)}{xs:List (List Key×Addr×Value)}(r:KT H kvs xs)(k:List Key){b:Addr}{y:V}{u:Value}(hb:H b=some (.tup (k.map kV)))(ry:bN y u) :
 KT H (aMi kvs k y) (storedH xs k b u):=by
 have e:(kvs.any fun kv=>decide (kv.1=k))=(atKey xs k).isSome:=by
  rw[zC,(r.val k).isSome_eq,Option.isSome_map]
 unfold aMi storedH;rw[e];by_cases q:(atKey xs k).isSome=true
 · rw[if_pos q,if_pos q];exact r.repl k ry
 · rw[if_neg q,if_neg q];exact Paired.snoc r ⟨rfl,hb,ry⟩
end L2
namespace Mir
open PySem L2
variable {X:Cx}{P:XP}{a b c e:Expr}{es:List Expr}{f g h':FE}{fs:FEs}{pos p:Pos}
def asK:D->R (List Int)
 | .tup ds=>fL ds
 | _=>.stk
theorem aPo (k:List Int):(k.map Sum.inl:List Key).map kV=k.map V.int:=by
 rw[Cn];rfl
theorem aP.key {H0 H H':Hp}{B:Addr->Prop}{v:V}{r:Res}{k:List Int}{K:PySem.W.Frag}(g:aP K H0 H H' B v r)(e:asK r.d=.ok k):∃ b,v=.ref b/\H' b=some (.tup ((k.map Sum.inl:List Key).map kV)):=by
 cases hd:r.d with
 | tup ds =>
  rw[hd]at e;obtain⟨b,xs,h1,h2,h3⟩:=g.tuple hd;have:=aN.ints e h3
  exact⟨b,h1,by rw[aPo,←this];exact h2⟩
 | _=>rw[hd]at e;simp[asK]at e
end Mir
namespace Mir
open PySem L2
variable {X:Cx}{P:XP}{a b c e:Expr}{es:List Expr}{f g k:FE}{fs:FEs}{pos p:Pos}
theorem qJ.len {ks:List (List Int)}{kvs:List (List Key×V)}(h:qJ ks kvs):kvs.length=ks.length:=by
 simpa using congrArg List.length h
end Mir
namespace Srt
open PySem PySem.W PyProof.Rows
def ins {α:Type}(r:α->α->Bool)(x:α):List α->List α
 | []=>[x]
 | y :: l=>if r y x then y :: ins r x l else x :: y :: l
def srt {α:Type}(r:α->α->Bool):List α->List α
 | []=>[]
 | x :: l=>ins r x (srt r l)
section
variable {α:Type}{r:α->α->Bool}
theorem tF (x:α):∀ l:List α,(ins r x l).Perm (x :: l)
 | []=>Fo _
 | y :: l=>by
  unfold ins;split
  · exact((tF x l).cons y).trans (List.Perm.swap x y l)
  · exact Fo _
theorem hG:∀ l:List α,(srt r l).Perm l
 | []=>Fo _
 | x :: l=>(tF x (srt r l)).trans ((hG l).cons x)
structure Tot (r:α->α->Bool):Prop where
 asy:∀ {a b},r a b=true->r b a=false
 tri:∀ {a b},r a b=false->r b a=false->a=b
 trs:∀ {a b c},r a b=true->r b c=true->r a c=true
theorem Tot.le (t:Tot r){a b c:α}(h:r b a=false)(g:r c b=false):r c a=false:=by
 cases q:r c a with
 | false=>rfl
 | true =>
  cases ab:r a b with
  | true=>have:=t.trs q ab;rw[g]at this;cases this
  | false=>rw[t.tri ab h]at q;rw[g]at q;cases q
theorem aHf (t:Tot r)(x:α):∀ {l:List α},l.Pairwise (fun a b=>r b a=false)->(ins r x l).Pairwise fun a b=>r b a=false
 | [],_=>by simp[ins]
 | y :: l,h=>by
  have hc:=Fc.mp h;obtain⟨h1,h2⟩:=hc;unfold ins;split
  · rename_i z
    refine Fc.mpr ⟨fun b hb=>?_,aHf t x h2⟩
    rcases Ag.mp ((tF x l).mem_iff.mp hb) with e | e
    · rw[e];exact t.asy z
    · exact h1 b e
  · rename_i z
    have z':r y x=false:=by simpa using z
    refine Fc.mpr ⟨fun b hb=>?_,h⟩
    rcases Ag.mp hb with e | e
    · rw[e];exact z'
    · exact t.le z' (h1 b e)
theorem aBt (t:Tot r):∀ l:List α,(srt r l).Pairwise fun a b=>r b a=false
 | []=>Ej
 | x :: l=>aHf t x (aBt t l)
theorem xL (t:Tot r){l k:List α}(p:k.Perm l)(u:k.Pairwise fun a b=>r b a=false):k=srt r l :=
 List.Perm.eq_of_pairwise (le:=fun a b=>r b a=false) (fun a b _ _ h g=>t.tri g h) u (aBt t l) (p.trans (hG l).symm)
theorem aLg (l:List α):(srt r l).length=l.length:=(hG l).length_eq
end
def ix (a b:Int):Bool:=decide (a<b)
theorem wU:Tot ix:=⟨fun h=>decide_eq_false (by have:=of_decide_eq_true h;omega),fun h g=>by have:=of_decide_eq_false h;have:=of_decide_eq_false g;omega,fun h g=>decide_eq_true (by have:=of_decide_eq_true h;have:=of_decide_eq_true g;omega)⟩
theorem aPp:Tot px:=⟨aOq,aQk,aPy⟩
end Srt
namespace Mir
open PySem L2
def aR3:D->Bool
 | .lst es=>D.imms es
 | _=>false
theorem aLq {d:D}(h:aR3 d=true):∃ es,d=.lst es/\D.imms es=true:=by
 cases d<;>first | exact⟨_,rfl,h⟩ | cases h
theorem aN.lil {K:PySem.W.Frag}{G G':Hp}(s:∀ b o,G b=some o->stab o=true->G' b=some o):∀ {ds:List D} {vs:List V},ds.all aR3=true->(∀ b xs,V.ref b∈vs->Rd G b (.lst xs)->Rd G' b (.lst xs))->aN K G ds vs->aN K G' ds vs
 | [],_,_,_,h=>h
 | d :: r,_,i,l,⟨x,xr,h1,h2,h3⟩=>by
  rw[List.all_cons,Ed]at i;obtain⟨es,rfl,ie⟩:=aLq i.1;obtain⟨a,xs,e1,e2,e3⟩:=h2;subst h1;refine⟨x,xr,rfl,⟨a,xs,e1,l a xs (by rw[e1];exact Ad) e2,aN.stb s ie e3⟩,aN.lil s i.2 (fun b ys q=>l b ys (Ae _ q)) h3⟩
theorem Rd.fn {G:Hp}{a:Addr}{xs ys:List V}(h:Rd G a (.lst xs))(k:Rd G a (.lst ys)):xs=ys:=by
 rcases h with h | ⟨o,h⟩<;>rcases k with k | ⟨o',k⟩<;>rw[h]at k<;>cases k<;>rfl
theorem Rd.raw {G:Hp}{a:Addr}{xs:List V}(h:Rd G a (.lst xs)):∃ o,G a=some o/\stab o=false:=by
 rcases h with h | ⟨o,h⟩
 · exact⟨_,h,rfl⟩
 · exact⟨_,h,rfl⟩
end Mir
namespace Mir
open PySem L2
variable {X:Cx}{P:XP}{a b c e:Expr}{es:List Expr}{f g:FE}{fs:FEs}{pos p:Pos}
theorem aHc:∀ c:Nat,(cL c).Nodup
 | 0=>by decide +kernel
 | _+1=>show (cL 1).Nodup by decide +kernel
theorem aC9:∀ {ns:List Str} {fs:List (Str×V)} {i:Nat} {n:Str} {v:V},fs.map (·.1)=ns->ns.Nodup->ns[i]?=some n->(fs.map (·.2))[i]?=some v->fs.lookup n=some v
 | _,[],_,_,_,_,_,_,h=>by simp at h
 | [],_ :: _,_,_,_,h,_,_,_=>by simp at h
 | m :: ns,(k,u) :: fs,0,n,v,h1,nd,h2,h3=>by
  simp only[Aj,List.cons.injEq]at h1;simp only[List.getElem?_cons_zero,Aj,Dh.injEq]at h2 h3;obtain⟨rfl,h1⟩:=h1;subst h2 h3;simp[Fg]
 | m :: ns,(k,u) :: fs,i+1,n,v,h1,nd,h2,h3=>by
  simp only[Aj,List.cons.injEq]at h1;simp only[Ha,Aj]at h2 h3;obtain⟨rfl,h1⟩:=h1;have hn:n≠k:=fun z=>(Dy.mp nd).1 (z▸Dj h2);have hb:(n==k)=false:=by simpa using hn
  rw[Br,hb];exact aC9 h1 (Dy.mp nd).2 h2 h3
structure OC (K:PySem.W.Frag)(c:Nat):Prop where
 cl:Cls K (clO K c)
 na:∀ n∈cL c,kW K (clO K c) n
def eH (c i:Nat)(a:FE):FE:=fun ρ=>do
 let x ← a ρ
 match x.d with
 | .obj k ds=>if k=c then (match ds[i]? with
  | some d=>.ok ⟨.shr,x.fr||d.imm,d⟩
  | none=>.stk) else .stk
 | _=>.stk
theorem nQ {n:Str}{c i:Nat}(O:OC X.K c)(ha:PE X a (tE X.K P f))(hn:(cL c)[i]?=some n:=by rfl)(hb:attributeBase a n X.env (eval a X.env)=eval a X.env:=by rfl):PE X (.Attribute a n pos) (tE X.K P (eH c i f)):=by
 refine PE.imp (aP0 ha hb) ?_
 intro σ H Q h;refine t1 (q:=fun x H1=>∃ a C dx fs v,x=.ref a/\H1 a=some (.ins C dx fs)/\Cls X.K C/\kW X.K C n/\fs.lookup n=some v/\Q v H1) h ?_
 intro H0 B ρ v H' r d g s h;cases k:r.d with
 | obj c' ds =>
  simp only[k]at h;by_cases hc:c'=c
  · subst hc
    rw[if_pos rfl]at h;cases e:ds[i]? with
    | none=>simp[e]at h
    | some d1 =>
     simp only[e]at h;have:=g.shr_of (by rw[k];rfl)
     rw[k]at this;obtain⟨a,dx,fs,rfl,q,nm,re⟩:=this;obtain⟨v1,e1,r1⟩:=re.get e;exact⟨a,_,dx,fs,v1,rfl,(aO.mp q).2,O.cl,O.na n (Dj hn),aC9 nm (aHc _) hn e1,h v1 H' (aK.refl _) (Rep.fr d.sam r1)⟩
  · rw[if_neg hc]at h;exact h.elim
 | _=>simp[k]at h
def nI (c:Nat)(fs:FEs):FE:=fun ρ=>do
 let rs ← evs fs ρ
 let y ← gives rs
 if y.2.length=(cL c).length then .ok ⟨.shr,y.1,.obj c y.2⟩ else .stk
def spI (K:PySem.W.Frag)(c:Nat):Sp:=fun vs H Q _=>∃ x dx us,vs=.ref x :: us/\us.length=(cL c).length/\H x=some (.ins (clO K c) dx [])/\Q .non (upd H x (.ins (clO K c) dx ((cL c).zip us)))
def vO (Pg:Program)(w:World)(K:PySem.W.Frag)(mg:Str->Option Value)(base:Heap)(k c:Nat):Prop :=
 ∃ (f:Addr) (fd:FuncData),Mk K (clO K c) f/\FnOk Pg w K mg base (CXM Pg w) k f fd ("self" :: cL c) (spI K c)/\lV K fd ("self" :: cL c) []/\mg (aDm c)=some (.ref (clO K c))
theorem aQo {Pg:Program}{w:World}:aCh (CXM Pg w) X E0:=fun _ _ _ _ _ _ _ ⟨_,_,_,_,_,_,_,z⟩=>z.elim
theorem aGj {c k:Nat}{x:Str}(m:vO X.prog X.w X.K X.mg X.base k c)(hr:Room (k+1) X.A)(hg:Gl X x)(ha:PA X (e :: es) (tAs X.K P fs))(hx:aDm c=x:=by rfl)
 (hdb:(x==("__debug__":Str))=false:=by decide) (he:starEach (e :: es) X.env=(false,eval e X.env) :: starEach es X.env:=by rfl) (hpl:(backTo pos (starEach es X.env)).any (·.1)=false:=by rfl) :
 PE X (.Call (.Name x p) (e :: es) [] pos) (tE X.K P (nI c fs)):=by
 obtain⟨fi,fd,M,F,b,hm⟩:=m;subst hx;refine PE.imp (aLe (E:=E0) M F hr hg hm b .nil aQo ha hdb he hpl) ?_
 intro σ H Q h;refine tA1 h ?_
 intro H0 B ρ vs H' rs d0 d gs s h;cases e:gives rs with
 | stk=>simp[e]at h
 | exc x=>exact(jB e).elim
 | ok y =>
  simp only[e,R.ok_bind]at h;have r:=gs.gives d0 e;by_cases hz:y.2.length=(cL c).length
  · rw[if_pos hz]at h
    intro x dx hx hdx ne;have hl:vs.length=(cL c).length:=by rw[←r.length];exact hz
    refine⟨x,dx,vs,by rw[Cv],hl,cK,rfl,?_⟩
    rw[qC]
    have s2:aK H' (upd (upd H' dx (.own x)) x (.ins (clO X.K c) dx ((cL c).zip vs))):=fun b o q=>by
     rw[bI (bL q hx),bI (bL q hdx)];exact q
    refine h _ _ s2 ?_
    refine⟨x,dx,_,rfl,aO.mpr ⟨fun z=>?_,cK⟩,List.map_fst_zip (by omega),?_⟩
    · rcases z with z | ⟨_,o,z,_⟩
      · obtain⟨o,q,_⟩:=d.bnd x z
        rw[hx]at q;cases q
      · have:=d.sam x o z
        rw[hx]at this;cases this
    · rw[List.map_snd_zip (by omega)]
      exact aN.same (aW (fun b o q _=>s2 b o q) fun b z=>.inl z) r
  · rw[if_neg hz]at h;exact h.elim
section
variable {Pg:Program}{w:World}{K:PySem.W.Frag}{mg:Str->Option Value}{base:Heap}
theorem aRq {qual:Str}{st:Stmt}{f:Addr}{fd:FuncData}(F:Fun K "__init__" qual st f fd)(S:FnScope ("self" :: cL 0) ("self" :: cL 0) (aG st))(O:OC K 0)
 (hb:∀ (cdv:Value) (A:Around) (outer:List PySem.Env) (s:Shared) (H:Hp) (E:XK),PSs (lO (CXM Pg w) Pg w K mg base ("self" :: cL 0) qual (aG st) f cdv A outer s H E) (cU st) (aG1 (aFz K (mJ 0) (mJ 1) "many") (aFz K (mJ 0) (mJ 2) "rows"))) :
 FnOk Pg w K mg base (CXM Pg w) 1 f fd ("self" :: cL 0) (spI K 0):=by
 obtain⟨oc,od,kV,doc,pm,an,cdv,ct,osl,rfl,lk,hcd⟩:=F.ex;refine yT lk hcd S (fun vs H Q E ⟨x,dx,us,e,l,_⟩=>by rw[e];simp[l]) fun A outer s H vs Q E hr ⟨x,dx,us,e,l,hx,q⟩=>⟨_,hb cdv A outer s H E,?_⟩
 match us,l with
 | [u1,u2],_ =>
  subst e;refine⟨u1,rfl,.ref x,rfl,x,_,dx,[],rfl,hx,O.cl,O.na _ (by decide +kernel),by decide,u2,rfl,.ref x,rfl,x,_,dx,_,rfl,cK,O.cl,O.na _ (by decide +kernel),by show (1:Nat)<1000;decide,?_⟩
  rw[qC];exact q
theorem aS5 {qual:Str}{st:Stmt}{f:Addr}{fd:FuncData}(F:Fun K "__init__" qual st f fd)(S:FnScope ("self" :: cL 1) ("self" :: cL 1) (aG st))(O:OC K 1)
 (hb:∀ (cdv:Value) (A:Around) (outer:List PySem.Env) (s:Shared) (H:Hp) (E:XK),PSs (lO (CXM Pg w) Pg w K mg base ("self" :: cL 1) qual (aG st) f cdv A outer s H E) (cU st) (aG1 (aFz K (mJ 0) (mJ 1) "bottom") (aG1 (aFz K (mJ 0) (mJ 2) "heads") (aFz K (mJ 0) (mJ 3) "lines")))) :
 FnOk Pg w K mg base (CXM Pg w) 1 f fd ("self" :: cL 1) (spI K 1):=by
 obtain⟨oc,od,kV,doc,pm,an,cdv,ct,osl,rfl,lk,hcd⟩:=F.ex;refine yT lk hcd S (fun vs H Q E ⟨x,dx,us,e,l,_⟩=>by rw[e];simp[l]) fun A outer s H vs Q E hr ⟨x,dx,us,e,l,hx,q⟩=>⟨_,hb cdv A outer s H E,?_⟩
 match us,l with
 | [u1,u2,u3],_ =>
  subst e
  refine⟨u1,rfl,.ref x,rfl,x,_,dx,[],rfl,hx,O.cl,O.na _ (by decide +kernel),by decide,u2,rfl,.ref x,rfl,x,_,dx,_,rfl,cK,O.cl,O.na _ (by decide +kernel),by show (1:Nat)<1000;decide,
   u3,rfl,.ref x,rfl,x,_,dx,_,rfl,cK,O.cl,O.na _ (by decide +kernel),by show (2:Nat)<1000;decide,?_⟩
  rw[qC,qC];exact q
structure ORaw (K:PySem.W.Frag)(c:Nat)(C f:Addr):Prop where
 ns:Ca K mainGlobals (aDm c)=some (some (.ref C))
 pg:Hn K C Str.empty=true
 hd:Hf K C=true
 po:Iy K C=true
 sa:Bd K (.ref C) "__setattr__" = some (some (.builtin "object.__setattr__"))
 mkd:Jo K C=true
 ii:Bd K (.ref C) "__init__" = some (some (.ref f))
 fn:PySem.W.isFn K (.ref f)=true
 kc:Er K (.ref C)=true
theorem ORaw.cl {c:Nat}{C f:Addr}(o:ORaw K c C f):clO K c=C:=by unfold clO;rw[o.ns]
theorem ORaw.oc {c:Nat}{C f:Addr}(o:ORaw K c C f)(na:∀ n∈cL c,Bd K (.ref C) n=some none):OC K c :=
 ⟨by rw[o.cl];exact⟨o.pg,o.hd,o.po,o.sa⟩,fun n hn=>by rw[o.cl];exact na n hn⟩
theorem ORaw.oc0 {C f:Addr}(o:ORaw K 0 C f)(h1:Bd K (.ref C) "many" = some none)(h2:Bd K (.ref C) "rows" = some none):OC K 0:=o.oc fun n hn=>by
 rcases Ag.mp hn with rfl | hn
 · exact h1
 · rw[Ap.mp hn];exact h2
theorem ORaw.oc1 {C f:Addr}(o:ORaw K 1 C f)(h1:Bd K (.ref C) "bottom" = some none)(h2:Bd K (.ref C) "heads" = some none)(h3:Bd K (.ref C) "lines" = some none):OC K 1:=o.oc fun n hn=>by
 rcases Ag.mp hn with rfl | hn
 · exact h1
 · rcases Ag.mp hn with rfl | hn
   · exact h2
   · rw[Ap.mp hn];exact h3
theorem ORaw.mkr {c:Nat}{C f:Addr}{fd:FuncData}{h:Heap}(o:ORaw K c C f)(X:K.In h)(G:h.Ns mainGlobals mg)(F:FnOk Pg w K mg base (CXM Pg w) 1 f fd ("self" :: cL c) (spI K c))(b:lV K fd ("self" :: cL c) []):vO Pg w K mg base 1 c :=
 ⟨f,fd,by rw[o.cl];exact⟨o.mkd,o.ii,o.fn,o.kc⟩,F,b,by rw[o.cl];exact Jf X G o.ns⟩
end
end Mir
namespace Mir
open PySem L2 PySem.Spec PyProof.Rows
variable {X:Cx}{P:XP}{a b c e:Expr}{es:List Expr}{f g:FE}{fs:FEs}{pos p:Pos}
def Itv (K:PySem.W.Frag)(a:Addr)(n:Nat):It :=
 ⟨fun i H=>∃ xs x,SqL K H a xs/\i<n/\xs[n-1-i]?=some x,fun i H x H'=>H'=H/\∀ xs,SqL K H a xs->xs[n-1-i]?=some x,fun i _=>n<=i⟩
theorem aI4 {Pg:Program}{w:World}{K:PySem.W.Frag}{tg:Expr}(a it:Addr)(n:Nat):Turn Pg w K tg (Itv K a n) [it] it (fun i h=>i<=n/\h.IsRevIter it a ((n:Int)-1-(i:Nat))) where
 mem:=by simp
 obj:=fun i h st b hb=>by
  obtain⟨o,q1,_,q2⟩:=st.2;exact⟨o,by rw[Ap.mp hb];exact q1,fun v z=>by rw[q2]at z;cases z⟩
 keep:=fun i h h' st k=>⟨st.1,st.2.at fun o q=>k it Ad o q⟩
 item:=by
  intro X e1 e2 e3 hc i pins s σ H E I hf st hg;subst e1 e2 e3;obtain⟨xs,x,hq,hi,hx⟩:=hg;obtain⟨its,rv,pl,_⟩:=I.list hq;obtain⟨u,hu,ru⟩:=rv.get hx;obtain⟨f0,f1,f2,f3,f4,f5⟩:=hf it Ad;have en:(n:Int)-1-(i:Nat)=((n-1-i:Nat):Int):=by omega
  refine wpAny_pyNext_rev_item (en▸st.2) pl.isList (x:=u) (by simpa using hu) fun h' st' sb=>?_
  have st2:h'.IsRevIter it a ((n:Int)-1-((i+1:Nat):Int)):=by
   have:((n-1-i:Nat):Int)-1=(n:Int)-1-((i+1:Nat):Int):=by omega
   rw[←this];exact st'
  obtain⟨o,q1,q2,q3⟩:=id st2;refine⟨u,rfl,aC1 (s:={ s with heap:=h' }) q1 q2 q3 (by decide) ⟨x,H,?_,ru,⟨rfl,fun ys hy=>?_⟩,⟨hi,st2⟩,fun b hb=>(hf b hb).1⟩⟩
  · exact I.turned (t':=s.toks) (fun b o hb q=>(sb.2 b hb).trans q) f0 f1 f3 f4 f5
  · rw[I.list_inj hy hq];exact hx
 done:=by
  intro X e1 e2 e3 hc i pins s σ H E I hf st hg;subst e1 e2 e3;obtain⟨f0,f1,f2,f3,f4,f5⟩:=hf it Ad;have hi:n<=i:=hg;have en:(n:Int)-1-(i:Nat)=-1:=by have:=st.1;omega
  exact wpAny_pyNext_rev_end (I.ok.hd hc) (en▸st.2) fun h' eb=>⟨rfl,I.turned (t':=s.toks) (fun b o hb q=>eb b o hb q) f0 f1 f3 f4 f5⟩
 self:=fun _ _ _ _ _ st h=>wpAny_pyIter_revIter st.2 h
def aCx (a:FE):FI:=fun ρ=>do
 let x ← a ρ
 let ds ← asL x.d
 .ok ⟨x.k != .own,x.fr,ds.reverse⟩
theorem aIl {K:PySem.W.Frag}{H0 H':Hp}{B:Addr->Prop}{a:Addr}{xs:List V}{ds:List D}{st fr:Bool}(hs:st=true->¬ B a)(h2:Rd H' a (.lst xs))(h3:aN K (aZ fr H0 H' B) ds xs):uC K H0 H' B (Itv K a ds.length) ⟨st,fr,ds.reverse⟩:=by
 refine⟨fun b=>b=a,fun h b z=>by rw[z];exact hs h,fun H2 B2 k1 k2 k3 k4 k5 i=>?_⟩
 have q:SqL K H2 a xs:=.inl (mW h2 fun o=>k1 a o rfl);refine⟨fun hi=>?_,fun d hd=>?_⟩
 · show ds.length<=i
   simpa using hi
 · have hi:i<ds.length:=by simpa using (Aw.mp hd).1
   rw[List.getElem?_reverse hi]at hd;obtain⟨v,hv,rv⟩:=h3.get hd;refine⟨⟨xs,v,q,hi,hv⟩,fun x H3 ⟨e,y⟩=>?_⟩
   subst e;have:=y xs q
   rw[hv]at this;cases this;exact⟨aK.refl _,Rep.same (aW k2 k3) rv⟩
theorem aG0:bootBuiltins "reversed" = some (.type "reversed"):=by decide +kernel
theorem aO6 {tg:Expr}(hg:Gl X "reversed")(hm:X.mg "reversed" = none)(ha:PE X a (tE X.K P f))(hs:starEach [a] X.env=[(false,eval a X.env)]:=by rfl):PI X tg (.Call (.Name "reversed" p) [a] [] pos) (tI X.K P (aCx f)):=by
 intro pins s σ H Rq I h
 have key:tAs X.K P [f] σ H fun vs H1=>∃ a xs,vs=[.ref a]/\SqL X.K H1 a xs/\Rq (Itv X.K a xs.length) H1:=by
  have e:aCx f=fun ρ=>evs [f] ρ >>= fun rs=>match rs with | [x]=>(asL x.d >>= fun ds=>.ok ⟨x.k != .own,x.fr,ds.reverse⟩) | _=>.stk:=by
   funext ρ
   unfold aCx evs;cases f ρ<;>rfl
  rw[e]at h;refine aHy h ?_
  intro H0 B ρ vs H' rs d0 d gs s h;match vs,rs,gs with
  | [],rs,gs=>have e:rs=[]:=gs;subst e;exact h.elim
  | [v],_,⟨r,rr,e1,g1,g2⟩ =>
   subst e1;rw[show rr=[] from g2]at h
   cases e2:asL r.d with
   | stk=>simp[e2]at h
   | exc x=>exact(eK e2).elim
   | ok ds =>
    simp only[e2,R.ok_bind]at h;obtain⟨a,xs,h1,h2,h3⟩:=g1.list (dQ e2);subst h1;refine⟨a,xs,rfl,.inl h2,?_⟩
    rw[←h3.length];exact h _ H' (aK.refl _) (aIl (fun hk=>g1.notB d0 (dQ e2) rfl hk) h2 h3)
  | v :: w :: _,_,⟨r,rr,e1,g1,r2,rr2,e2,g2⟩ =>
   subst e1;subst e2;exact h.elim
 refine Call_ (gO I hg hm aG0 (Bw (thn ((aA ha aQ hs) pos pins s σ H _ I key) fun us s1 ⟨vs,H1,I1,r1,q1⟩=>?_) hs rfl))
 obtain⟨a,xs,e,hq,q⟩:=q1;subst e;cases r1 with
 | cons r rr =>
  cases rr;cases r;obtain⟨its,rv,pl,_⟩:=I1.list hq;refine call_reversed_list pl.isList ?_
  have I2:Inv X pins σ H1 { s1 with heap:=s1.heap.push (revObj a ((its.toArray.size:Int)-1)) }:=I1.kept (t':=s1.toks) fun b o e=>As _ e
  have st:(s1.heap.push (revObj a ((its.toArray.size:Int)-1))).IsRevIter s1.heap.objs.size a ((its.toArray.size:Int)-1):=⟨_,Cm _ rfl,rfl,rfl⟩;refine wpAny_pyIter_revIter st ?_
  refine⟨s1.heap.objs.size,[s1.heap.objs.size],_,_,H1,rfl,I2,aI4 a _ xs.length,⟨De _,?_⟩,fun b hb=>?_,q⟩
  · have:((xs.length:Nat):Int)-1-((0:Nat):Int)=(its.toArray.size:Int)-1:=by
     have:=rv.length
     simp;omega
    rw[this];exact st
  · rw[Ap.mp hb]
    exact I1.fpOk (Ah _) (I1.hok.fresh (Ah _))
def Itd (lo:Int)(n:Nat):It:=⟨fun i _=>i<n,fun i H x H'=>H'=H/\x=.int (lo-i),fun i _=>n<=i⟩
theorem aFq {Pg:Program}{w:World}{K:PySem.W.Frag}{tg:Expr}(it:Addr)(lo:Int)(n:Nat):Turn Pg w K tg (Itd lo n) [it] it (fun i h=>IsRangeIter h it (lo-(i:Nat)) ((n:Int)-(i:Nat)) (-1)) where
 mem:=by simp
 obj:=fun i h st b hb=>by
  have e:=Ap.mp hb;subst e;refine⟨_,st,fun v z=>?_⟩
  have z':Data.fields _=Data.cell v:=z;cases z'
 keep:=fun i h h' st k=>k it Ad _ st
 item:=by
  intro X e1 e2 e3 hc i pins s σ H E I hf st hg;subst e1 e2 e3;obtain⟨f0,f1,f2,f3,f4,f5⟩:=hf it Ad;have hi:i<n:=hg;refine wpAny_pyNext_range_item st (by omega) fun h' st' sb=>?_
  have st2:IsRangeIter h' it (lo-((i+1:Nat):Int)) ((n:Int)-((i+1:Nat):Int)) (-1):=by
   have e1:lo-(i:Nat)+-1=lo-((i+1:Nat):Int):=by omega
   have e2:(n:Int)-(i:Nat)-1=(n:Int)-((i+1:Nat):Int):=by omega
   rw[←e1,←e2];exact st'
  refine⟨_,rfl,aC1 (s:={ s with heap:=h',toks:=s.toks+1 }) (n:="range_iterator") st2 rfl rfl (by decide) ⟨.int (lo-i),H,?_,⟨_,rfl⟩,⟨rfl,rfl⟩,st2,fun b hb=>(hf b hb).1⟩⟩
  exact I.turned (fun b o hb q=>(sb.2 b hb).trans q) f0 f1 f3 f4 f5
 done:=by
  intro X e1 e2 e3 hc i pins s σ H E I hf st hg;subst e1 e2 e3;obtain⟨f0,f1,f2,f3,f4,f5⟩:=hf it Ad;have hi:n<=i:=hg;exact wpAny_pyNext_range_end (I.ok.hd hc) st (by omega) fun h' eb=>⟨rfl,I.turned (t':=s.toks) (fun b o hb q=>eb b o hb q) f0 f1 f3 f4 f5⟩
 self:=fun _ _ _ _ _ st h=>wpAny_pyIter_rangeiter st h
def tV (lo:Int)(n:Nat):List D:=(Bf n).map fun (i:Nat)=>.int (lo-(i:Int))
def xW (a b c:FE):FI:=fun ρ=>do
 let x ← a ρ
 let y ← b ρ
 let z ← c ρ
 let i ← asI x.d
 let j ← asI y.d
 let k ← asI z.d
 if k=-1/\-(2^61)<=i/\i<2^61/\-(2^61)<=j/\j<2^61 then .ok ⟨true,true,tV i (i-j).toNat⟩ else .stk
theorem aHz {K:PySem.W.Frag}{H0 H':Hp}{B:Addr->Prop}{lo:Int}{n:Nat}:uC K H0 H' B (Itd lo n) ⟨true,true,tV lo n⟩:=by
 refine⟨fun _=>False,fun _ _ z=>z.elim,fun H2 B2 _ _ _ _ _ i=>⟨fun hi=>?_,fun d hd=>?_⟩⟩
 · show n<=i
   simpa[tV] using hi
 · unfold tV at hd
   have hi:i<n:=by simpa using (Aw.mp hd).1
   rw[Ax,Iq hi]at hd;cases hd;refine⟨hi,fun x H3 ⟨e1,e2⟩=>?_⟩
   subst e1;exact⟨aK.refl _,e2⟩
theorem kI (a b:Int):Builtin.Range.rangeSize a b (-1)=((a-b).toNat:Int):=by
 have:Builtin.Range.rangeSize a b (-1)=if a>b then (a-b-1)/1+1 else 0:=rfl
 rw[this,Int.ediv_one];split<;>omega
theorem aB6 {a b:Int}(h1:-(2^61)<=a)(h2:a<2^61)(h3:-(2^61)<=b)(h4:b<2^61):Builtin.Range.small a b (-1)=true:=by
 unfold Builtin.Range.small;rw[kI];simp only[Builtin.Range.rangeFitsLong,Ed,Jq,decide_eq_true_eq,beq_iff_eq];simp
 omega
theorem aOs {tg:Expr}{l:FE}(hg:Gl X "range")(hm:X.mg "range" = none)(ha:PE X a (tE X.K P f))(hb:PE X b (tE X.K P g))(hc:PE X c (tE X.K P l))(h1:starEach [a,b,c] X.env=(false,eval a X.env) :: starEach [b,c] X.env:=by rfl)
 (h2:starEach [b,c] X.env=(false,eval b X.env) :: starEach [c] X.env:=by rfl) (h3:starEach [c] X.env=(false,eval c X.env) :: starEach [] X.env:=by rfl) (h4:(backTo pos (starEach [b,c] X.env)).any (·.1)=false:=by rfl) :
 PI X tg (.Call (.Name "range" p) [a,b,c] [] pos) (tI X.K P (xW f g l)):=by
 intro pins s σ H Rq I h
 have key:tAs X.K P [f,g,l] σ H fun vs H1=>∃ i j:Int,vs=[.int i,.int j,.int (-1)]/\(-(2^61)<=i/\i<2^61/\-(2^61)<=j/\j<2^61)/\Rq (Itd i (i-j).toNat) H1:=by
  have e:xW f g l=fun ρ=>evs [f,g,l] ρ >>= fun rs=>match rs with
   | [x,y,z]=>(asI x.d >>= fun i=>asI y.d >>= fun j=>asI z.d >>= fun k=>if k=-1/\-(2^61)<=i/\i<2^61/\-(2^61)<=j/\j<2^61 then .ok ⟨true,true,tV i (i-j).toNat⟩ else .stk)
   | _=>.stk:=by
   funext ρ
   unfold xW evs evs evs;cases f ρ with
   | ok r =>
    cases g ρ with
    | ok r2=>cases l ρ<;>rfl
    | _=>rfl
   | _=>rfl
  rw[e]at h;refine aHy h ?_
  intro H0 B ρ vs H' rs d0 d gs s h;match vs,rs,gs with
  | [],rs,gs=>have e:rs=[]:=gs;subst e;exact h.elim
  | [v],_,⟨r,rr,e1,g1,g2⟩ =>
   subst e1;rw[show rr=[] from g2]at h
   exact h.elim
  | [v,w],_,⟨r,rr,e1,g1,r2,rr2,e2,g2,g3⟩ =>
   subst e1;subst e2;rw[show rr2=[] from g3]at h
   exact h.elim
  | [v,w,u],_,⟨r,rr,e1,g1,r2,rr2,e2,g2,r3,rr3,e3,g3,g4⟩ =>
   subst e1;subst e2;subst e3;rw[show rr3=[] from g4]at h
   cases q1:asI r.d with
   | stk=>simp[q1]at h
   | exc x=>exact(cA q1).elim
   | ok i =>
    cases q2:asI r2.d with
    | stk=>simp[q1,q2]at h
    | exc x=>exact(cA q2).elim
    | ok j =>
     cases q3:asI r3.d with
     | stk=>simp[q1,q2,q3]at h
     | exc x=>exact(cA q3).elim
     | ok k =>
      simp only[q1,q2,q3,R.ok_bind]at h;by_cases hz:k=-1/\-(2^61)<=i/\i<2^61/\-(2^61)<=j/\j<2^61
      · rw[if_pos hz]at h
        exact⟨i,j,by rw[g1.int (cQ q1),g2.int (cQ q2),g3.int (cQ q3),hz.1],hz.2,h _ H' (aK.refl _) aHz⟩
      · rw[if_neg hz]at h;exact h.elim
  | _ :: _ :: _ :: _ :: _,_,⟨r,rr,e1,g1,r2,rr2,e2,g2,r3,rr3,e3,g3,r4,rr4,e4,_⟩ =>
   subst e1;subst e2;subst e3;subst e4;exact h.elim
 refine Call_ (gO I hg hm boot_range (Bw (thn ((aA ha (aA hb (aA hc aQ h3) h2) h1) pos pins s σ H _ I key) fun us s1 ⟨vs,H1,I1,r1,q1⟩=>?_) h1 h4))
 obtain⟨i,j,e,⟨b1,b2,b3,b4⟩,q⟩:=q1;subst e;cases r1 with
 | cons x1 rr =>
  cases rr with
  | cons x2 rr =>
   cases rr with
   | cons x3 rr =>
    cases rr;obtain⟨t1,rfl⟩:=x1;obtain⟨t2,rfl⟩:=x2;obtain⟨t3,rfl⟩:=x3;refine call_range_3 (by decide) ?_ (.inl (PyProof.noPylong_small (by decide)))
    refine wpAny_pyIter_range (IsRange.new ..) (aB6 b1 b2 b3 b4) ?_
    have I2:Inv X pins σ H1 { s1 with heap:=s1.heap.push { cls:=.type "range",data:=.fields #[.int i t1,.int j t2,.int (-1) t3] },toks:=s1.toks }:=I1.kept fun b o e=>As _ e
    refine⟨_,[_],_,_,H1,rfl,I2.kept (t':=s1.toks) fun b o e=>As _ e,aFq _ i (i-j).toNat,?_,fun b hb=>?_,q⟩
    · have e1:i-((0:Nat):Int)=i:=by simp
      have e2:(((i-j).toNat:Nat):Int)-((0:Nat):Int)=Builtin.Range.rangeSize i j (-1):=by rw[kI];simp
      show IsRangeIter _ _ (i-((0:Nat):Int)) ((((i-j).toNat:Nat):Int)-((0:Nat):Int)) (-1)
      rw[e1,e2];exact Cm _ rfl
    · rw[Ap.mp hb]
      exact I2.fpOk (Ah _) (I2.hok.fresh (Ah _))
end Mir
namespace Mir
open PySem L2 PySem.Spec PyProof.Rows
variable {X:Cx}{P:XP}{a b c e:Expr}{es:List Expr}{f g:FE}{fs:FEs}{pos p:Pos}
def CF:Int->Int->Bool:=fun _ j=>decide (j≠0)&&decide (j.natAbs.log2<9000)
def aBo:=i2E CF (fun i j=>i.fdiv j)
def aRj:Int->Int->Prop:=fun _ j=>j≠0/\j.natAbs.log2<9000
theorem aJz:OpR X (binaryOp .FloorDiv) (rI aRj fun i j=>.int (i.fdiv j)):=opI fun i j _ _ _ _ _ hc q=>floordiv_int hc.1 q (.inl (PyProof.noPylong_of_log2 hc.2))
theorem aNg (ha:PE X a (tE X.K P f))(hb:PE X b (tE X.K P g)):PE X (.BinOp a .FloorDiv b pos) (tE X.K P (aBo f g)):=aCn aJz (fun i j h=>by
 unfold CF at h;simp at h;exact h) ha hb
end Mir
namespace Mir
open PySem L2 PyProof PyProof.Rows
variable {X:Cx}{P:XP}{a b c e:Expr}{es:List Expr}{f g:FE}{fs:FEs}{pos p:Pos}
def mxL:List Int->Int
 | []=>0
 | n :: ns=>ns.foldl max n
theorem rL:∀ (ns:List Int) (n:Int),n<=ns.foldl max n/\(∀ a∈ns,a<=ns.foldl max n)/\(ns.foldl max n=n\/ns.foldl max n∈ns)
 | [],n=>⟨Int.le_refl _,fun _ h=>(nomatch h),.inl rfl⟩
 | m :: ns,n=>by
  obtain⟨h1,h2,h3⟩:=rL ns (max n m);rw[Ea];refine⟨by omega,fun a ha=>?_,?_⟩
  · rcases Ag.mp ha with h | h
    · subst h;omega
    · exact h2 a h
  · rcases h3 with h | h
    · rw[h]
      rcases Int.le_total n m with q | q
      · right;rw[Int.max_eq_right q];exact Ad
      · left;exact Int.max_eq_left q
    · exact .inr (Ae _ h)
theorem aQp {ns:List Int}{m:Int}(h1:m∈ns)(h2:∀ a,a∈ns->a<=m):m=mxL ns:=by
 cases ns with
 | nil=>cases h1
 | cons n ns =>
  obtain⟨a1,a2,a3⟩:=rL ns n;show m=ns.foldl max n
  have le:m<=ns.foldl max n:=by
   rcases Ag.mp h1 with h | h
   · omega
   · exact a2 m h
  have ge:ns.foldl max n<=m:=by
   rcases a3 with h | h
   · rw[h];exact h2 n Ad
   · exact h2 _ (Ae _ h)
  omega
theorem aFs (hc:X.calm=true):kU X (.builtin "max") (fun xs H Q=>∃ (a:Addr) (ns:List Int),xs=[.ref a]/\SqL X.K H a (ns.map V.int)/\0<ns.length/\Q (.int (mxL ns)) H):=by
 intro pins s σ H xs us Q I r ⟨l,ns,e,hq,ne,q⟩;subst e;obtain⟨u,rfl,rx⟩:=vB r;cases rx;obtain⟨its,rv,p,_⟩:=I.list hq;have hi:=uR rv;obtain⟨nums,hx⟩:=hi.allInts.items
 have en:nums.toList.map (fun z=>z.1)=ns:=by
  rw[←nums_intItems,←hx];exact hi.numsOf
 have sz:nums.size=ns.length:=by rw[←en,Ab,Array.length_toList]
 refine max_intList (xs:=nums) (I.ok.hd hc) (hx▸p.isList) (by omega) fun v h' tk hv hk=>?_
 obtain⟨t,rfl⟩:=intItems_at hv;obtain⟨g1,g2⟩:=argBest_gt (numAt nums) (nums.size-1)
 have em:=aQp (ns:=ns) (m:=numAt nums (argBest (fun i j=>decide (numAt nums i>numAt nums j)) (nums.size-1))) (by
  rw[numAt_eq,en];rw[Aa,Ac (by omega)];exact Dd _) fun a ha=>by
   obtain⟨j,hj,rfl⟩:=Bg.mp ha;rw[show ns[j]=ns.getD j 0 by rw[Aa,Ac hj];rfl,←en,←numAt_eq];exact g2 j (by omega)
 exact⟨.int (mxL ns),H,I.kept hk,⟨t,by rw[em]⟩,q⟩
def sZ (a:FE):FE:=fun ρ=>do
 let x ← a ρ
 let ds ← asL x.d
 let l ← fL ds
 if 0<l.length then .ok (sc (.int (mxL l))) else .stk
theorem aI2 (hc:X.calm=true)(hg:Gl X "max")(hm:X.mg "max" = none)(ha:PE X a (tE X.K P f))(he:starEach [a] X.env=[(false,eval a X.env)]:=by rfl):PE X (.Call (.Name "max" p) [a] [] pos) (tE X.K P (sZ f)):=by
 refine PE.imp (iP (aFs hc) hg hm (by decide +kernel) (aA ha aQ he) (he:=he)) ?_
 intro σ H Q h;refine aAt h ?_
 intro H0 B ρ v H' r d0 d g s h;cases e:asL r.d with
 | stk=>simp[e]at h
 | exc x=>exact(eK e).elim
 | ok ds =>
  cases e2:fL ds with
  | stk=>simp[e,e2]at h
  | exc x=>exact(lC e2).elim
  | ok l =>
   simp only[e,e2,R.ok_bind]at h;by_cases z:0<l.length
   · rw[if_pos z]at h
     obtain⟨a,xs,h1,h2,h3⟩:=g.list (dQ e);exact⟨a,l,by rw[h1],by rw[←aN.ints e2 h3];exact .inl h2,z,h _ H' (aK.refl _) (aP.sc (show Rep _ _ (.int _) _ from rfl))⟩
   · rw[if_neg z]at h;exact h.elim
end Mir
namespace Mir
open PySem L2
variable {X:Cx}{pins:List (Addr×Obj)}{σ:St}{H H':Hp}{s s':Shared}
def aPm (K:PySem.W.Frag)(C:Addr)(bmB:List Value)(newId:String)(fI:Addr):Bool :=
 match K.lookup C with
 | some ⟨.type "type",_,.cls c,sl⟩=>match c.mro,sl.toList with
  | .ref D :: tl,[_,_,_,_,some (.builtin i),_] =>
   D==C&&(i==newId&&(!c.hasDel&&(PySem.W.tailIn K bmB tl&&(PySem.W.nsOkIn K c.ns&&Ca K c.ns "__init__" == some (some (.ref fI))))))
  | _,_=>false
 | _=>false
end Mir
namespace Mir
open PySem L2
variable {X:Cx}{pins:List (Addr×Obj)}{σ:St}{H H':Hp}{s s':Shared}{ea C:Addr}{P:XP}
def drp (H:Hp)(a:Addr):Hp:=fun b=>if b=a then none else H b
theorem sK {a b:Addr}(h:b≠a):drp H a b=H b:=if_neg h
theorem aCk {a:Addr}:drp H a a=none:=if_pos rfl
end Mir
namespace Mir
open PySem L2
section
variable {Pg:Program}{w:World}{K:PySem.W.Frag}{mg:Str->Option Value}{base:Heap}{T:Addr}
structure PRaw (K:PySem.W.Frag)(T C f:Addr)(od:Option Addr)(cd:ClassData)(sl:Array (Option Value)):Prop where
 ns:Ca K mainGlobals "BadRows" = some (some (.ref C))
 lk:K.lookup C=some ⟨.type "type",od,.cls cd,sl⟩
 mro:cd.mro=.ref C :: aRb T
 hd:cd.hasDict=true
 sa:Bd K (.ref C) "__setattr__" = some (some (.builtin "object.__setattr__"))
 no:Bd K (.ref C) "place" = some none
 ii:Bd K (.ref C) "__init__" = some (some (.ref f))
 own:aPm K C bmV "ValueError.__new__" f=true
variable {C f:Addr}{od:Option Addr}{cd:ClassData}{sl:Array (Option Value)}
theorem PRaw.cl (r:PRaw K T C f od cd sl):clK K .BadRows=C:=by
 unfold clK;rw[show (XC.BadRows).nm = "BadRows" from rfl,r.ns]
end
variable {X:Cx}{P:XP}{e:Expr}{f:FE}{pos np cpos:Pos}{T:Addr}
end Mir
namespace Mir
open PySem L2
def stO (n:Nat)(d:D)(ds:List D):Env:=some ⟨.own,false,d⟩ :: stE (n-1) ds
theorem aDl {n i:Nat}{ds:List D}{e:Res}(h:(stE n ds)[i]?=some (some e)):e.k=.shr/\e.fr=false:=by
 unfold stE at h;by_cases hi:i<ds.length
 · rw[Bl (by simpa using hi),Ax]at h
   cases q:ds[i]? with
   | none=>rw[q]at h;cases h
   | some d=>rw[q]at h;cases h;exact⟨rfl,rfl⟩
 · rw[Bb (by simpa using hi),Ci]at h
   split at h<;>cases h
section
variable {K:PySem.W.Frag}{H:Hp}{B:Addr->Prop}{a:Addr}{o:HO}{d:D}{vr:List V}{ds:List D}{N:List Str}
theorem DenS.startO (hN:N≠[])(hB:∀ b,B b->∃ o,H b=some o/\stab o=false)(ha:H a=some o)(hs:stab o=false)(nB:¬ B a)(hd:fX K (cut H fun b=>B b\/b=a) d o)(r:aN K (cut H fun b=>B b\/b=a) ds vr) :
 DenS K (drp H a) H B (L2.start N (.ref a :: vr)) (stO N.length d ds):=by
 have eσ:L2.start N (.ref a :: vr)=some (.ref a) :: L2.start N.tail vr:=by
  unfold L2.start;simp[Nat.sub_sub,Hc]
 have S:=DenS.start (N:=N.tail) (B:=fun b=>B b\/b=a) (fun b z=>by
  rcases z with z | z
  · exact hB b z
  · rw[z];exact⟨o,ha,hs⟩) r
 have eρ:stO N.length d ds=some ⟨.own,false,d⟩ :: stE N.tail.length ds:=by unfold stO;rw[List.length_tail]
 rw[eσ,eρ]
 have own:∀ i b,eP (some (.ref a) :: L2.start N.tail vr) (some ⟨.own,false,d⟩ :: stE N.tail.length ds) i b->i=0/\b=a:=fun i b ⟨h1,e,h2,h3⟩=>by
  cases i with
  | zero=>cases h1;exact⟨rfl,rfl⟩
  | succ j =>
   rw[Ha]at h2;rw[(aDl h2).1]at h3;cases h3
 have is:∀ b,Bs B (some (.ref a) :: L2.start N.tail vr) (some ⟨.own,false,d⟩ :: stE N.tail.length ds) b↔B b\/b=a:=fun b=>⟨fun z=>by
  rcases z with ⟨i,z⟩ | z
  · exact .inr (own i b z).2
  · exact .inl z,fun z=>by
  rcases z with z | z
  · exact .inr z
  · rw[z];exact .inl ⟨0,rfl,_,rfl,rfl⟩⟩
 have sm:∀ {H0:Hp},aK (cut H fun b=>B b\/b=a) (aZ false H0 H (Bs B (some (.ref a) :: L2.start N.tail vr) (some ⟨.own,false,d⟩ :: stE N.tail.length ds))):=fun b u q=>by
  obtain⟨q1,q2⟩:=aO.mp q;refine aO.mpr ⟨fun z=>?_,q2⟩
  rcases z with z | z
  · exact q1 ((is b).mp z)
  · exact nomatch z.1
 refine⟨⟨by simpa using S.e.len,fun b u q=>?_,fun b z=>?_,fun i e he=>?_⟩,fun b ⟨i,z⟩=>?_,fun i j b z1 z2=>(own i b z1).1.trans (own j b z2).1.symm⟩
 · by_cases z:b=a
   · rw[z,aCk]at q;cases q
   · rw[sK z]at q;exact q
 · rcases (is b).mp z with z | z
   · exact hB b z
   · rw[z];exact⟨o,ha,hs⟩
 · cases i with
   | zero =>
    cases he;exact⟨.ref a,rfl,a,o,rfl,(is a).mpr (.inr rfl),aCk,ha,hd.same sm⟩
   | succ j =>
    rw[Ha]at he;obtain⟨v,q1,q2⟩:=S.e.ent j e he;refine⟨v,q1,?_⟩
    obtain⟨k1,k2⟩:=aDl he;obtain⟨ek,ef,ed⟩:=e;dsimp only at k1 k2
    subst k1 k2
    exact Rep.same (fun b u q=>sm b u (by
     obtain⟨q1,q2⟩:=aO.mp q
     refine aO.mpr ⟨fun z=>q1 (.inl (.inr z)),q2⟩)) q2
 · rw[(own i b z).2];exact nB
end
def spO (K:PySem.W.Frag)(ψ:D->List D->R Res):Sp:=fun vs H Q _=>∃ a o d ds vr B,vs=.ref a :: vr/\(∀ b,B b->∃ o,H b=some o/\stab o=false)/\H a=some o/\stab o=false/\¬ B a/\fX K (cut H fun b=>B b\/b=a) d o/\aN K (cut H fun b=>B b\/b=a) ds vr/\match ψ d ds with
 | .ok r=>∀ v H',aK (drp H a) H'->jX K (drp H a) H' B v r->Q v H'
 | _=>False
end Mir
namespace Mir
open PySem L2
def aHv (i:Nat)(ψ:D->List D->R Res)(fs:FEs):FS:=fun ρ=>match ρ[i]? with
 | some (some ⟨.own,_,d⟩)=>(evs fs ρ).at ρ fun rs=>(gives rs).at ρ fun y=>match ψ d y.2 with
  | .ok r=>if r.k=.shr then .stk else .nx (ρ.set i (some ⟨.own,false,r.d⟩))
  | _=>.stk
 | _=>.stk
section
variable {X:Cx}{P:XP}{e:Expr}{es:List Expr}{fs:FEs}{pos p p1 p2 pos':Pos}{k i:Nat}{x y:Str}{ps:List Str}{sp:Sp}{ψ:D->List D->R Res}{t:TA}
theorem aG6 (cc:aH X.prog X.w X.K X.mg X.base (CXM X.prog X.w) k x ps sp)(hr:Room k X.A)(hg:Gl X x)(ha:PA X (e :: es) t)
 (hdb:(x==("__debug__":Str))=false:=by decide) (he:starEach (e :: es) X.env=(false,eval e X.env) :: starEach es X.env:=by rfl) (hpl:(backTo pos (starEach es X.env)).any (·.1)=false:=by rfl) :
 PE X (.Call (.Name x p) (e :: es) [] pos) (fun σ H Q=>t σ H fun vs H1=>sp vs H1 Q E0):=by
 obtain⟨fa,fd,F,m,kp,b⟩:=cc;intro pins s σ H Q I h;refine wpAny_Call_Name_kw (qN I hg m ?_ hdb)
 refine Iw (h₀:=X.base) I.ok.mod.kin kp (thn (ha pos pins s σ H _ I h) fun us s1 ⟨vs,H1,I1,r,q⟩=>⟨I1.kIn,?_⟩) he hpl
 exact aC6 F hr b (fun e s' ⟨_,_,_,_,_,_,_,z⟩=>z.elim) I1 r q
theorem aJl {K:PySem.W.Frag}{D:Ends}{σ:St}{H:Hp}(h:tS K P (aHv i ψ fs) D σ H):mJ i σ H fun x H1=>tAs K P fs σ H1 fun xs H2=>spO K ψ (x :: xs) H2 (fun v H'=>D.nx (σ.set i (some v)) H') E0:=by
 obtain⟨H0,T,ρ,d,h⟩:=h;unfold aHv at h;split at h
 case h_2=>exact h.elim
 case h_1 fr dd he =>
 obtain⟨v,hv,a,o,rfl,Ba,n0,ha,hd⟩:=d.e.ent i _ he;refine⟨.ref a,hv,H0,_,ρ,d.e,?_⟩
 cases e1:evs fs ρ with
 | stk=>simp only[e1,R.at]at h;exact h.elim
 | exc z=>simp only[e1,R.at]at h;exact h σ H d Ext.refl
 | ok rs =>
  simp only[e1,R.at]at h;intro vs H1 s1 gs;cases e2:gives rs with
  | stk=>simp only[e2]at h;exact h.elim
  | exc z=>exact(jB e2).elim
  | ok yy =>
   simp only[e2]at h;have hr:=gs.gives d.e e2;obtain⟨o1,ho1,st⟩:=d.e.bnd a Ba;rw[ha]at ho1;cases ho1;have own:mC σ ρ a:=⟨i,hv,_,he,rfl⟩
   have ci:∀ {fr H0 H2},aK H H2->aK (aZ fr H0 H (Bs T σ ρ)) (cut H2 fun b=>(Bs T σ ρ b/\b≠a)\/b=a):=fun s b u q=>by
    obtain⟨q1,q2⟩:=aO.mp q;refine aO.mpr ⟨fun z=>?_,s _ _ q2⟩
    rcases z with z | z
    · exact q1 (.inl z.1)
    · exact q1 (.inl (z▸Ba))
   refine⟨a,o,dd,yy.2,vs,fun b=>Bs T σ ρ b/\b≠a,rfl,fun b z=>?_,s1 _ _ ha,st,fun z=>z.2 rfl,hd.same (ci s1),?_,?_⟩
   · obtain⟨u,q1,q2⟩:=d.e.bnd b z.1
     exact⟨u,s1 _ _ q1,q2⟩
   · refine aN.same (fun b u q=>?_) hr
     obtain⟨q1,q2⟩:=aO.mp q;refine aO.mpr ⟨fun z=>?_,q2⟩
     rcases z with z | z
     · exact q1 (.inl z.1)
     · exact q1 (.inl (z▸Ba))
   · cases e3:ψ dd yy.2 with
     | stk=>simp only[e3]at h;exact h.elim
     | exc z=>simp only[e3]at h;exact h.elim
     | ok r =>
      simp only[e3]at h;by_cases hk:r.k=.shr
      · rw[if_pos hk]at h;exact h.elim
      · rw[if_neg hk]at h
        intro v H' s2 ro
        obtain⟨a',o',rfl,n1,h1,hh⟩:∃ a' o',v=.ref a'/\drp H1 a a'=none/\H' a'=some o'/\fX K (aZ r.fr (drp H1 a) H' fun b=>(Bs T σ ρ b/\b≠a)\/b=a') r.d o':=by
         unfold jX at ro;split at ro
         · exact absurd (by assumption) hk
         · exact ro
        have kp:∀ b u,H b=some u->b≠a->H' b=some u:=fun b u q n=>s2 b u (by rw[sK n];exact s1 _ _ q)
        have na:∀ b u,H b=some u->b≠a->b≠a':=fun b u q n z=>by
         rw[←z,sK n,s1 _ _ q]at n1;cases n1
        have il:i<ρ.length:=(Aw.mp he).1;have jl:i<σ.length:=(Aw.mp hv).1
        have ow:∀ j b,eP (σ.set i (some (.ref a'))) (ρ.set i (some ⟨.own,false,r.d⟩)) j b->(j=i/\b=a')\/(j≠i/\eP σ ρ j b/\b≠a):=fun j b ⟨q1,e,q2,q3⟩=>by
         by_cases z:i=j
         · subst z
           rw[Ay jl]at q1;cases q1;exact .inl ⟨rfl,rfl⟩
         · rw[Av z]at q1 q2
           exact .inr ⟨Ne.symm z,⟨q1,e,q2,q3⟩,fun w=>z (d.dis i j a ⟨hv,_,he,rfl⟩ (w▸⟨q1,e,q2,q3⟩))⟩
        have bs:∀ b,Bs T (σ.set i (some (.ref a'))) (ρ.set i (some ⟨.own,false,r.d⟩)) b->b=a'\/(Bs T σ ρ b/\b≠a):=fun b z=>by
         rcases z with ⟨j,z⟩ | z
         · rcases ow j b z with ⟨_,z⟩ | ⟨_,z,n⟩
           · exact .inl z
           · exact .inr ⟨.inl ⟨j,z⟩,n⟩
         · exact .inr ⟨.inr z,fun w=>d.sep a own (w▸z)⟩
        have me:eP (σ.set i (some (.ref a'))) (ρ.set i (some ⟨.own,false,r.d⟩)) i a':=⟨Ay jl,_,Ay il,rfl⟩;refine h _ _ ⟨⟨by rw[Ar,Ar];exact d.e.len,fun b u q=>kp b u (d.e.sam _ _ q) (fun z=>by rw[z,n0]at q;cases q),fun b z=>?_,fun j e hj=>?_⟩,fun b ⟨j,z⟩=>?_,fun j1 j2 b z1 z2=>?_⟩ ⟨fun b u q n=>kp b u q fun z=>n (z▸own),fun b ⟨j,z⟩=>?_⟩
        · rcases bs b z with z | ⟨z,n⟩
          · subst z
            refine⟨o',h1,?_⟩
            cases q:r.d with
            | lst ds=>rw[q]at hh;obtain⟨_,z,_⟩:=hh;rw[z];rfl
            | dct ks ds=>rw[q]at hh;obtain⟨_,z,_⟩:=hh;rw[z];rfl
            | _=>rw[q]at hh;exact hh.elim
          · obtain⟨u,q1,q2⟩:=d.e.bnd b z
            exact⟨u,kp b u q1 n,q2⟩
        · by_cases z:i=j
          · subst z
            rw[Ay il]at hj;cases hj;refine⟨.ref a',Ay jl,a',o',rfl,.inl ⟨i,me⟩,?_,h1,hh.same fun b u q=>?_⟩
            · cases q:H0 a' with
              | none=>rfl
              | some u =>
               exact absurd rfl (na a' u (d.e.sam _ _ q) fun z=>by rw[z,n0]at q;cases q)
            · obtain⟨q1,q2⟩:=aO.mp q
              refine aO.mpr ⟨fun z=>?_,q2⟩
              rcases z with z | z
              · rcases bs b z with z | z
                · exact q1 (.inl (.inr z))
                · exact q1 (.inl (.inl z))
              · exact nomatch z.1
          · rw[Av z]at hj
            obtain⟨w,q1,q2⟩:=d.e.ent j e hj;refine⟨w,by rw[Av z];exact q1,q2.to d.e.sam (fun b u q n=>kp b u q fun w=>n (w▸Ba)) (fun b u q _ k1 k2=>?_) fun b z=>?_⟩
            · have oj:eP σ ρ j b:=⟨by rw[q1,k2],e,hj,k1⟩
              have n:b≠a:=fun w=>z (d.dis i j a ⟨hv,_,he,rfl⟩ (w▸oj));exact⟨kp b u q n,.inl ⟨j,by rw[Av z,q1,k2],e,by rw[Av z];exact hj,k1⟩⟩
            · rcases bs b z with z | z
              · subst z
                by_cases w:b=a
                · exact .inl (w▸Ba)
                · rw[sK w]at n1
                  exact .inr (s1.none n1)
              · exact .inl z.1
        · rcases ow j b z with ⟨_,z⟩ | ⟨_,z,n⟩
          · subst z
            intro tb;obtain⟨u,q1,_⟩:=d.e.bnd b (.inr tb);exact na b u q1 (fun w=>d.sep a own (w▸tb)) rfl
          · exact d.sep b ⟨j,z⟩
        · rcases ow j1 b z1 with ⟨y1,w1⟩ | ⟨y1,w1,m1⟩<;>rcases ow j2 b z2 with ⟨y2,w2⟩ | ⟨y2,w2,m2⟩
          · rw[y1,y2]
          · obtain⟨u,q1,_⟩:=d.e.bnd b (.inl ⟨j2,w2⟩)
            exact absurd w1 (na b u q1 m2)
          · obtain⟨u,q1,_⟩:=d.e.bnd b (.inl ⟨j1,w1⟩)
            exact absurd w2 (na b u q1 m1)
          · exact d.dis j1 j2 b w1 w2
        · rcases ow j b z with ⟨_,z⟩ | ⟨_,z,n⟩
          · subst z
            by_cases w:b=a
            · exact .inl (w▸own)
            · rw[sK w]at n1
              exact .inr (s1.none n1)
          · exact .inl ⟨j,z⟩
end
end Mir
namespace Mir
open PySem L2
def pin (j:Nat)(v:Option (Option V))(D:Ends):Ends:={ D with nx:=fun σ' H'=>σ'[j]?=v->D.nx σ' H' }
def tK (j:Nat)(K:PySem.W.Frag)(P:XP)(F:FS):TS:=fun D σ H=>tS K P F (pin j σ[j]? D) σ H
section
variable {X:Cx}{P:XP}{a b c e:Expr}{es:List Expr}{f g:FE}{fs:FEs}{pos p:Pos}{st:Stmt}{rest:List Stmt}{F G:FS}{j:Nat}
theorem aHt:PSs X [] (tK j X.K P cG):=PSs.imp aD4 fun D σ H ⟨H0,T,ρ,d,h⟩=>h σ H d Ext.refl rfl
theorem lW (h1:PS X st (tK j X.K P F)):PSs X [st] (tK j X.K P F):=qL h1
theorem mH (h1:PS X st (tK j X.K P F))(h2:PSs X rest (tK j X.K P G)):PSs X (st :: rest) (tK j X.K P (aI F G)):=PSs.imp (kL h1 h2) fun D σ H ⟨H0,T,ρ,d,h⟩=>by
 refine⟨H0,T,ρ,d,?_⟩
 unfold aI at h;cases e:F ρ with
 | nx ρ1 =>
  rw[e]at h;exact fun σ1 H1 d1 x1 q=>⟨H0,T,ρ1,d1,by rw[q];exact h.trans x1⟩
 | bk ρ'=>rw[e]at h;exact h
 | ct ρ'=>rw[e]at h;exact h
 | rt r=>rw[e]at h;exact h
 | exc z ρ'=>rw[e]at h;exact h
 | stk=>rw[e]at h;exact h
theorem vP {t:FT}{sa sb:List Stmt}(hc:PT X c (tT X.K P t))(ha:PSs X sa (tK j X.K P F))(hb:PSs X sb (tK j X.K P G)):PS X (.If c sa sb pos) (tK j X.K P (ifS t F G)):=PS.imp (aN4 hc ha hb) fun D σ H h=>aS6 h
theorem aR4 {i:Nat}(h:PS X st (tK j X.K P F)):PS X st (tK j X.K P (cN i F)):=PS.imp h fun D σ H ⟨H0,T,ρ,d,h⟩ =>
 let ⟨d',x⟩:=d.freeze i
 ⟨H0,T,frz i ρ,d',gW.trans x h⟩
theorem vK {i:Nat}{x:Str}{pos':Pos}(hij:i≠j)(hN:X.N.Nodup)(hi:X.N[i]?=some x)(hx:Loc X.env.scope x)(he:PE X e (tE X.K P f))(hs:swapsWith e (some (.Name x pos')) pos.line X.env=pure false:=by rfl)(hf:X.fn x=true\/X.env.scope.names.lookup x=some .local:=by first | exact .inl rfl | exact .inr rfl | assumption) :
 PS X (.Assign [.Name x pos'] e pos) (tK j X.K P (aC i f)):=by
 refine PS.imp (aIe hN hi hx he hs hf) fun D σ H h=>?_
 exact aGr (q:=fun v H1=>D.nx (σ.set i (some v)) H1) (k:=fun r ρ=>(r.keep).at ρ fun e=>.nx (ρ.set i (some e))) rfl h fun H0 T ρ v H' r d d' s g h=>rG d s g h (Av hij)
theorem aSd {t:TS}(h:PS X st t)(q:∀ D σ H,tS X.K P F { D with nx:=fun σ' H'=>σ'=σ->D.nx σ' H' } σ H->t D σ H):PS X st (tK j X.K P F):=PS.imp h fun D σ H ⟨H0,T,ρ,d,z⟩=>q D σ H ⟨H0,T,ρ,d,by
 cases e:F ρ with
 | nx ρ1=>rw[e]at z;exact fun σ1 H1 d1 x1 w=>z σ1 H1 d1 x1 (by rw[w])
 | bk ρ'=>rw[e]at z;exact z
 | ct ρ'=>rw[e]at z;exact z
 | rt r=>rw[e]at z;exact z
 | exc z' ρ'=>rw[e]at z;exact z
 | stk=>rw[e]at z;exact z⟩
theorem aTc {i:Nat}{x:Str}{p ap cp:Pos}(hN:X.N[i]?=some x)(hv:Vis X.env.scope x)(he:PE X e (tE X.K P f))(hd:(x==("__debug__":Str))=false:=by decide)(hcd:(x==("__classdict__":Str))=false:=by decide)
 (h1:starEach [e] X.env=[(false,eval e X.env)]:=by rfl) (hbase:attributeBase (.Name x p) "append" X.env (eval (.Name x p) X.env)=eval (.Name x p) X.env:=by rfl)
 (hfew:((backTo cp (starEach [e] X.env)).all (fun x=>!x.1)&&(backToKw cp (keywordEach [] X.env)).all (fun x=>x.1.isSome)&&decide ([e].length+([]:List Keyword).length+(if ([]:List Keyword).isEmpty then 0 else 1)<30))=true:=by rfl)
 (hline:(ap.endLine==cp.line)=true:=by rfl)
 (hs:swapsWith (.Call (.Attribute (.Name x p) "append" ap) [e] [] cp) none pos.line X.env=pure false:=by rfl) :
 PS X (.Expr (.Call (.Attribute (.Name x p) "append" ap) [e] [] cp) pos) (tK j X.K P (jY i f)):=by
 refine aSd (qK (aOe PySem.F.plainAttrs_list PySem.F.slot_list_append PySem.F.type_list_append oZ (mR hN hv hd hcd) (kX he xZ h1) hbase hfew hline (hs:=h1)) hs) ?_
 rintro D σ H ⟨H0,T,ρ,d,h⟩
 unfold jY at h;cases e3:nJ i ρ with
 | stk=>simp only[e3,R.at]at h;exact h.elim
 | exc z=>unfold nJ at e3;split at e3<;>cases e3
 | ok y =>
  simp only[e3,R.at]at h;have ho:=qB e3;obtain⟨a,vs,q1,q2,q3,q4⟩:=d.own ho;refine⟨_,q1,.inl ⟨rfl,vs,SqL.of q3⟩,?_⟩
  cases e1:f ρ with
  | stk=>simp only[e1]at h;exact h.elim
  | exc z=>simp only[e1]at h;exact dR d.e e1 (h σ H d Ext.refl)
  | ok r =>
   simp only[e1]at h;refine fO d.e e1 fun v H' s d' g'=>?_
   cases e2:r.give with
   | stk=>simp only[e2]at h;exact h.elim
   | exc z=>unfold Res.give at e2;split at e2<;>cases e2
   | ok r' =>
    simp only[e2]at h;obtain⟨g1,g2⟩:=g'.give d.e e2;subst g1;by_cases hz:y.2.length<sizeLine
    · rw[if_pos hz]at h
      have dS:=d.mono s;have q4':aN X.K (aZ y.1 H0 H' (Bs T σ ρ)) y.2 vs:=aN.same (aW (fun b o q _=>s b o q) fun b z=>.inl z) q4;refine⟨a,vs,v,rfl,rfl,s _ _ q3,by rw[←q4.length];exact hz,?_⟩
      obtain⟨w1,w2⟩:=dS.write (fr:=y.1&&r.fr) (ds:=y.2++[r.d]) (vs:=vs++[v]) q1 ho rfl q2 (q4'.andL.append (aN.one g2).andR);exact h σ _ w1 ((Ext.same s).trans w2) rfl
    · rw[if_neg hz]at h;exact h.elim
theorem aEf {i:Nat}{x:Str}{jj:Expr}{p tp:Pos}(hN:X.N[i]?=some x)(hv:Vis X.env.scope x)(hj:PE X jj (tE X.K P g))(he:PE X e (tE X.K P f))(hd:(x==("__debug__":Str))=false:=by decide)(hcd:(x==("__classdict__":Str))=false:=by decide)
 (ha:∀ v,assign (.Subscript (.Name x p) jj tp) X.env v=(do
  let ov ← holding [v] (eval (.Name x p) X.env)
  let iv ← holding [v,ov] (eval jj X.env)
  standAt tp
  holding [v,ov,iv] (setItem ov iv v)
  release [v,ov,iv] []):=by intro _;rfl)
 (hs:swapsWithSole [.Subscript (.Name x p) jj tp] e pos.line X.env=pure false:=by rfl) (hw:swappedStores [.Subscript (.Name x p) jj tp] e X.env=pure none:=by rfl)
 (h1:(assignEach [.Subscript (.Name x p) jj tp] X.env).map (·.2)=[assign (.Subscript (.Name x p) jj tp) X.env]:=by rfl) :
 PS X (.Assign [.Subscript (.Name x p) jj tp] e pos) (tK j X.K P (gH i g f)):=by
 refine aSd (aHd he (aJn (mR hN hv hd hcd) hj zS ha) hs hw h1) ?_
 rintro D σ H ⟨H0,T,ρ,d,h⟩
 unfold gH at h;show tE X.K P f σ H fun v H1=>mJ i σ H1 fun o H2=>tE X.K P g σ H2 fun k H3=>aJj o k v H3 fun H4=>D.nx σ H4
 cases e1:f ρ with
 | stk=>simp only[e1,R.at]at h;exact h.elim
 | exc z=>simp only[e1,R.at]at h;exact dR d.e e1 (h σ H d Ext.refl)
 | ok r =>
  simp only[e1,R.at]at h;refine fO d.e e1 fun v H1 s1 d1 g1=>?_
  cases e2:r.give with
  | stk=>simp only[e2]at h;exact h.elim
  | exc z=>unfold Res.give at e2;split at e2<;>cases e2
  | ok r' =>
   simp only[e2]at h;obtain⟨w1,w2⟩:=g1.give d.e e2;subst w1;cases e3:nJ i ρ with
   | stk=>simp only[e3]at h;exact h.elim
   | exc z=>unfold nJ at e3;split at e3<;>cases e3
   | ok y =>
    simp only[e3]at h;have ho:=qB e3;obtain⟨a,vs,q1,q2,q3,q4⟩:=d.own ho;refine⟨_,q1,?_⟩
    cases e4:g ρ with
    | stk=>simp only[e4]at h;exact h.elim
    | exc z=>simp only[e4]at h;exact dR d1 e4 (h σ H1 (d.mono s1) (Ext.same s1))
    | ok jr =>
     simp only[e4]at h;refine fO d1 e4 fun kv H2 s2 d2 g2=>?_
     cases e5:asI jr.d with
     | stk=>simp only[e5]at h;exact h.elim
     | exc z=>exact(cA e5).elim
     | ok k =>
      simp only[e5]at h;cases e6:ixN y.2.length k with
      | none=>simp only[e6]at h;exact h.elim
      | some n =>
       simp only[e6]at h;have s:=s1.trans s2;have dS:=d.mono s;have m:∀ fr,aK (aZ fr H0 H (Bs T σ ρ)) (aZ fr H0 H2 (Bs T σ ρ)):=fun fr=>aW (fun b o q _=>s b o q) fun b z=>.inl z;have m1:∀ fr,aK (aZ fr H0 H1 (Bs T σ ρ)) (aZ fr H0 H2 (Bs T σ ρ)):=fun fr=>aW (fun b o q _=>s2 b o q) fun b z=>.inl z;refine⟨a,vs,k,n,rfl,g2.int (cQ e5),s _ _ q3,by rw[←q4.length];exact e6,?_⟩
       have ra:Rep X.K (aZ (y.1&&r.fr) H0 H2 (Bs T σ ρ)) r.d v:=by
        obtain⟨_,_,z1,z2,_⟩:=(aN.one (Rep.same (m1 _) w2)).andR (fr:=y.1);cases z1;exact z2
       obtain⟨v1,v2⟩:=dS.write (fr:=y.1&&r.fr) (ds:=y.2.set n r.d) (vs:=vs.set n v) q1 ho rfl q2 (aN.set ra n (aN.same (m _) q4).andL);exact h σ _ v1 ((Ext.same s).trans v2) rfl
end
def spU (K:PySem.W.Frag)(ψ:D->List D->R D):Sp:=fun vs H Q _=>∃ (a:Addr) (o:HO) (d:D) (ds:List D) (vr:List V) (B:Addr->Prop),vs=.ref a :: vr/\(∀ b,B b->∃ o,H b=some o/\stab o=false)/\H a=some o/\stab o=false/\¬ B a/\fX K (cut H fun b=>B b\/b=a) d o/\aN K (cut H fun b=>B b\/b=a) ds vr/\match ψ d ds with
 | .ok d'=>∀ H' o',aK (drp H a) H'->H' a=some o'->fX K (cut H' fun b=>B b\/b=a) d' o'->Q .non H'
 | _=>False
def aT5 (ρ:Mir.Env):R D:=match ρ[(0:Nat)]? with
 | some (some ⟨.own,_,d⟩)=>.ok d
 | _=>.stk
def aCu (np n:Nat)(s:FS):D->List D->R D:=fun d ds=>if ds.length+1=np then (match s (stO n d ds) with
 | .nx ρ=>aT5 ρ
 | _=>.stk) else .stk
section
variable {Pg:Program}{w:World}{K:PySem.W.Frag}{mg:Str->Option Value}{base:Heap}{cl:XC->Addr}{N:List Str}
theorem aO3 {x:Str}{ps:List Str}{k:Nat}{st:Stmt}{F:FS}(hN:N≠[])(Fa:bD K mg x st ps)(S:FnScope N ps (aG st))
 (hb:∀ (f:Addr) (cdv:Value) (A:Around) (outer:List PySem.Env) (s:Shared) (H:Hp) (E:XK),Room k (A.deeper (Ip x (aG st) s.heap.objs.size f cdv)) ->
  PSs (lO (CXM Pg w) Pg w K mg base N x (aG st) f cdv A outer s H E) (cU st) (tK 0 K (PX cl E) F)):aH Pg w K mg base (CXM Pg w) (k+1) x ps (spU K (aCu ps.length N.length F)):=by
 obtain⟨f,fd,Fu,m,b⟩:=Fa;have kp:=Fu.kp;obtain⟨oc,od,kV,doc,pm,an,cdv,ct,osl,rfl,lk,hcd⟩:=Fu.ex;refine⟨f,_,yT lk hcd S (fun vs H Q E z=>?_) fun A outer s H vs Q E hr z=>⟨_,hb f cdv A outer s H E hr,?_⟩,m,kp,b⟩
 · obtain⟨a,o,d,ds,vr,B,rfl,_,_,_,_,_,r,q⟩:=z
   unfold aCu at q;by_cases e:ds.length+1=ps.length
   · rw[Aq,←r.length];exact e
   · rw[if_neg e]at q;exact q.elim
 · obtain⟨a,o,d,ds,vr,B,rfl,hB,ha,hs,nB,hd,r,q⟩:=z
   refine⟨drp H a,B,stO N.length d ds,DenS.startO hN hB ha hs nB hd r,?_⟩
   have s0:(L2.start N (.ref a :: vr))[0]?=some (some (.ref a)):=by unfold L2.start;rfl
   unfold aCu at q;by_cases e:ds.length+1=ps.length
   · rw[if_pos e]at q
     cases e2:F (stO N.length d ds) with
     | nx ρ' =>
      simp only[e2]at q;intro σ' H' d' x' pn;rw[s0]at pn;unfold aT5 at q;split at q
      case h_2=>exact q.elim
      case h_1 ot dd he =>
       split at he
       case h_2=>cases he
       case h_1 fr d2 hr' =>
        cases he;obtain⟨v,hv,a',o',rfl,Ba,n0,ha',hd'⟩:=d'.e.ent 0 _ hr';rw[pn]at hv;cases hv;refine q H' o' d'.e.sam ha' (hd'.same fun b u z=>?_)
        obtain⟨z1,z2⟩:=aO.mp z;refine aO.mpr ⟨fun w=>z1 (.inl ?_),z2⟩
        rcases w with w | w
        · exact .inr w
        · rw[w];exact Ba
     | rt r=>simp only[e2]at q
     | bk ρ'=>simp only[e2]at q
     | ct ρ'=>simp only[e2]at q
     | exc z ρ'=>simp only[e2]at q
     | stk=>simp only[e2]at q
   · rw[if_neg e]at q;exact q.elim
end
def aGf (i:Nat)(ψ:D->List D->R D)(fs:FEs):FS:=aHv i (fun d ds=>match ψ d ds with
 | .ok d'=>.ok ⟨.tmp,false,d'⟩
 | _=>.stk) fs
section
variable {X:Cx}{P:XP}{e:Expr}{es:List Expr}{fs:FEs}{pos p p1 p2 pos':Pos}{k i:Nat}{x y:Str}{ps:List Str}{ψ:D->List D->R D}
theorem aPw (hi:X.N[i]?=some y)(ly:X.env.scope.names.lookup y=some .local)(cc:aH X.prog X.w X.K X.mg X.base (CXM X.prog X.w) k x ps (spU X.K ψ))(hr:Room k X.A)(hg:Gl X x)(ha:PA X es (tAs X.K P fs))
 (hs:swapsWith (.Call (.Name x p) (.Name y p2 :: es) [] pos) none pos'.line X.env=pure false:=by rfl) (hdb:(x==("__debug__":Str))=false:=by decide) (d2:(y==("__debug__":Str))=false:=by decide) (d3:(y==("__classdict__":Str))=false:=by decide)
 (he:starEach (.Name y p2 :: es) X.env=(false,eval (.Name y p2) X.env) :: starEach es X.env:=by rfl) (hpl:(backTo pos (starEach es X.env)).any (·.1)=false:=by rfl) :
 PS X (.Expr (.Call (.Name x p) (.Name y p2 :: es) [] pos) pos') (tS X.K P (aGf i ψ fs)):=by
 refine PS.imp (qK (aG6 (p:=p) (pos:=pos) cc hr hg (kX (mR (pos:=p2) hi (.inl ly) d2 d3) ha he) hdb he hpl) hs) fun D σ H h=>?_
 obtain⟨v,hv,q⟩:=aJl h;refine⟨v,hv,?_⟩
 obtain⟨H0,B,ρ,d,q⟩:=q;refine⟨H0,B,ρ,d,?_⟩
 cases e1:evs fs ρ with
 | stk=>rw[e1]at q;exact q
 | exc z=>rw[e1]at q;exact q
 | ok rs =>
  rw[e1]at q;intro vs H' s1 gs;obtain⟨a,o,dd,ds,vr,B,e2,hB,h1,h2,h3,h4,h5,h6⟩:=q vs H' s1 gs;cases e2;refine⟨a,o,dd,ds,vs,B,rfl,hB,h1,h2,h3,h4,h5,?_⟩
  cases e3:ψ dd ds with
  | stk=>simp only[e3]at h6
  | exc z=>simp only[e3]at h6
  | ok d' =>
   simp only[e3]at h6;intro H2 o' s2 q1 q2
   have:=h6 (.ref a) H2 s2 ⟨a,o',rfl,aCk,q1,q2.same fun b u z=>by
    obtain⟨z1,z2⟩:=aO.mp z
    exact aO.mpr ⟨fun w=>w.elim z1 fun w=>(nomatch w.1),z2⟩⟩
   have eσ:σ.set i (some (.ref a))=σ:=by
    obtain⟨l,e⟩:=Aw.mp hv;rw[←e];exact List.set_getElem_self l
   rw[eσ]at this;exact this
end
end Mir
namespace Mir
open PySem L2
abbrev li (xs:List Int):List D:=xs.map .int
abbrev lil (t:List (List Int)):List D:=t.map fun xs=>.lst (li xs)
theorem aF {s t:FS}{ρ ρ1:Mir.Env}(h:s ρ=.nx ρ1):aI s t ρ=t ρ1:=by simp only[aI,h]
theorem aG4 {s t:FS}{ρ:Mir.Env}{r:Res}(h:s ρ=.rt r):aI s t ρ=.rt r:=by simp only[aI,h]
theorem gA {it:FI}{tg:Tg}{b:FS}{ρ:Mir.Env}{fr:Bool}{ds:List D}(h:it ρ=.ok ⟨true,fr,ds⟩):dY it tg b ρ=fZ tg b fr ds ρ:=by simp only[dY,h,R.at,if_true]
theorem dG {np n:Nat}{s:FS}{ds:List D}{r:Res}(hl:ds.length=np)(h:s (stE n ds)=.rt r):bY np n s ds=.ok ⟨r.k,r.fr||r.d.imm,r.d⟩:=by simp only[bY,hl,if_true,h]
theorem aCr {np n:Nat}{s:FS}{ds:List D}{ρ:Mir.Env}(hl:ds.length=np)(h:s (stE n ds)=.nx ρ):bY np n s ds=.ok (sc .non):=by simp only[bY,hl,if_true,h]
theorem yF {f:FE}{ρ:Mir.Env}{k:Kd}{fr:Bool}{d:D}(h:f ρ=.ok ⟨k,fr,d⟩):bS f ρ=.rt ⟨if k=.shr then .shr else .tmp,fr,d⟩:=by simp only[bS,h,R.at]
theorem wP {f:FE}{ρ:Mir.Env}{r:Res}(h:f ρ=.ok r):kP f ρ=.nx ρ:=by simp only[kP,h,R.at]
theorem cS {f:FE}{ρ:Mir.Env}{i:Nat}{fr:Bool}{d:D}(h:f ρ=.ok ⟨.tmp,fr,d⟩):aC i f ρ=.nx (ρ.set i (some ⟨.own,fr,d⟩)):=by simp only[aC,h,R.at,Res.keep]
theorem set_shr {f:FE}{ρ:Mir.Env}{i:Nat}{fr:Bool}{d:D}(h:f ρ=.ok ⟨.shr,fr,d⟩):aC i f ρ=.nx (ρ.set i (some ⟨.shr,fr,d⟩)):=by simp only[aC,h,R.at,Res.keep]
theorem cM {t:FT}{A B:FS}{ρ:Mir.Env}{b:Bool}(h:t ρ=.ok b):ifS t A B ρ=if b then A ρ else B ρ:=by simp only[ifS,h,R.at]
theorem aHu {f:FE}{A B:FS}{ρ:Mir.Env}{b:Bool}{k:Kd}{fr:Bool}(h:f ρ=.ok ⟨k,fr,.bl b⟩):ifS (bT f) A B ρ=if b then A ρ else B ρ:=by
 simp only[ifS,bT,h,R.ok_bind,asB,R.at]
theorem dH {f:FE}{ρ:Mir.Env}{b:Bool}{k:Kd}{fr:Bool}(h:f ρ=.ok ⟨k,fr,.bl b⟩):bT f ρ=.ok b:=by simp only[bT,h,R.ok_bind,asB]
theorem yI {t u:FT}{ρ:Mir.Env}{b:Bool}{r:R Bool}(h:t ρ=.ok b)(h2:b=false->u ρ=r):orT t u ρ=if b then .ok true else r:=by
 cases b with
 | true=>simp only[orT,h,R.ok_bind,if_true]
 | false=>simp only[orT,h,R.ok_bind,h2 rfl,Ep,if_false]
theorem aEa {t u:FT}{ρ:Mir.Env}{b:Bool}{r:R Bool}(h:t ρ=.ok b)(h2:b=true->u ρ=r):iB t u ρ=if b then r else .ok false:=by
 cases b with
 | true=>simp only[iB,h,R.ok_bind,h2 rfl,if_true]
 | false=>simp only[iB,h,R.ok_bind,Ep,if_false]
theorem qT {φ:Φ}{fs:FEs}{ρ:Mir.Env}{rs:List Res}{k:Kd}{d:D}(h:evs fs ρ=.ok rs)(hφ:φ (rs.map (·.d))=.ok ⟨k,true,d⟩):aL φ fs ρ=.ok ⟨if k=.shr then .shr else .tmp,true,d⟩:=by
 simp only[aL,h,R.ok_bind,hφ,if_true]
theorem gF {φ:Φ}{fs:FEs}{ρ:Mir.Env}{rs:List Res}{d:D}(h:evs fs ρ=.ok rs)(hφ:φ (rs.map (·.d))=.ok ⟨.shr,true,d⟩):aL φ fs ρ=.ok ⟨.shr,true,d⟩:=(qT h hφ).trans rfl
theorem cV {φ:Φ}{fs:FEs}{ρ:Mir.Env}{rs:List Res}{d:D}(h:evs fs ρ=.ok rs)(hφ:φ (rs.map (·.d))=.ok ⟨.tmp,true,d⟩):aL φ fs ρ=.ok ⟨.tmp,true,d⟩:=(qT h hφ).trans rfl
theorem nP {f:FE}{ρ:Mir.Env}{fr:Bool}{d:D}(h:f ρ=.ok ⟨.tmp,fr,d⟩):bS f ρ=.rt ⟨.tmp,fr,d⟩:=(yF h).trans rfl
theorem lH {f:FE}{ρ:Mir.Env}{fr:Bool}{d:D}(h:f ρ=.ok ⟨.own,fr,d⟩):bS f ρ=.rt ⟨.tmp,fr,d⟩:=(yF h).trans rfl
theorem jQ {f:FE}{ρ:Mir.Env}{fr:Bool}{d:D}(h:f ρ=.ok ⟨.shr,fr,d⟩):bS f ρ=.rt ⟨.shr,fr,d⟩:=(yF h).trans rfl
theorem aB {f:FE}{fs:FEs}{ρ:Mir.Env}{r:Res}{rs:List Res}(h:f ρ=.ok r)(h2:evs fs ρ=.ok rs):evs (f :: fs) ρ=.ok (r :: rs):=by simp only[evs,h,h2,R.ok_bind]
theorem aY {ρ:Mir.Env}:evs [] ρ=.ok []:=rfl
theorem yS {α:Type}{tg:Tg}{b:FB}{fr:Bool}{ρ:Mir.Env}{inj out:α->D}:∀ (xs:List α),(∀ x∈xs,∃ ρ1 k,tg.bind fr (inj x) ρ=.ok ρ1/\b ρ1=.ok (some ⟨k,true,out x⟩)/\k≠.own)->iT tg b fr ρ (xs.map inj)=.ok (true,xs.map out)
 | [],_=>rfl
 | x :: r,h=>by
  obtain⟨ρ1,k,h1,h2,h3⟩:=h x Ad;have ih:=yS r fun y hy=>h y (Ae _ hy);simp only[Aj,iT,h1,R.ok_bind,h2,Res.give,if_neg h3,ih];rfl
theorem cB {α:Type}{it:FI}{tg:Tg}{b:FB}{fr st:Bool}{ρ:Mir.Env}{k:Nat}{fs:List Nat}{inj out:α->D}{xs:List α}(hi:it ρ=.ok ⟨st,fr,xs.map inj⟩)
 (h:∀ x∈xs,∃ ρ1 k',tg.bind fr (inj x) (eW k fs ρ)=.ok ρ1/\b ρ1=.ok (some ⟨k',true,out x⟩)/\k'≠.own) (hz:xs.length<=sizeLine):aS it k fs tg b ρ=.ok ⟨.tmp,true,.lst (xs.map out)⟩:=by
 have:=yS xs h
 simp only[aS,hi,R.ok_bind,this,Ab,if_pos hz]
theorem dZ {f:FE}{ρ:Mir.Env}{r:Res}(h:f ρ=.ok r):bE f ρ=.ok (some r):=by simp only[bE,h,R.ok_bind]
theorem aAh (lo:Int)(n:Nat):kS lo n=(Bf n).map fun (i:Nat)=>.int (lo+(i:Int)):=rfl
theorem aRy (n:Nat):kS 0 n=(Bf n).map fun (i:Nat)=>.int (i:Int):=by
 rw[aAh];simp
theorem rK {α β:Type}(f:α->D)(g:β->D)(xs:List α)(ys:List β):mV (xs.map f) (ys.map g)=(xs.zip ys).map fun p=>.tup [f p.1,g p.2]:=by
 unfold mV;rw[List.zipWith_map,←List.map_uncurry_zip_eq_zipWith];rfl
theorem aRf {n:Nat}(h:n<2^250):n<2^1000:=Af h (Cp (by decide) (by decide))
theorem kH {i j:Int}(h1:i.natAbs<2^1000)(h2:j.natAbs<2^1000):CM i j=true:=by
 have lg:∀ n:Nat,n<2^1000->n.log2<1000000:=fun n h=>by
  by_cases z:n=0
  · subst z;decide
  · exact Ez ((Nat.log2_lt z).mpr h) (by decide)
 unfold CM;rw[decide_eq_true (lg _ h1),decide_eq_true (lg _ h2)];rfl
theorem aDg (a b:Int):nF (.int a) (.int b)=.ok (decide (a=b)):=by
 by_cases h:a=b
 · subst h;simp[nF,fY,SeqAt.shaped,PyData.canLay0,PyData.depth,PyData.eqv]
 · simp[nF,fY,SeqAt.shaped,PyData.canLay0,PyData.depth,PyData.eqv,h]
theorem qG:∀ zs:List Int,fL (li zs)=.ok zs
 | []=>rfl
 | z :: r=>by
  have:=qG r
  simp only[li,Aj,fL]at this ⊢;simp[this,asI]
theorem aEz {xs:List D}{k:Nat}{d:D}(h:xs[k]?=some d):atI xs (k:Int)=some d:=by
 have hk:=(Aw.mp h).1;have hn:¬ (k:Int)<0:=by omega
 unfold atI ixN;rw[if_pos (by omega),if_pos (by omega)]
 simpa using h
theorem zY:∀ xs:List Int,lY (li xs)=some (xs.map .int)
 | []=>rfl
 | x :: r=>by
  have:=zY r
  simp only[li]at this;simp[li,lY,fY,this]
theorem oV:∀ t:List (List Int),lY (lil t)=some (t.map fun xs=>.list (xs.map .int))
 | []=>rfl
 | x :: r=>by
  have a:=oV r;have b:=zY x;simp only[lil]at a;simp[lil,lY,fY,a,b]
theorem vN:∀ xs ys:List Int,PyData.eqvAll (xs.map .int) (ys.map .int)=decide (xs=ys)
 | [],[]=>by (simp[PyData.eqvAll])
 | [],_ :: _=>by (simp[PyData.eqvAll])
 | _ :: _,[]=>by (simp[PyData.eqvAll])
 | x :: r,y :: s=>by
  have ih:=vN r s;simp only[Aj,PyData.eqvAll,PyData.eqv,ih];by_cases h:x=y<;>by_cases h2:r=s<;>simp[h,h2]
theorem uW:∀ xs ys:List (List Int),PyData.eqvAll (xs.map fun r=>.list (r.map .int)) (ys.map fun r=>.list (r.map .int))=decide (xs=ys)
 | [],[]=>by (simp[PyData.eqvAll])
 | [],_ :: _=>by (simp[PyData.eqvAll])
 | _ :: _,[]=>by (simp[PyData.eqvAll])
 | x :: r,y :: s=>by
  have ih:=uW r s;simp only[Aj,PyData.eqvAll,PyData.eqv,ih,vN];by_cases h:x=y<;>by_cases h2:r=s<;>simp[h,h2]
theorem sV:∀ t:List (List Int),PyData.depthAll (t.map fun r=>.list (r.map .int))<=2
 | []=>De _
 | x :: r=>by
  have h1:=sV r;have h2:=PySem.W.depthAll_ints x;simp only[PyData.depth,Aj,PyData.depthAll];omega
theorem yZ:∀ t:List (List Int),PyData.canLayAll0 (t.map fun r=>.list (r.map .int))=true
 | []=>rfl
 | x :: r=>by
  have h1:=yZ r;have h2:=PySem.W.canLayAll0_ints x;simp only[Aj,PyData.canLayAll0,PyData.canLay0,h1,h2,Bool.and_true]
theorem aAu (t:List (List Int)):SeqAt.shaped (.list (t.map fun r=>.list (r.map .int)))=true:=by
 have h1:=sV t;have h3:=yZ t;unfold SeqAt.shaped;rw[Ed];refine⟨by simpa only[PyData.canLay0] using h3,decide_eq_true ?_⟩
 simp only[PyData.depth];omega
theorem zQ (xs ys:List (List Int)):nF (.lst (lil xs)) (.lst (lil ys))=.ok (decide (xs=ys)):=by
 have a:=oV xs;have b:=oV ys;have e1:fY (.lst (lil xs))=some (.list (xs.map fun r=>.list (r.map .int))):=by simp only[fY,a,Ev]
 have e2:fY (.lst (lil ys))=some (.list (ys.map fun r=>.list (r.map .int))):=by simp only[fY,b,Ev]
 unfold nF;rw[e1,e2];simp only[aAu,Bool.and_self,if_true,PyData.eqv,uW]
theorem eF {f:FE}{ρ:Mir.Env}{k:Kd}{fr:Bool}{ds:List D}(h:f ρ=.ok ⟨k,fr,.lst ds⟩):bJ f ρ=.ok (sc (.int ds.length)):=by simp only[bJ,h,R.ok_bind,asS]
theorem fA {f:FE}{ρ:Mir.Env}{k:Kd}{fr:Bool}{ds:List D}(h:f ρ=.ok ⟨k,fr,.lst ds⟩):bV f ρ=.ok ⟨k != .own,fr,ds⟩:=by simp only[bV,h,R.ok_bind,asL]
theorem rW {f g:FE}{ρ:Mir.Env}{k k':Kd}{fr fr':Bool}{i j:Int}(h1:f ρ=.ok ⟨k,fr,.int i⟩)(h2:g ρ=.ok ⟨k',fr',.int j⟩):neE f g ρ=.ok (sc (.bl (!decide (i=j)))):=by simp only[neE,h1,h2,R.ok_bind,aDg]
theorem jS {f g:FE}{ρ:Mir.Env}{k k':Kd}{fr fr':Bool}{i j:Int}(h1:f ρ=.ok ⟨k,fr,.int i⟩)(h2:g ρ=.ok ⟨k',fr',.int j⟩):eqE f g ρ=.ok (sc (.bl (decide (i=j)))):=by simp only[eqE,h1,h2,R.ok_bind,aDg]
theorem aRp {f g:FE}{ρ:Mir.Env}{r r':Res}{b:Bool}(h1:f ρ=.ok r)(h2:g ρ=.ok r')(h:nF r.d r'.d=.ok b):eqE f g ρ=.ok (sc (.bl b)):=by simp only[eqE,h1,h2,R.ok_bind,h]
theorem aTy {f g:FE}{ρ:Mir.Env}{r r':Res}{b:Bool}(h1:f ρ=.ok r)(h2:g ρ=.ok r')(h:nF r.d r'.d=.ok b):neE f g ρ=.ok (sc (.bl (!b))):=by simp only[neE,h1,h2,R.ok_bind,h]
theorem cW {G:Int->Int->Bool}{f g:FE}{ρ:Mir.Env}{k k':Kd}{fr fr':Bool}{i j:Int}(h1:f ρ=.ok ⟨k,fr,.int i⟩)(h2:g ρ=.ok ⟨k',fr',.int j⟩):aIu G f g ρ=.ok (sc (.bl (G i j))):=by simp only[aIu,h1,h2,R.ok_bind,asI]
theorem aV {C:Int->Int->Bool}{G:Int->Int->Int}{f g:FE}{ρ:Mir.Env}{k k':Kd}{fr fr':Bool}{i j:Int}(h1:f ρ=.ok ⟨k,fr,.int i⟩)(h2:g ρ=.ok ⟨k',fr',.int j⟩)(hc:C i j=true):i2E C G f g ρ=.ok (sc (.int (G i j))):=by
 simp only[i2E,h1,h2,R.ok_bind,asI,hc,if_true]
theorem aP3 {f:FE}{ρ:Mir.Env}{k:Kd}{fr:Bool}{zs:List Int}(h:f ρ=.ok ⟨k,fr,.lst (li zs)⟩):aE8 f ρ=.ok (sc (.int zs.sum)):=by simp only[aE8,h,R.ok_bind,asL,qG]
theorem aGh {f:FE}{ρ:Mir.Env}{x:Res}{j:Int}(h:f ρ=.ok x)(hx:x.d=.int j)(c:-(2^62)<=j/\j<2^62):dW f ρ=.ok ⟨true,true,kS 0 j.toNat⟩:=by
 simp only[dW,h,hx,asI,R.ok_bind];rw[if_pos c]
theorem kZ {f:FE}{ρ:Mir.Env}{k:Kd}{fr:Bool}{n:Nat}(h:f ρ=.ok ⟨k,fr,.int n⟩)(hn:(n:Int)<2^62):dW f ρ=.ok ⟨true,true,(Bf n).map fun (i:Nat)=>.int (i:Int)⟩ :=
 (aGh h rfl ⟨by omega,hn⟩).trans (by rw[Du,aRy])
theorem fT {f g:FE}{ρ:Mir.Env}{k k':Kd}{fr fr':Bool}{ds:List D}{i:Nat}{d:D}(h1:f ρ=.ok ⟨k,fr,.lst ds⟩)(h2:g ρ=.ok ⟨k',fr',.int i⟩)(h:ds[i]?=some d):aT f g ρ=.ok ⟨.shr,fr||d.imm,d⟩:=by
 simp only[aT,h1,h2,R.ok_bind,asS,asI,aEz h]
theorem eU {f g:FE}{ρ:Mir.Env}{k k':Kd}{fr fr':Bool}{ds:List D}{i:Nat}{z:Int}(h1:f ρ=.ok ⟨k,fr,.lst ds⟩)(h2:g ρ=.ok ⟨k',fr',.int i⟩)(h:ds[i]?=some (.int z)):aT f g ρ=.ok ⟨.shr,true,.int z⟩ :=
 (fT h1 h2 h).trans (by simp[D.imm])
end Mir
namespace Mir
open PySem L2
theorem kA {φ:Φ}{fs:FEs}{ρ:Mir.Env}{rs:List Res}{k:Kd}{d:D}{y:Bool×List D}(h:evs fs ρ=.ok rs)(hφ:φ (rs.map (·.d))=.ok ⟨k,false,d⟩)(hg:gives rs=.ok y):aL φ fs ρ=.ok ⟨if k=.shr then .shr else .tmp,y.1,d⟩:=by
 simp only[aL,h,R.ok_bind,hφ,Ep,if_false,hg]
theorem aFh (lo:Int)(n:Nat):kS lo (n+1)=.int lo :: kS (lo+1) n:=by
 unfold kS;simp only[Hi,Aj,Cn];congr 1
 · simp
 · apply Ct
   intro a _;simp only[Function.comp,D.int.injEq];push_cast
   omega
theorem wH {a b:FE}{ρ:Mir.Env}{x y:Res}{lo:Int}{m:Nat}(ha:a ρ=.ok x)(hx:x.d=.int lo)(hb:b ρ=.ok y)(hy:y.d=.int (lo+m))(h1:0<=lo)(h2:lo+m<2^62):gY a b ρ=.ok ⟨true,true,kS lo m⟩:=by
 have r1:-(2^62)<=lo/\lo<2^62/\-(2^62)<=lo+(m:Int)/\lo+(m:Int)<2^62:=by omega
 have r2:(lo+(m:Int)-lo).toNat=m:=by omega
 simp only[gY,ha,hb,hx,hy,asI,R.ok_bind];rw[if_pos r1,r2]
theorem tG {i:Nat}{f:FE}{ρ:Mir.Env}{fr fr':Bool}{ds:List D}{k:Kd}{d:D}(ho:ρ[i]?=some (some ⟨.own,fr,.lst ds⟩))(h:f ρ=.ok ⟨k,fr',d⟩)(hk:k≠.own)(hz:ds.length<sizeLine):jY i f ρ=.nx (ρ.set i (some ⟨.own,fr&&fr',.lst (ds++[d])⟩)):=by
 simp only[jY,nJ,ho,R.at,h,Res.give,if_neg hk,if_pos hz]
end Mir
namespace Mir
open PySem L2
theorem aA8 {α:Type}{tg:Tg}{b:FS}{fr:Bool}{inj out:α->D}{E:List D->Mir.Env->Prop}:∀ (xs:List α) (acc:List D) (ρ:Mir.Env),(∀ x∈xs,∀ acc ρ,acc.length<sizeLine->E acc ρ->∃ ρ1 ρ2,tg.bind fr (inj x) ρ=.ok ρ1/\b ρ1=.nx ρ2/\E (acc++[out x]) ρ2) ->
 acc.length+xs.length<=sizeLine->E acc ρ->∃ ρ',fZ tg b fr (xs.map inj) ρ=.nx ρ'/\E (acc++xs.map out) ρ'
 | [],acc,ρ,_,_,h=>⟨ρ,rfl,by simpa using h⟩
 | x :: r,acc,ρ,hs,hz,h=>by
  rw[Aq]at hz;obtain⟨ρ1,ρ2,h1,h2,h3⟩:=hs x Ad acc ρ (by omega) h
  obtain⟨ρ',h4,h5⟩:=aA8 r (acc++[out x]) ρ2 (fun y hy=>hs y (Ae _ hy)) (by rw[Al,Bn];omega) h3
  refine⟨ρ',?_,by simpa using h5⟩
  simp only[Aj,fZ,h1,R.at,h2];exact h4
theorem yG {α:Type}(f:α->D)(xs:List α):rV (xs.map f)=xs.zipIdx.map fun p=>.tup [.int p.2,f p.1]:=by
 unfold rV;rw[List.zipIdx_map,Cn];rfl
theorem nY {f:FE}{ρ:Mir.Env}{k:Kd}{fr:Bool}{i:Int}(h:f ρ=.ok ⟨k,fr,.int i⟩):soO f ρ=.ok (some i):=by simp only[soO,h,R.ok_bind,asI]
theorem kJ {f:FE}{lo hi:FO}{ρ:Mir.Env}{k:Kd}{fr:Bool}{ds:List D}{a b:Option Int}(h:f ρ=.ok ⟨k,fr,.lst ds⟩)(hl:lo ρ=.ok a)(hh:hi ρ=.ok b):fH f lo hi ρ=.ok ⟨.tmp,fr,.lst (uM ds a b)⟩:=by
 simp only[fH,h,hl,hh,R.ok_bind,asL]
theorem aCj {i:Nat}{j f:FE}{ρ:Mir.Env}{fr fr':Bool}{ds:List D}{k k':Kd}{f':Bool}{d:D}{z:Int}{n:Nat}(hf:f ρ=.ok ⟨k,fr',d⟩)(hk:k≠.own)(ho:ρ[i]?=some (some ⟨.own,fr,.lst ds⟩))(hj:j ρ=.ok ⟨k',f',.int z⟩)(hx:L2.ixN ds.length z=some n) :
 gH i j f ρ=.nx (ρ.set i (some ⟨.own,fr&&fr',.lst (ds.set n d)⟩)):=by
 simp only[gH,hf,R.at,Res.give,if_neg hk,nJ,ho,hj,asI,hx]
end Mir
namespace N12
open PySem L2 Mir
def top (i:Nat):Stmt:=PySem.Challenge.pw_flatmeet_k12_whole_one_frame_for_each_fl.main.body.getD i (.Pass ⟨0,0,0,0⟩)
structure Blt (mg:Str->Option Value):Prop where
 len_:mg "len" = none
 list_:mg "list" = none
 zip_:mg "zip" = none
 enumerate_:mg "enumerate" = none
 range_:mg "range" = none
 sum_:mg "sum" = none
 reversed_:mg "reversed" = none
 min_:mg "min" = none
 abs_:mg "abs" = none
 max_:mg "max" = none
 isinstance_:mg "isinstance" = none
 g_MOST_WAYS:∃ t,mg "MOST_WAYS" = some (.int 5 t)
section
variable {Pg:Program}{w:World}{K:PySem.W.Frag}{mg:Str->Option Value}{base:Heap}{k:Nat}{T:Addr}
abbrev oU:Stmt:=aDq (top 22) 0
theorem aM0:FnScope ("self" :: cL 0) ("self" :: cL 0) (aG oU):=⟨rfl,rfl,rfl,by decide +kernel,rfl,by decide +kernel,by decide +kernel⟩
theorem aPr (O:OC K 0){f:Addr}{fd:FuncData}(F:Fun K "__init__" "Flat.__init__" oU f fd):FnOk Pg w K mg base (CXM Pg w) 1 f fd ("self" :: cL 0) (spI K 0):=aRq F aM0 O fun cdv A outer s H E=>kL (rP (pv 0) (pv 1) rfl) (qL (rP (pv 0) (pv 2) rfl))
abbrev gJ:Stmt:=aDq (top 15) 0
theorem aB1:FnScope ("self" :: cL 1) ("self" :: cL 1) (aG gJ):=⟨rfl,rfl,rfl,by decide +kernel,rfl,by decide +kernel,by decide +kernel⟩
theorem aF2 (O:OC K 1){f:Addr}{fd:FuncData}(F:Fun K "__init__" "Cleared.__init__" gJ f fd):FnOk Pg w K mg base (CXM Pg w) 1 f fd ("self" :: cL 1) (spI K 1):=aS5 F aB1 O fun cdv A outer s H E=>kL (rP (pv 0) (pv 1) rfl) (kL (rP (pv 0) (pv 2) rfl) (qL (rP (pv 0) (pv 3) rfl)))
abbrev fU:Stmt:=top 7
theorem kD:FnScope ["one","other"] ["one","other"] (aG fU):=⟨rfl,rfl,rfl,by decide +kernel,rfl,by decide +kernel,by decide +kernel⟩
def uH:FS :=
 (ifS (bT (neE (bJ (vE 0)) (bJ (vE 1))))
  (aMc)
  cG)
def eQ:Φ:=bY 2 2 uH
theorem iN (B:Blt mg)  (F:bD K mg "check_alike" fU ["one","other"]):aH Pg w K mg base (CXM Pg w) (k+1) "check_alike" ["one","other"] (spM K (clK K) eQ):=by
 have nd:=kD.nd;refine cZ F kD fun f cdv A outer s H E hr=>?_
 have hu:=hr.units
 exact(aU (fK (rS hu (fM rfl B.len_ (m_v 0)) (fM rfl B.len_ (m_v 1)))
  (aU aHs)
  dP))
abbrev qA:Stmt:=top 8
theorem zW:FnScope ["one","other"] ["one","other"] (aG qA):=⟨rfl,rfl,rfl,by decide +kernel,rfl,by decide +kernel,by decide +kernel⟩
def aLx:FS :=
 (aI (kP (aL eQ [vE 0,vE 1]))
 (bS (aQ8 (vE 0) (vE 1))))
def gG:Φ:=bY 2 2 aLx
theorem jE (B:Blt mg)(iN:aH Pg w K mg base (CXM Pg w) k "check_alike" ["one","other"] (spM K (clK K) eQ))(F:bD K mg "pairs" qA ["one","other"]):aH Pg w K mg base (CXM Pg w) (k+1) "pairs" ["one","other"] (spM K (clK K) gG):=by
 have nd:=zW.nd;refine cZ F zW fun f cdv A outer s H E hr=>?_
 have hu:=hr.units
 exact(aE (aCd (bM iN hr rfl fB (aA (m_v 0) (aA (m_v 1) aQ))))
  (aU (eM (aRu rfl rfl B.list_ rfl B.zip_ (m_v 0) (m_v 1)))))
abbrev fS:Stmt:=top 9
theorem kQ:FnScope ["many"] ["many"] (aG fS):=⟨rfl,rfl,rfl,by decide +kernel,rfl,by decide +kernel,by decide +kernel⟩
def uJ:FS :=
 (ifS (orT (bT (ltE (vE 0) (cE (.int 1)))) (bT (gtE (vE 0) (cE (.int 5)))))
  (aMc)
  cG)
def eS:Φ:=bY 1 1 uJ
theorem iK (B:Blt mg)  (F:bD K mg "check_count" fS ["many"]):aH Pg w K mg base (CXM Pg w) (k+1) "check_count" ["many"] (spM K (clK K) eS):=by
 have nd:=kQ.nd;refine cZ F kQ fun f cdv A outer s H E hr=>?_
 have hu:=hr.units
 exact(aU (fK (PW.pt (aDb (pJ (m_v 0) aD) (wT (pO (m_v 0) (aPg rfl B.g_MOST_WAYS)))))
  (aU aHs)
  dP))
abbrev gD:Stmt:=top 10
theorem lS:FnScope ["many","rows","place","row"] ["many","rows"] (aG gD):=⟨rfl,rfl,rfl,by decide +kernel,rfl,by decide +kernel,by decide +kernel⟩
def yE:FS :=
 (aI (kP (aL eS [vE 0]))
 (dY (mU (vE 1)) (.tp [.nm 2,.nm 3])
  (ifS (bT (neE (bJ (vE 3)) (vE 0)))
   (aMc)
   cG)))
def fN:Φ:=bY 2 4 yE
theorem jM (B:Blt mg)(iK:aH Pg w K mg base (CXM Pg w) k "check_count" ["many"] (spM K (clK K) eS))(F:bD K mg "check_rows" gD ["many","rows"]):aH Pg w K mg base (CXM Pg w) (k+1) "check_rows" ["many","rows"] (spM K (clK K) fN):=by
 have nd:=lS.nd;refine cZ F lS fun f cdv A outer s H E hr=>?_
 have hu:=hr.units
 exact(aE (aCd (bM iK hr rfl fB (aA (m_v 0) aQ)))
  (aU (jU iO rfl (xO rfl B.enumerate_ (m_v 1)) (jV rfl (bH (bB nd rfl (Or.inl rfl)) (bH (bB nd rfl (Or.inl rfl)) eV)))
   (aU (fK (rS hu (fM rfl B.len_ (m_v 3)) (m_v 0))
    (aU aHs)
    dP)))))
abbrev qY:Stmt:=top 11
theorem aBg:FnScope ["many"] ["many"] (aG qY):=⟨rfl,rfl,rfl,by decide +kernel,rfl,by decide +kernel,by decide +kernel⟩
def aLm:FS :=
 (bS (aS (dW (vE 0)) 1 [0] (.nm 0) (bE (aS (dW (vE 1)) 1 [0] (.nm 0) (bE (ifE (bT (eqE (vE 0) (vE 1))) (cE (.int 1)) (cE (.int 0))))))))
def nG:Φ:=bY 1 1 aLm
theorem wV (B:Blt mg)  (F:bD K mg "units" qY ["many"]):aH Pg w K mg base (CXM Pg w) (k+1) "units" ["many"] (spM K (clK K) nG):=by
 have nd:=aBg.nd;refine cZ F aBg fun f cdv A outer s H E hr=>?_
 have hu:=hr.units;exact(aU (eM (cO rfl (aR (XN:=["many"]) (N:=["place","many"]) (k:=1) (fs:=[0]) rfl rfl rfl (by decide +kernel)) (kY rfl B.range_ (m_v 0)) (fun _ _ _=>(bB (show (["place","many"]:List Str).Nodup by decide +kernel) rfl (Or.inr rfl))) (fF rfl) (fun _ _ _=>bU (cO rfl (lI (N:=["way","place"]) (k:=1) (fs:=[0]) (aR (XN:=["many"]) (N:=["place","many"]) (k:=1) (fs:=[0]) rfl rfl rfl (by decide +kernel)) (by decide +kernel)) (kY rfl B.range_ (m_v 1)) (fun _ _ _=>(bB (show (["way","place"]:List Str).Nodup by decide +kernel) rfl (Or.inl rfl))) (fF rfl) (fun _ _ _=>bU (aUv (jT hu (m_v 0) (m_v 1)) aD aD)))))))
abbrev qS:Stmt:=top 12
theorem yW:FnScope ["width","often","rows","told","many","row"] ["width","often","rows"] (aG qS):=⟨rfl,rfl,rfl,by decide +kernel,rfl,by decide +kernel,by decide +kernel⟩
def aK8:FS :=
 (aI (aC 3 (yO (cF [cE (.int 0)]) (vE 0)))
 (aI (cN 2 (cN 1 (dY (bV (aL gG [vE 1,vE 2])) (.tp [.nm 4,.nm 5])
  (aC 3 (aS (mI (vE 3) (vE 5)) 2 [4] (.tp [.nm 0,.nm 1]) (bE (cR (vE 0) (bP (vE 2) (vE 1)))))))))
 (bS (vE 3))))
def jP:Φ:=bY 3 6 aK8
theorem nA (B:Blt mg)(jE:aH Pg w K mg base (CXM Pg w) k "pairs" ["one","other"] (spM K (clK K) gG))(F:bD K mg "mixed" qS ["width","often","rows"]):aH Pg w K mg base (CXM Pg w) (k+1) "mixed" ["width","often","rows"] (spM K (clK K) jP):=by
 have nd:=yW.nd;refine cZ F yW fun f cdv A outer s H E hr=>?_
 have hu:=hr.units
 exact(aE (bF (i:=3) nd rfl (Or.inl rfl) (aOa (iW (aA aD aQ)) (m_v 0)))
  (aE (iS (i:=2) (iS (i:=1) (jU iO rfl (dF (bM jE hr rfl fB (aA (m_v 1) (aA (m_v 2) aQ)))) (jV rfl (bH (bB nd rfl (Or.inr rfl)) (bH (bB nd rfl (Or.inl rfl)) eV)))
   (aU (oX (i:=3) rfl nd rfl rfl (aR (XN:=["width","often","rows","told","many","row"]) (N:=["before","number","many"]) (k:=2) (fs:=[4]) rfl rfl rfl (by decide +kernel)) (oR rfl rfl B.zip_ (m_v 3) (m_v 5)) (fun _ _ _=>(jV rfl (bH (bB (show (["before","number","many"]:List Str).Nodup by decide +kernel) rfl (Or.inl rfl)) (bH (bB (show (["before","number","many"]:List Str).Nodup by decide +kernel) rfl (Or.inl rfl)) eV)))) (fF rfl) (fun _ _ _=>bU (iG (m_v 0) (fJ (m_v 2) (m_v 1)))))))))
  (aU (eM (m_v 3)))))
abbrev oK:Stmt:=top 13
theorem wD:FnScope ["one","other","first","second","often","rest"] ["one","other"] (aG oK):=⟨rfl,rfl,rfl,by decide +kernel,rfl,by decide +kernel,by decide +kernel⟩
def aHw:FS :=
 (aI (aC 2 (cF [vE 0,cE (.int 1),cE (.int 0)]))
 (aI (aC 3 (cF [vE 1,cE (.int 0),cE (.int 1)]))
 (aI (aRc (bT (neE (aT (vE 3) (cE (.int 0))) (cE (.int 0))))
  (aI (aC 4 (aBo (aT (vE 2) (cE (.int 0))) (aT (vE 3) (cE (.int 0)))))
  (aI (aC 5 (aS (mI (vE 2) (vE 3)) 2 [4] (.tp [.nm 0,.nm 1]) (bE (fR (vE 0) (bP (vE 2) (vE 1))))))
  (aI (cN 3 (aC 2 (vE 3)))
  (cN 5 (aC 3 (vE 5)))))))
 (aI (ifS (bT (ltE (aT (vE 2) (cE (.int 0))) (cE (.int 0))))
  (aC 2 (aS (bV (vE 2)) 1 [] (.nm 0) (bE (dB (vE 0)))))
  cG)
 (bS (vE 2))))))
def kC:Φ:=bY 2 6 aHw
theorem uB (B:Blt mg)  (F:bD K mg "bezout" oK ["one","other"]):aH Pg w K mg base (CXM Pg w) (k+1) "bezout" ["one","other"] (spM K (clK K) kC):=by
 have nd:=wD.nd;refine cZ F wD fun f cdv A outer s H E hr=>?_
 have hu:=hr.units
 exact(aE (bF (i:=2) nd rfl (Or.inl rfl) (iW (aA (m_v 0) (aA aD (aA aD aQ)))))
  (aE (bF (i:=3) nd rfl (Or.inl rfl) (iW (aA (m_v 1) (aA aD (aA aD aQ)))))
  (aE (aUa iO (rS hu (bQ (m_v 3) aD) aD)
   (aE (bF (i:=4) nd rfl (Or.inr rfl) (aNg (bQ (m_v 2) aD) (bQ (m_v 3) aD)))
   (aE (oX (i:=5) rfl nd rfl rfl (aR (XN:=["one","other","first","second","often","rest"]) (N:=["left","right","often"]) (k:=2) (fs:=[4]) rfl rfl rfl (by decide +kernel)) (oR rfl rfl B.zip_ (m_v 2) (m_v 3)) (fun _ _ _=>(jV rfl (bH (bB (show (["left","right","often"]:List Str).Nodup by decide +kernel) rfl (Or.inl rfl)) (bH (bB (show (["left","right","often"]:List Str).Nodup by decide +kernel) rfl (Or.inl rfl)) eV)))) (fF rfl) (fun _ _ _=>bU (pS (m_v 0) (fJ (m_v 2) (m_v 1)))))
   (aE (iS (i:=3) (bF (i:=2) nd rfl (Or.inl rfl) (m_v 3)))
   (aU (iS (i:=5) (bF (i:=3) nd rfl (Or.inl rfl) (m_v 5))))))))
  (aE (fK (pJ (bQ (m_v 2) aD) aD)
   (aU (oX (i:=2) rfl nd rfl rfl (aR (XN:=["one","other","first","second","often","rest"]) (N:=["number"]) (k:=1) (fs:=[]) rfl rfl rfl (by decide +kernel)) (dF (m_v 2)) (fun _ _ _=>(bB (show (["number"]:List Str).Nodup by decide +kernel) rfl (Or.inl rfl))) (fF rfl) (fun _ _ _=>bU (lR (m_v 0)))))
   dP)
  (aU (eM (m_v 2)))))))
abbrev qR:Stmt:=top 14
theorem yR:FnScope ["rows","top","way","bottom","chosen","head","told","place","row"] ["rows","top","way","bottom"] (aG qR):=⟨rfl,rfl,rfl,by decide +kernel,rfl,by decide +kernel,by decide +kernel⟩
def aLi:FS :=
 (aI (aC 4 (aT (vE 0) (vE 1)))
 (aI (aC 5 (aT (vE 4) (vE 2)))
 (aI (aC 6 (cF []))
 (aI (cN 0 (dY (mU (vE 0)) (.tp [.nm 7,.nm 8])
  (ifS (bT (eqE (vE 7) (vE 1)))
   (cN 4 (jY 6 (vE 4)))
   (jY 6 (aS (mI (vE 8) (vE 4)) 2 [3,5,8,2] (.tp [.nm 0,.nm 1]) (bE (aBo (fR (bP (vE 3) (vE 0)) (bP (aT (vE 4) (vE 5)) (vE 1))) (vE 2))))))))
 (bS (vE 6))))))
def nV:Φ:=bY 4 9 aLi
theorem xD (B:Blt mg)  (F:bD K mg "swept" qR ["rows","top","way","bottom"]):aH Pg w K mg base (CXM Pg w) (k+1) "swept" ["rows","top","way","bottom"] (spM K (clK K) nV):=by
 have nd:=yR.nd;refine cZ F yR fun f cdv A outer s H E hr=>?_
 have hu:=hr.units
 exact(aE (bF (i:=4) nd rfl (Or.inl rfl) (bQ (m_v 0) (m_v 1)))
  (aE (bF (i:=5) nd rfl (Or.inr rfl) (bQ (m_v 4) (m_v 2)))
  (aE (bF (i:=6) nd rfl (Or.inl rfl) (iW aQ))
  (aE (iS (i:=0) (jU iO rfl (xO rfl B.enumerate_ (m_v 0)) (jV rfl (bH (bB nd rfl (Or.inl rfl)) (bH (bB nd rfl (Or.inr rfl)) eV)))
   (aU (fK (jT hu (m_v 7) (m_v 1))
    (aU (iS (i:=4) (aEu (i:=6) rfl (Or.inl rfl) (m_v 4))))
    (aU (aEu (i:=6) rfl (Or.inl rfl) (cO rfl (aR (XN:=["rows","top","way","bottom","chosen","head","told","place","row"]) (N:=["left","right","bottom","head","row","way"]) (k:=2) (fs:=[3,5,8,2]) rfl rfl rfl (by decide +kernel)) (oR rfl rfl B.zip_ (m_v 8) (m_v 4)) (fun _ _ _=>(jV rfl (bH (bB (show (["left","right","bottom","head","row","way"]:List Str).Nodup by decide +kernel) rfl (Or.inl rfl)) (bH (bB (show (["left","right","bottom","head","row","way"]:List Str).Nodup by decide +kernel) rfl (Or.inl rfl)) eV)))) (fF rfl) (fun _ _ _=>bU (aNg (pS (fJ (m_v 3) (m_v 0)) (fJ (bQ (m_v 4) (m_v 5)) (m_v 1))) (m_v 2))))))))))
  (aU (eM (m_v 6)))))))
abbrev lF:Stmt:=top 16
theorem rY:FnScope ["many","rows","lines","heads","bottom","way","top","found"] ["many","rows"] (aG lF):=⟨rfl,rfl,rfl,by decide +kernel,rfl,by decide +kernel,by decide +kernel⟩
def aFt:FS :=
 (aI (aC 2 (aS (bV (vE 1)) 1 [] (.nm 0) (bE (tH (vE 0)))))
 (aI (aC 3 (cF []))
 (aI (aC 4 (cE (.int 1)))
 (aI (dY (dW (vE 0)) (.nm 5)
  (aI (aC 6 (bJ (vE 3)))
  (aI (aC 7 (aS (gY (vE 6) (bJ (vE 2))) 1 [5,2] (.nm 0) (Mir.bIf (bT (neE (aT (aT (vE 2) (vE 0)) (vE 1)) (cE (.int 0)))) (vE 0))))
  (ifS (aJr (vE 7))
   (aI (aC 2 (kG (kG (kG (fH (vE 2) (noO) (soO (vE 6))) (cF [aT (vE 2) (aT (vE 7) (cE (.int 0)))])) (fH (vE 2) (soO (vE 6)) (soO (aT (vE 7) (cE (.int 0)))))) (fH (vE 2) (soO (cR (aT (vE 7) (cE (.int 0))) (cE (.int 1)))) (noO))))
   (aI (cN 2 (aC 2 (aL nV [vE 2,vE 6,vE 5,vE 4])))
   (aI (aC 4 (aT (aT (vE 2) (vE 6)) (vE 5)))
   (jY 3 (vE 5)))))
   cG))))
 (aI (ifS (bT (ltE (vE 4) (cE (.int 0))))
  (cN 3 (bS (nI 1 [dB (vE 4),vE 3,aS (bV (vE 2)) 1 [] (.nm 0) (bE (aS (bV (vE 0)) 1 [] (.nm 0) (bE (dB (vE 0)))))])))
  cG)
 (cN 2 (cN 3 (bS (nI 1 [vE 4,vE 3,vE 2])))))))))
def jC:Φ:=bY 2 8 aFt
theorem oP (B:Blt mg)(O1:OC K 1)(U1:vO Pg w K mg base 1 1)(hk:2<=k)(xD:aH Pg w K mg base (CXM Pg w) k "swept" ["rows","top","way","bottom"] (spM K (clK K) nV))(F:bD K mg "cleared" lF ["many","rows"]):aH Pg w K mg base (CXM Pg w) (k+1) "cleared" ["many","rows"] (spM K (clK K) jC):=by
 have nd:=rY.nd;refine cZ F rY fun f cdv A outer s H E hr=>?_
 have hu:=hr.units
 exact(aE (bF (i:=2) nd rfl (Or.inr rfl) (cO rfl (aR (XN:=["many","rows","lines","heads","bottom","way","top","found"]) (N:=["row"]) (k:=1) (fs:=[]) rfl rfl rfl (by decide +kernel)) (dF (m_v 1)) (fun _ _ _=>(bB (show (["row"]:List Str).Nodup by decide +kernel) rfl (Or.inl rfl))) (fF rfl) (fun _ _ _=>bU (aHl rfl B.list_ (m_v 0)))))
  (aE (bF (i:=3) nd rfl (Or.inl rfl) (iW aQ))
  (aE (bF (i:=4) nd rfl (Or.inl rfl) aD)
  (aE (jU iO rfl (kY rfl B.range_ (m_v 0)) (bB nd rfl (Or.inr rfl))
   (aE (bF (i:=6) nd rfl (Or.inl rfl) (fM rfl B.len_ (m_v 3)))
   (aE (oX (i:=7) rfl nd rfl rfl (aR (XN:=["many","rows","lines","heads","bottom","way","top","found"]) (N:=["place","way","lines"]) (k:=1) (fs:=[5,2]) rfl rfl rfl (by decide +kernel)) (qW rfl B.range_ (m_v 6) (fM rfl B.len_ (m_v 2))) (fun _ _ _=>(bB (show (["place","way","lines"]:List Str).Nodup by decide +kernel) rfl (Or.inl rfl))) (fF rfl) (fun _ _ _=>aSq (rS hu (bQ (bQ (m_v 2) (m_v 0)) (m_v 1)) aD) (m_v 0)))
   (aU (fK (aQr (m_v 7))
    (aE (bF (i:=2) nd rfl (Or.inr rfl) (uV (uV (uV (pQ (m_v 2) vJ (lT (m_v 6))) (iW (aA (bQ (m_v 2) (bQ (m_v 7) aD)) aQ))) (pQ (m_v 2) (lT (m_v 6)) (lT (bQ (m_v 7) aD)))) (pQ (m_v 2) (lT (iG (bQ (m_v 7) aD) aD)) vJ)))
    (aE (iS (i:=2) (bF (i:=2) nd rfl (Or.inr rfl) (bM xD hr rfl fB (aA (m_v 2) (aA (m_v 6) (aA (m_v 5) (aA (m_v 4) aQ)))))))
    (aE (bF (i:=4) nd rfl (Or.inl rfl) (bQ (bQ (m_v 2) (m_v 6)) (m_v 5)))
    (aU (aEu (i:=3) rfl (Or.inl rfl) (m_v 5))))))
    dP)))))
  (aE (fK (pJ (m_v 4) aD)
   (aU (iS (i:=3) (eM (aGj (c:=1) U1 (hr.mono hk) rfl (aA (lR (m_v 4)) (aA (m_v 3) (aA (cO rfl (aR (XN:=["many","rows","lines","heads","bottom","way","top","found"]) (N:=["line"]) (k:=1) (fs:=[]) rfl rfl rfl (by decide +kernel)) (dF (m_v 2)) (fun _ _ _=>(bB (show (["line"]:List Str).Nodup by decide +kernel) rfl (Or.inl rfl))) (fF rfl) (fun _ _ _=>bU (cO rfl (lI (N:=["number"]) (k:=1) (fs:=[]) (aR (XN:=["many","rows","lines","heads","bottom","way","top","found"]) (N:=["line"]) (k:=1) (fs:=[]) rfl rfl rfl (by decide +kernel)) (by decide +kernel)) (dF (m_v 0)) (fun _ _ _=>(bB (show (["number"]:List Str).Nodup by decide +kernel) rfl (Or.inl rfl))) (fF rfl) (fun _ _ _=>bU (lR (m_v 0)))))) aQ)))))))
   dP)
  (aU (iS (i:=2) (iS (i:=3) (eM (aGj (c:=1) U1 (hr.mono hk) rfl (aA (m_v 4) (aA (m_v 3) (aA (m_v 2) aQ)))))))))))))
abbrev yD:Stmt:=top 18
theorem aEk:FnScope ["one","other"] ["one","other"] (aG yD):=⟨rfl,rfl,rfl,by decide +kernel,rfl,by decide +kernel,by decide +kernel⟩
def aPq:FS :=
 (bS (aS (bV (aL gG [vE 0,vE 1])) 2 [] (.tp [.nm 0,.nm 1]) (bE (fR (vE 0) (vE 1)))))
def mB:Φ:=bY 2 2 aPq
theorem sG (B:Blt mg)(jE:aH Pg w K mg base (CXM Pg w) k "pairs" ["one","other"] (spM K (clK K) gG))(F:bD K mg "less" yD ["one","other"]):aH Pg w K mg base (CXM Pg w) (k+1) "less" ["one","other"] (spM K (clK K) mB):=by
 have nd:=aEk.nd;refine cZ F aEk fun f cdv A outer s H E hr=>?_
 have hu:=hr.units;exact(aU (eM (cO rfl (aR (XN:=["one","other"]) (N:=["left","right"]) (k:=2) (fs:=[]) rfl rfl rfl (by decide +kernel)) (dF (bM jE hr rfl fB (aA (m_v 0) (aA (m_v 1) aQ)))) (fun _ _ _=>(jV rfl (bH (bB (show (["left","right"]:List Str).Nodup by decide +kernel) rfl (Or.inl rfl)) (bH (bB (show (["left","right"]:List Str).Nodup by decide +kernel) rfl (Or.inl rfl)) eV)))) (fF rfl) (fun _ _ _=>bU (pS (m_v 0) (m_v 1))))))
abbrev qI:Stmt:=top 19
theorem aA4:FnScope ["row","many"] ["row","many"] (aG qI):=⟨rfl,rfl,rfl,by decide +kernel,rfl,by decide +kernel,by decide +kernel⟩
def aLv:FS :=
 (bS (aS (bV (vE 0)) 1 [1] (.nm 0) (bE (bP (vE 0) (vE 1)))))
def iD:Φ:=bY 2 2 aLv
theorem lM (B:Blt mg)  (F:bD K mg "times" qI ["row","many"]):aH Pg w K mg base (CXM Pg w) (k+1) "times" ["row","many"] (spM K (clK K) iD):=by
 have nd:=aA4.nd;refine cZ F aA4 fun f cdv A outer s H E hr=>?_
 have hu:=hr.units;exact(aU (eM (cO rfl (aR (XN:=["row","many"]) (N:=["number","many"]) (k:=1) (fs:=[1]) rfl rfl rfl (by decide +kernel)) (dF (m_v 0)) (fun _ _ _=>(bB (show (["number","many"]:List Str).Nodup by decide +kernel) rfl (Or.inl rfl))) (fF rfl) (fun _ _ _=>bU (fJ (m_v 0) (m_v 1))))))
abbrev lK:Stmt:=top 20
theorem tZ:FnScope ["one","other"] ["one","other"] (aG lK):=⟨rfl,rfl,rfl,by decide +kernel,rfl,by decide +kernel,by decide +kernel⟩
def aF5:FS :=
 (bS (aE8 (aS (bV (aL gG [vE 0,vE 1])) 2 [] (.tp [.nm 0,.nm 1]) (bE (bP (vE 0) (vE 1))))))
def iV:Φ:=bY 2 2 aF5
theorem oS (B:Blt mg)(jE:aH Pg w K mg base (CXM Pg w) k "pairs" ["one","other"] (spM K (clK K) gG))(F:bD K mg "weighed" lK ["one","other"]):aH Pg w K mg base (CXM Pg w) (k+1) "weighed" ["one","other"] (spM K (clK K) iV):=by
 have nd:=tZ.nd;refine cZ F tZ fun f cdv A outer s H E hr=>?_
 have hu:=hr.units;exact(aU (eM (aUc rfl rfl B.sum_ (cO rfl (aR (XN:=["one","other"]) (N:=["left","right"]) (k:=2) (fs:=[]) rfl rfl rfl (by decide +kernel)) (dF (bM jE hr rfl fB (aA (m_v 0) (aA (m_v 1) aQ)))) (fun _ _ _=>(jV rfl (bH (bB (show (["left","right"]:List Str).Nodup by decide +kernel) rfl (Or.inl rfl)) (bH (bB (show (["left","right"]:List Str).Nodup by decide +kernel) rfl (Or.inl rfl)) eV)))) (fF rfl) (fun _ _ _=>bU (fJ (m_v 0) (m_v 1)))))))
abbrev jN:Stmt:=top 23
theorem pI:FnScope ["shares","weights","whole","told","least","maker","share","weight","found","common"] ["shares","weights","whole"] (aG jN):=⟨rfl,rfl,rfl,by decide +kernel,rfl,by decide +kernel,by decide +kernel⟩
def aBv:FS :=
 (aI (aC 3 (cF []))
 (aI (aC 4 (vE 2))
 (aI (aC 5 (yO (cF [cE (.int 0)]) (bJ (vE 1))))
 (aI (cN 0 (dY (aCx (vE 0)) (.nm 6)
  (aI (aC 7 (bW (aL iV [vE 6,vE 1]) (vE 2)))
  (aI (aC 8 (aL kC [vE 7,vE 4]))
  (aI (aC 9 (aT (vE 8) (cE (.int 0))))
  (aI (aC 3 (kG (cF [aL mB [aL iD [vE 6,cH (vE 4) (vE 9)],aL iD [vE 5,cH (vE 7) (vE 9)]]]) (vE 3)))
  (aI (cN 5 (cN 6 (aC 5 (aL jP [bJ (vE 1),fH (vE 8) (soO (cE (.int 1))) (noO),cF [vE 6,vE 5]]))))
  (aC 4 (vE 9)))))))))
 (bS (vE 3))))))
def hU:Φ:=bY 3 10 aBv
theorem mN (B:Blt mg)(oS:aH Pg w K mg base (CXM Pg w) k "weighed" ["one","other"] (spM K (clK K) iV))(uB:aH Pg w K mg base (CXM Pg w) k "bezout" ["one","other"] (spM K (clK K) kC))(sG:aH Pg w K mg base (CXM Pg w) k "less" ["one","other"] (spM K (clK K) mB))(lM:aH Pg w K mg base (CXM Pg w) k "times" ["row","many"] (spM K (clK K) iD))(nA:aH Pg w K mg base (CXM Pg w) k "mixed" ["width","often","rows"] (spM K (clK K) jP))(F:bD K mg "narrowed" jN ["shares","weights","whole"]):aH Pg w K mg base (CXM Pg w) (k+1) "narrowed" ["shares","weights","whole"] (spM K (clK K) hU):=by
 have nd:=pI.nd;refine cZ F pI fun f cdv A outer s H E hr=>?_
 have hu:=hr.units
 exact(aE (bF (i:=3) nd rfl (Or.inl rfl) (iW aQ))
  (aE (bF (i:=4) nd rfl (Or.inl rfl) (m_v 2))
  (aE (bF (i:=5) nd rfl (Or.inl rfl) (aOa (iW (aA aD aQ)) (fM rfl B.len_ (m_v 1))))
  (aE (iS (i:=0) (jU iO rfl (aO6 rfl B.reversed_ (m_v 0)) (bB nd rfl (Or.inl rfl))
   (aE (bF (i:=7) nd rfl (Or.inl rfl) (fP (bM oS hr rfl fB (aA (m_v 6) (aA (m_v 1) aQ))) (m_v 2)))
   (aE (bF (i:=8) nd rfl (Or.inl rfl) (bM uB hr rfl fB (aA (m_v 7) (aA (m_v 4) aQ))))
   (aE (bF (i:=9) nd rfl (Or.inl rfl) (bQ (m_v 8) aD))
   (aE (bF (i:=3) nd rfl (Or.inl rfl) (uV (iW (aA (bM sG hr rfl fB (aA (bM lM hr rfl fB (aA (m_v 6) (aA (hJ (m_v 4) (m_v 9)) aQ))) (aA (bM lM hr rfl fB (aA (m_v 5) (aA (hJ (m_v 7) (m_v 9)) aQ))) aQ))) aQ)) (m_v 3)))
   (aE (iS (i:=5) (iS (i:=6) (bF (i:=5) nd rfl (Or.inl rfl) (bM nA hr rfl fB (aA (fM rfl B.len_ (m_v 1)) (aA (pQ (m_v 8) (lT aD) vJ) (aA (iW (aA (m_v 6) (aA (m_v 5) aQ))) aQ)))))))
   (aU (bF (i:=4) nd rfl (Or.inl rfl) (m_v 9))))))))))
  (aU (eM (m_v 3)))))))
abbrev oI:Stmt:=top 24
theorem vV:FnScope ["shares","told","place","way","often"] ["shares"] (aG oI):=⟨rfl,rfl,rfl,by decide +kernel,rfl,by decide +kernel,by decide +kernel⟩
def aIs:FS :=
 (aI (aC 1 (tH (vE 0)))
 (aI (dY (xW (fR (bJ (vE 0)) (cE (.int 1))) (dB (cE (.int 1))) (dB (cE (.int 1)))) (.nm 2)
  (dY (gY (cR (vE 2) (cE (.int 1))) (bJ (vE 0))) (.nm 3)
   (aI (aC 4 (cH (aT (aT (vE 1) (vE 2)) (vE 3)) (aT (aT (vE 1) (vE 3)) (vE 3))))
   (gH 1 (vE 2) (aL mB [aT (vE 1) (vE 2),aL iD [aT (vE 1) (vE 3),vE 4]])))))
 (bS (vE 1))))
def kM:Φ:=bY 1 5 aIs
theorem tX (B:Blt mg)(sG:aH Pg w K mg base (CXM Pg w) k "less" ["one","other"] (spM K (clK K) mB))(lM:aH Pg w K mg base (CXM Pg w) k "times" ["row","many"] (spM K (clK K) iD))(F:bD K mg "tidied" oI ["shares"]):aH Pg w K mg base (CXM Pg w) (k+1) "tidied" ["shares"] (spM K (clK K) kM):=by
 have nd:=vV.nd;refine cZ F vV fun f cdv A outer s H E hr=>?_
 have hu:=hr.units
 exact(aE (bF (i:=1) nd rfl (Or.inl rfl) (aHl rfl B.list_ (m_v 0)))
  (aE (jU iO rfl (aOs rfl B.range_ (pS (fM rfl B.len_ (m_v 0)) aD) (lR aD) (lR aD)) (bB nd rfl (Or.inl rfl))
   (aU (jU iO rfl (qW rfl B.range_ (iG (m_v 2) aD) (fM rfl B.len_ (m_v 0))) (bB nd rfl (Or.inl rfl))
    (aE (bF (i:=4) nd rfl (Or.inl rfl) (hJ (bQ (bQ (m_v 1) (m_v 2)) (m_v 3)) (bQ (bQ (m_v 1) (m_v 3)) (m_v 3))))
    (aU (aDi (i:=1) rfl (Or.inl rfl) (m_v 2) (bM sG hr rfl fB (aA (bQ (m_v 1) (m_v 2)) (aA (bM lM hr rfl fB (aA (bQ (m_v 1) (m_v 3)) (aA (m_v 4) aQ))) aQ)))))))))
  (aU (eM (m_v 1)))))
abbrev dL:Stmt:=top 25
theorem gB:FnScope ["many","found","lines","shares","way"] ["many","found"] (aG dL):=⟨rfl,rfl,rfl,by decide +kernel,rfl,by decide +kernel,by decide +kernel⟩
def mS:FS :=
 (aI (aC 2 (aS (bV (fH (eH 1 2 (vE 1)) (noO) (soO (bJ (eH 1 1 (vE 1)))))) 1 [0] (.nm 0) (bE (fH (vE 0) (noO) (soO (vE 1))))))
 (aI (aC 3 (aL nG [bJ (vE 2)]))
 (aI (dY (dW (vE 0)) (.nm 4)
  (ifS (bT (inE true (vE 4) (eH 1 1 (vE 1))))
   (aC 3 (aL kM [aL hU [vE 3,aS (bV (vE 2)) 1 [4] (.nm 0) (bE (aT (vE 0) (vE 1))),eH 1 0 (vE 1)]]))
   cG))
 (bS (aS (bV (vE 3)) 1 [1,0,2] (.nm 0) (bE (aS (bV (aL jP [vE 2,vE 0,vE 3])) 1 [1] (.nm 0) (bE (cH (vE 0) (eH 1 0 (vE 1)))))))))))
def cP:Φ:=bY 2 5 mS
theorem eX (B:Blt mg)(O1:OC K 1)  (wV:aH Pg w K mg base (CXM Pg w) k "units" ["many"] (spM K (clK K) nG))(tX:aH Pg w K mg base (CXM Pg w) k "tidied" ["shares"] (spM K (clK K) kM))(mN:aH Pg w K mg base (CXM Pg w) k "narrowed" ["shares","weights","whole"] (spM K (clK K) hU))(nA:aH Pg w K mg base (CXM Pg w) k "mixed" ["width","often","rows"] (spM K (clK K) jP))(F:bD K mg "frame_of_cleared" dL ["many","found"]):aH Pg w K mg base (CXM Pg w) (k+1) "frame_of_cleared" ["many","found"] (spM K (clK K) cP):=by
 have nd:=gB.nd;refine cZ F gB fun f cdv A outer s H E hr=>?_
 have hu:=hr.units
 exact(aE (bF (i:=2) nd rfl (Or.inr rfl) (cO rfl (aR (XN:=["many","found","lines","shares","way"]) (N:=["line","many"]) (k:=1) (fs:=[0]) rfl rfl rfl (by decide +kernel)) (dF (pQ (nQ (c:=1) (i:=2) O1 (m_v 1)) vJ (lT (fM rfl B.len_ (nQ (c:=1) (i:=1) O1 (m_v 1)))))) (fun _ _ _=>(bB (show (["line","many"]:List Str).Nodup by decide +kernel) rfl (Or.inl rfl))) (fF rfl) (fun _ _ _=>bU (pQ (m_v 0) vJ (lT (m_v 1))))))
  (aE (bF (i:=3) nd rfl (Or.inl rfl) (bM wV hr rfl fB (aA (fM rfl B.len_ (m_v 2)) aQ)))
  (aE (jU iO rfl (kY rfl B.range_ (m_v 0)) (bB nd rfl (Or.inr rfl))
   (aU (fK (aQt (m_v 4) (nQ (c:=1) (i:=1) O1 (m_v 1)))
    (aU (bF (i:=3) nd rfl (Or.inl rfl) (bM tX hr rfl fB (aA (bM mN hr rfl fB (aA (m_v 3) (aA (cO rfl (aR (XN:=["many","found","lines","shares","way"]) (N:=["line","way"]) (k:=1) (fs:=[4]) rfl rfl rfl (by decide +kernel)) (dF (m_v 2)) (fun _ _ _=>(bB (show (["line","way"]:List Str).Nodup by decide +kernel) rfl (Or.inl rfl))) (fF rfl) (fun _ _ _=>bU (bQ (m_v 0) (m_v 1)))) (aA (nQ (c:=1) (i:=0) O1 (m_v 1)) aQ)))) aQ))))
    dP)))
  (aU (eM (cO rfl (aR (XN:=["many","found","lines","shares","way"]) (N:=["share","found","many","lines"]) (k:=1) (fs:=[1,0,2]) rfl rfl rfl (by decide +kernel)) (dF (m_v 3)) (fun _ _ _=>(bB (show (["share","found","many","lines"]:List Str).Nodup by decide +kernel) rfl (Or.inl rfl))) (fF rfl) (fun _ _ _=>bU (cO rfl (lI (N:=["number","found"]) (k:=1) (fs:=[1]) (aR (XN:=["many","found","lines","shares","way"]) (N:=["share","found","many","lines"]) (k:=1) (fs:=[1,0,2]) rfl rfl rfl (by decide +kernel)) (by decide +kernel)) (dF (bM nA hr rfl aU4 (aA (m_v 2) (aA (m_v 0) (aA (m_v 3) aQ))))) (fun _ _ _=>(bB (show (["number","found"]:List Str).Nodup by decide +kernel) rfl (Or.inl rfl))) (fF rfl) (fun _ _ _=>bU (hJ (m_v 0) (nQ (c:=1) (i:=0) O1 (m_v 1))))))))))))
abbrev jG:Stmt:=top 26
theorem pK:FnScope ["many","rows"] ["many","rows"] (aG jG):=⟨rfl,rfl,rfl,by decide +kernel,rfl,by decide +kernel,by decide +kernel⟩
def aCq:FS :=
 (bS (aL cP [vE 0,aL jC [vE 0,vE 1]]))
def gQ:Φ:=bY 2 2 aCq
theorem mO (B:Blt mg)(eX:aH Pg w K mg base (CXM Pg w) k "frame_of_cleared" ["many","found"] (spM K (clK K) cP))(oP:aH Pg w K mg base (CXM Pg w) k "cleared" ["many","rows"] (spM K (clK K) jC))(F:bD K mg "frame_of" jG ["many","rows"]):aH Pg w K mg base (CXM Pg w) (k+1) "frame_of" ["many","rows"] (spM K (clK K) gQ):=by
 have nd:=pK.nd;refine cZ F pK fun f cdv A outer s H E hr=>?_
 have hu:=hr.units;exact(aU (eM (bM eX hr rfl fB (aA (m_v 0) (aA (bM oP hr rfl fB (aA (m_v 0) (aA (m_v 1) aQ))) aQ)))))
abbrev lD:Stmt:=top 27
theorem sX:FnScope ["many","rows"] ["many","rows"] (aG lD):=⟨rfl,rfl,rfl,by decide +kernel,rfl,by decide +kernel,by decide +kernel⟩
def aFm:FS :=
 (aI (kP (aL fN [vE 0,vE 1]))
 (bS (nI 0 [vE 0,aL gQ [vE 0,vE 1]])))
def bX:Φ:=bY 2 2 aFm
theorem gK (B:Blt mg)(O0:OC K 0)(U0:vO Pg w K mg base 1 0)(hk:2<=k)(jM:aH Pg w K mg base (CXM Pg w) k "check_rows" ["many","rows"] (spM K (clK K) fN))(mO:aH Pg w K mg base (CXM Pg w) k "frame_of" ["many","rows"] (spM K (clK K) gQ))(F:bD K mg "flat_of" lD ["many","rows"]):aH Pg w K mg base (CXM Pg w) (k+1) "flat_of" ["many","rows"] (spM K (clK K) bX):=by
 have nd:=sX.nd;refine cZ F sX fun f cdv A outer s H E hr=>?_
 have hu:=hr.units
 exact(aE (aCd (bM jM hr rfl fB (aA (m_v 0) (aA (m_v 1) aQ))))
  (aU (eM (aGj (c:=0) U0 (hr.mono hk) rfl (aA (m_v 0) (aA (bM mO hr rfl fB (aA (m_v 0) (aA (m_v 1) aQ))) aQ))))))
abbrev iC:Stmt:=top 29
theorem oH:FnScope ["_law_script","_law_k"] ["_law_script","_law_k"] (aG iC):=⟨rfl,rfl,rfl,by decide +kernel,rfl,by decide +kernel,by decide +kernel⟩
def zR:FS :=
 (aI (ifS (bT (ltE (vE 1) (bJ (vE 0))))
  (bS (bW (aT (vE 0) (vE 1)) (cE (.int 2147483647))))
  cG)
 (bS (cE (.int 0))))
def bC:Φ:=bY 2 2 zR
theorem fC (B:Blt mg)  (F:bD K mg "_law_cell" iC ["_law_script","_law_k"]):aH Pg w K mg base (CXM Pg w) (k+1) "_law_cell" ["_law_script","_law_k"] (spM K (clK K) bC):=by
 have nd:=oH.nd;refine cZ F oH fun f cdv A outer s H E hr=>?_
 have hu:=hr.units
 exact(aE (fK (pJ (m_v 1) (fM rfl B.len_ (m_v 0)))
  (aU (eM (fP (bQ (m_v 0) (m_v 1)) aD)))
  dP)
  (aU (eM aD)))
abbrev fG:Stmt:=top 30
theorem jW:FnScope ["_law_script","_law_start","_law_many","_law_size","_law_found","_law_k","_law_raw","_law_number"] ["_law_script","_law_start","_law_many","_law_size"] (aG fG):=⟨rfl,rfl,rfl,by decide +kernel,rfl,by decide +kernel,by decide +kernel⟩
def sN:FS :=
 (aI (aC 4 (cF []))
 (aI (dY (gY (vE 1) (cR (vE 1) (vE 2))) (.nm 5)
  (aI (aC 6 (cR (bP (vE 5) (vE 5)) (bP (cE (.int 3)) (vE 5))))
  (aI (ifS (bT (ltE (vE 5) (bJ (vE 0))))
   (aC 6 (aT (vE 0) (vE 5)))
   cG)
  (aI (aC 7 (fR (bW (vE 6) (cR (bP (cE (.int 2)) (vE 3)) (cE (.int 1)))) (vE 3)))
  (aI (ifS (bT (eqE (bW (cH (vE 6) (cR (bP (cE (.int 2)) (vE 3)) (cE (.int 1)))) (cE (.int 3))) (cE (.int 0))))
   (aC 7 (cE (.int 0)))
   cG)
  (jY 4 (vE 7)))))))
 (bS (vE 4))))
def eC:Φ:=bY 4 8 sN
theorem gS (B:Blt mg)  (F:bD K mg "_law_numbers" fG ["_law_script","_law_start","_law_many","_law_size"]):aH Pg w K mg base (CXM Pg w) (k+1) "_law_numbers" ["_law_script","_law_start","_law_many","_law_size"] (spM K (clK K) eC):=by
 have nd:=jW.nd;refine cZ F jW fun f cdv A outer s H E hr=>?_
 have hu:=hr.units
 exact(aE (bF (i:=4) nd rfl (Or.inl rfl) (iW aQ))
  (aE (jU iO rfl (qW rfl B.range_ (m_v 1) (iG (m_v 1) (m_v 2))) (bB nd rfl (Or.inl rfl))
   (aE (bF (i:=6) nd rfl (Or.inl rfl) (iG (fJ (m_v 5) (m_v 5)) (fJ aD (m_v 5))))
   (aE (fK (pJ (m_v 5) (fM rfl B.len_ (m_v 0)))
    (aU (bF (i:=6) nd rfl (Or.inl rfl) (bQ (m_v 0) (m_v 5))))
    dP)
   (aE (bF (i:=7) nd rfl (Or.inl rfl) (pS (fP (m_v 6) (iG (fJ aD (m_v 3)) aD)) (m_v 3)))
   (aE (fK (jT hu (fP (hJ (m_v 6) (iG (fJ aD (m_v 3)) aD)) aD) aD)
    (aU (bF (i:=7) nd rfl (Or.inl rfl) aD))
    dP)
   (aU (aEu (i:=4) rfl (Or.inl rfl) (m_v 7))))))))
  (aU (eM (m_v 4)))))
abbrev gI:Stmt:=top 31
theorem lU:FnScope ["_law_script","_law_start","_law_ways","_law_cell_here","_law_many","_law_size","_law_numbers_here","_law_rows","_law_way"] ["_law_script","_law_start","_law_ways"] (aG gI):=⟨rfl,rfl,rfl,by decide +kernel,rfl,by decide +kernel,by decide +kernel⟩
def wM:FS :=
 (aI (aC 3 (aL bC [vE 0,vE 1]))
 (aI (aC 4 (bW (vE 3) (cE (.int 5))))
 (aI (aC 5 (aT (cF [cE (.int 3),cE (.int 1),cE (.int 9),cE (.int 2),iM (cE (.int 10)) (cE (.int 9)),cE (.int 3),iM (cE (.int 10)) (cE (.int 50)),cE (.int 5)]) (bW (cH (vE 3) (cE (.int 5))) (cE (.int 8)))))
 (aI (ifS (bT (eqE (bW (cH (vE 3) (cE (.int 40))) (cE (.int 16))) (cE (.int 7))))
  (aI (aC 4 (cR (cE (.int 6)) (bW (cH (vE 3) (cE (.int 640))) (cE (.int 7)))))
  (aC 5 (uI (vE 5) (cE (.int 9)))))
  cG)
 (aI (ifS (iB (bT (gtE (vE 5) (iM (cE (.int 10)) (cE (.int 9))))) (orT (bT (gtE (vE 2) (cE (.int 3)))) (bT (gtE (vE 4) (cE (.int 3))))))
  (aC 5 (iM (cE (.int 10)) (cE (.int 9))))
  cG)
 (aI (aC 6 (aL eC [vE 0,cR (vE 1) (cE (.int 1)),bP (vE 4) (vE 2),vE 5]))
 (aI (aC 7 (aS (dW (vE 4)) 1 [6,2] (.nm 0) (bE (fH (vE 1) (soO (bP (vE 0) (vE 2))) (soO (cR (bP (vE 0) (vE 2)) (vE 2)))))))
 (aI (aC 8 (bW (cH (vE 3) (cE (.int 7680))) (cE (.int 5))))
 (aI (ifS (iB (bT (eqE (vE 8) (cE (.int 1)))) (bT (gtE (vE 4) (cE (.int 2)))))
  (gH 7 (bW (cH (vE 3) (cE (.int 40000))) (vE 4)) (aS (mI (aT (vE 7) (cE (.int 0))) (aT (vE 7) (dB (cE (.int 1))))) 2 [] (.tp [.nm 0,.nm 1]) (bE (fR (bP (cE (.int 2)) (vE 0)) (bP (cE (.int 3)) (vE 1))))))
  cG)
 (aI (ifS (bT (eqE (vE 8) (cE (.int 2))))
  (aC 7 (aS (mU (vE 7)) 2 [] (.tp [.nm 0,.nm 1]) (bE (aS (bV (vE 1)) 1 [0] (.nm 0) (bE (bP (vE 0) (cR (cE (.int 1)) (bW (vE 1) (cE (.int 3))))))))))
  cG)
 (aI (ifS (iB (bT (eqE (vE 8) (cE (.int 3)))) (bT (gtE (vE 4) (cE (.int 0)))))
  (gH 7 (bW (cH (vE 3) (cE (.int 40000))) (vE 4)) (aS (dW (vE 2)) 1 [] (.nm 0) (bE (cE (.int 0)))))
  cG)
 (aI (ifS (iB (bT (eqE (vE 8) (cE (.int 4)))) (bT (gtE (vE 4) (cE (.int 1)))))
  (gH 7 (cE (.int 0)) (aS (bV (aT (vE 7) (dB (cE (.int 1))))) 1 [] (.nm 0) (bE (bP (cE (.int 2)) (vE 0)))))
  cG)
 (bS (vE 7))))))))))))))
def dN:Φ:=bY 3 9 wM
theorem jF (B:Blt mg)(fC:aH Pg w K mg base (CXM Pg w) k "_law_cell" ["_law_script","_law_k"] (spM K (clK K) bC))(gS:aH Pg w K mg base (CXM Pg w) k "_law_numbers" ["_law_script","_law_start","_law_many","_law_size"] (spM K (clK K) eC))(F:bD K mg "_law_drawn" gI ["_law_script","_law_start","_law_ways"]):aH Pg w K mg base (CXM Pg w) (k+1) "_law_drawn" ["_law_script","_law_start","_law_ways"] (spM K (clK K) dN):=by
 have nd:=lU.nd;refine cZ F lU fun f cdv A outer s H E hr=>?_
 have hu:=hr.units
 exact(aE (bF (i:=3) nd rfl (Or.inl rfl) (bM fC hr rfl fB (aA (m_v 0) (aA (m_v 1) aQ))))
  (aE (bF (i:=4) nd rfl (Or.inl rfl) (fP (m_v 3) aD))
  (aE (bF (i:=5) nd rfl (Or.inl rfl) (bQ (iW (aA aD (aA aD (aA aD (aA aD (aA (sR aD aD) (aA aD (aA (sR aD aD) (aA aD aQ))))))))) (fP (hJ (m_v 3) aD) aD)))
  (aE (fK (jT hu (fP (hJ (m_v 3) aD) aD) aD)
   (aE (bF (i:=4) nd rfl (Or.inl rfl) (iG aD (fP (hJ (m_v 3) aD) aD)))
   (aU (bF (i:=5) nd rfl (Or.inl rfl) (aNt rfl rfl B.min_ (m_v 5) aD))))
   dP)
  (aE (fK (PW.pt (pC (pO (m_v 5) (sR aD aD)) (lG (PW.pt (aDb (pO (m_v 2) aD) (wT (pO (m_v 4) aD)))))))
   (aU (bF (i:=5) nd rfl (Or.inl rfl) (sR aD aD)))
   dP)
  (aE (bF (i:=6) nd rfl (Or.inr rfl) (bM gS hr rfl fB (aA (m_v 0) (aA (iG (m_v 1) aD) (aA (fJ (m_v 4) (m_v 2)) (aA (m_v 5) aQ))))))
  (aE (oX (i:=7) rfl nd rfl rfl (aR (XN:=["_law_script","_law_start","_law_ways","_law_cell_here","_law_many","_law_size","_law_numbers_here","_law_rows","_law_way"]) (N:=["_law_k","_law_numbers_here","_law_ways"]) (k:=1) (fs:=[6,2]) rfl rfl rfl (by decide +kernel)) (kY rfl B.range_ (m_v 4)) (fun _ _ _=>(bB (show (["_law_k","_law_numbers_here","_law_ways"]:List Str).Nodup by decide +kernel) rfl (Or.inl rfl))) (fF rfl) (fun _ _ _=>bU (pQ (m_v 1) (lT (fJ (m_v 0) (m_v 2))) (lT (iG (fJ (m_v 0) (m_v 2)) (m_v 2))))))
  (aE (bF (i:=8) nd rfl (Or.inl rfl) (fP (hJ (m_v 3) aD) aD))
  (aE (fK (PW.pt (pC (jT hu (m_v 8) aD) (lG (pO (m_v 4) aD))))
   (aU (aDi (i:=7) rfl (Or.inl rfl) (fP (hJ (m_v 3) aD) (m_v 4)) (cO rfl (aR (XN:=["_law_script","_law_start","_law_ways","_law_cell_here","_law_many","_law_size","_law_numbers_here","_law_rows","_law_way"]) (N:=["_law_a","_law_b"]) (k:=2) (fs:=[]) rfl rfl rfl (by decide +kernel)) (oR rfl rfl B.zip_ (bQ (m_v 7) aD) (bQ (m_v 7) (lR aD))) (fun _ _ _=>(jV rfl (bH (bB (show (["_law_a","_law_b"]:List Str).Nodup by decide +kernel) rfl (Or.inl rfl)) (bH (bB (show (["_law_a","_law_b"]:List Str).Nodup by decide +kernel) rfl (Or.inl rfl)) eV)))) (fF rfl) (fun _ _ _=>bU (pS (fJ aD (m_v 0)) (fJ aD (m_v 1)))))))
   dP)
  (aE (fK (jT hu (m_v 8) aD)
   (aU (oX (i:=7) rfl nd rfl rfl (aR (XN:=["_law_script","_law_start","_law_ways","_law_cell_here","_law_many","_law_size","_law_numbers_here","_law_rows","_law_way"]) (N:=["_law_k","_law_row"]) (k:=2) (fs:=[]) rfl rfl rfl (by decide +kernel)) (xO rfl B.enumerate_ (m_v 7)) (fun _ _ _=>(jV rfl (bH (bB (show (["_law_k","_law_row"]:List Str).Nodup by decide +kernel) rfl (Or.inr rfl)) (bH (bB (show (["_law_k","_law_row"]:List Str).Nodup by decide +kernel) rfl (Or.inl rfl)) eV)))) (fF rfl) (fun _ _ _=>bU (cO rfl (lI (N:=["_law_number","_law_k"]) (k:=1) (fs:=[0]) (aR (XN:=["_law_script","_law_start","_law_ways","_law_cell_here","_law_many","_law_size","_law_numbers_here","_law_rows","_law_way"]) (N:=["_law_k","_law_row"]) (k:=2) (fs:=[]) rfl rfl rfl (by decide +kernel)) (by decide +kernel)) (dF (m_v 1)) (fun _ _ _=>(bB (show (["_law_number","_law_k"]:List Str).Nodup by decide +kernel) rfl (Or.inl rfl))) (fF rfl) (fun _ _ _=>bU (fJ (m_v 0) (iG aD (fP (m_v 1) aD))))))))
   dP)
  (aE (fK (PW.pt (pC (jT hu (m_v 8) aD) (lG (pO (m_v 4) aD))))
   (aU (aDi (i:=7) rfl (Or.inl rfl) (fP (hJ (m_v 3) aD) (m_v 4)) (cO rfl (aR (XN:=["_law_script","_law_start","_law_ways","_law_cell_here","_law_many","_law_size","_law_numbers_here","_law_rows","_law_way"]) (N:=["_law_k"]) (k:=1) (fs:=[]) rfl rfl rfl (by decide +kernel)) (kY rfl B.range_ (m_v 2)) (fun _ _ _=>(bB (show (["_law_k"]:List Str).Nodup by decide +kernel) rfl (Or.inl rfl))) (fF rfl) (fun _ _ _=>bU aD))))
   dP)
  (aE (fK (PW.pt (pC (jT hu (m_v 8) aD) (lG (pO (m_v 4) aD))))
   (aU (aDi (i:=7) rfl (Or.inl rfl) aD (cO rfl (aR (XN:=["_law_script","_law_start","_law_ways","_law_cell_here","_law_many","_law_size","_law_numbers_here","_law_rows","_law_way"]) (N:=["_law_number"]) (k:=1) (fs:=[]) rfl rfl rfl (by decide +kernel)) (dF (bQ (m_v 7) (lR aD))) (fun _ _ _=>(bB (show (["_law_number"]:List Str).Nodup by decide +kernel) rfl (Or.inl rfl))) (fF rfl) (fun _ _ _=>bU (fJ aD (m_v 0))))))
   dP)
  (aU (eM (m_v 7)))))))))))))))
abbrev iI:Stmt:=top 32
theorem mX:FnScope ["_law_rows","_law_cell_here","_law_great","_law_act","_law_one","_law_other","_law_kept","_law_many"] ["_law_rows","_law_cell_here","_law_great"] (aG iI):=⟨rfl,rfl,rfl,by decide +kernel,rfl,by decide +kernel,by decide +kernel⟩
def aAy:FS :=
 (aI (aC 3 (bW (vE 1) (cE (.int 4))))
 (aI (aC 4 (bW (cH (vE 1) (cE (.int 4))) (bJ (vE 0))))
 (aI (aC 5 (bW (cH (vE 1) (cE (.int 52))) (bJ (vE 0))))
 (ifS (orT (bT (eqE (vE 3) (cE (.int 0)))) (bT (vE 2)))
  (aI (aC 6 (aT (vE 0) (vE 4)))
  (aI (gH 0 (vE 4) (aT (vE 0) (vE 5)))
  (cN 6 (gH 0 (vE 5) (vE 6)))))
  (ifS (bT (eqE (vE 3) (cE (.int 1))))
   (aI (aC 7 (aT (cF [dB (cE (.int 3)),dB (cE (.int 2)),dB (cE (.int 1)),cE (.int 2),cE (.int 3),cE (.int 4)]) (bW (cH (vE 1) (cE (.int 676))) (cE (.int 6)))))
   (ifS (bT (ltE (sZ (aS (bV (aT (vE 0) (vE 4))) 1 [] (.nm 0) (bE (jZ (vE 0))))) (iM (cE (.int 10)) (cE (.int 20)))))
    (gH 0 (vE 4) (aS (bV (aT (vE 0) (vE 4))) 1 [7] (.nm 0) (bE (bP (vE 1) (vE 0)))))
    cG))
   (ifS (iB (bT (eqE (vE 3) (cE (.int 2)))) (bT (neE (vE 4) (vE 5))))
    (aI (aC 7 (fR (bW (cH (vE 1) (cE (.int 676))) (cE (.int 7))) (cE (.int 3))))
    (ifS (bT (ltE (sZ (aS (bV (kG (aT (vE 0) (vE 4)) (aT (vE 0) (vE 5)))) 1 [] (.nm 0) (bE (jZ (vE 0))))) (iM (cE (.int 10)) (cE (.int 20)))))
     (gH 0 (vE 4) (aS (mI (aT (vE 0) (vE 4)) (aT (vE 0) (vE 5))) 2 [7] (.tp [.nm 0,.nm 1]) (bE (cR (vE 0) (bP (vE 2) (vE 1))))))
     cG))
    (ifS (iB (bT (eqE (vE 3) (cE (.int 3)))) (bT (ltE (bJ (vE 0)) (cE (.int 12)))))
     (jY 0 (aS (mI (aT (vE 0) (vE 4)) (aT (vE 0) (vE 5))) 2 [] (.tp [.nm 0,.nm 1]) (bE (cR (vE 0) (vE 1)))))
     cG)))))))
def dI:D->List D->R D:=aCu 3 8 aAy
theorem kT (B:Blt mg)  (F:bD K mg "_law_deed" iI ["_law_rows","_law_cell_here","_law_great"]):aH Pg w K mg base (CXM Pg w) (k+1) "_law_deed" ["_law_rows","_law_cell_here","_law_great"] (spU K dI):=by
 have nd:=mX.nd;refine aO3 (cl:=clK K) (by decide) F mX fun f cdv A outer s H E hr=>?_
 have hu:=hr.units
 exact(mH (vK (i:=3) (by decide) nd rfl (Or.inl rfl) (fP (m_v 1) aD))
  (mH (vK (i:=4) (by decide) nd rfl (Or.inl rfl) (fP (hJ (m_v 1) aD) (fM rfl B.len_ (m_v 0))))
  (mH (vK (i:=5) (by decide) nd rfl (Or.inl rfl) (fP (hJ (m_v 1) aD) (fM rfl B.len_ (m_v 0))))
  (lW (vP (PW.pt (aDb (jT hu (m_v 3) aD) (wT (aQx (m_v 2)))))
   (mH (vK (i:=6) (by decide) nd rfl (Or.inl rfl) (bQ (m_v 0) (m_v 4)))
   (mH (aEf (i:=0) rfl (Or.inl rfl) (m_v 4) (bQ (m_v 0) (m_v 5)))
   (lW (aR4 (i:=6) (aEf (i:=0) rfl (Or.inl rfl) (m_v 5) (m_v 6))))))
   (lW (vP (jT hu (m_v 3) aD)
    (mH (vK (i:=7) (by decide) nd rfl (Or.inr rfl) (bQ (iW (aA (lR aD) (aA (lR aD) (aA (lR aD) (aA aD (aA aD (aA aD aQ))))))) (fP (hJ (m_v 1) aD) aD)))
    (lW (vP (pJ (aI2 rfl rfl B.max_ (cO rfl (aR (XN:=["_law_rows","_law_cell_here","_law_great","_law_act","_law_one","_law_other","_law_kept","_law_many"]) (N:=["_law_number"]) (k:=1) (fs:=[]) rfl rfl rfl (by decide +kernel)) (dF (bQ (m_v 0) (m_v 4))) (fun _ _ _=>(bB (show (["_law_number"]:List Str).Nodup by decide +kernel) rfl (Or.inl rfl))) (fF rfl) (fun _ _ _=>bU (aJu rfl B.abs_ (m_v 0))))) (sR aD aD))
     (lW (aEf (i:=0) rfl (Or.inl rfl) (m_v 4) (cO rfl (aR (XN:=["_law_rows","_law_cell_here","_law_great","_law_act","_law_one","_law_other","_law_kept","_law_many"]) (N:=["_law_number","_law_many"]) (k:=1) (fs:=[7]) rfl rfl rfl (by decide +kernel)) (dF (bQ (m_v 0) (m_v 4))) (fun _ _ _=>(bB (show (["_law_number","_law_many"]:List Str).Nodup by decide +kernel) rfl (Or.inl rfl))) (fF rfl) (fun _ _ _=>bU (fJ (m_v 1) (m_v 0))))))
     aHt)))
    (lW (vP (PW.pt (pC (jT hu (m_v 3) aD) (lG (rS hu (m_v 4) (m_v 5)))))
     (mH (vK (i:=7) (by decide) nd rfl (Or.inr rfl) (pS (fP (hJ (m_v 1) aD) aD) aD))
     (lW (vP (pJ (aI2 rfl rfl B.max_ (cO rfl (aR (XN:=["_law_rows","_law_cell_here","_law_great","_law_act","_law_one","_law_other","_law_kept","_law_many"]) (N:=["_law_number"]) (k:=1) (fs:=[]) rfl rfl rfl (by decide +kernel)) (dF (uV (bQ (m_v 0) (m_v 4)) (bQ (m_v 0) (m_v 5)))) (fun _ _ _=>(bB (show (["_law_number"]:List Str).Nodup by decide +kernel) rfl (Or.inl rfl))) (fF rfl) (fun _ _ _=>bU (aJu rfl B.abs_ (m_v 0))))) (sR aD aD))
      (lW (aEf (i:=0) rfl (Or.inl rfl) (m_v 4) (cO rfl (aR (XN:=["_law_rows","_law_cell_here","_law_great","_law_act","_law_one","_law_other","_law_kept","_law_many"]) (N:=["_law_a","_law_b","_law_many"]) (k:=2) (fs:=[7]) rfl rfl rfl (by decide +kernel)) (oR rfl rfl B.zip_ (bQ (m_v 0) (m_v 4)) (bQ (m_v 0) (m_v 5))) (fun _ _ _=>(jV rfl (bH (bB (show (["_law_a","_law_b","_law_many"]:List Str).Nodup by decide +kernel) rfl (Or.inl rfl)) (bH (bB (show (["_law_a","_law_b","_law_many"]:List Str).Nodup by decide +kernel) rfl (Or.inl rfl)) eV)))) (fF rfl) (fun _ _ _=>bU (iG (m_v 0) (fJ (m_v 2) (m_v 1)))))))
      aHt)))
     (lW (vP (PW.pt (pC (jT hu (m_v 3) aD) (lG (pJ (fM rfl B.len_ (m_v 0)) aD))))
      (lW (aTc (i:=0) rfl (Or.inl rfl) (cO rfl (aR (XN:=["_law_rows","_law_cell_here","_law_great","_law_act","_law_one","_law_other","_law_kept","_law_many"]) (N:=["_law_a","_law_b"]) (k:=2) (fs:=[]) rfl rfl rfl (by decide +kernel)) (oR rfl rfl B.zip_ (bQ (m_v 0) (m_v 4)) (bQ (m_v 0) (m_v 5))) (fun _ _ _=>(jV rfl (bH (bB (show (["_law_a","_law_b"]:List Str).Nodup by decide +kernel) rfl (Or.inl rfl)) (bH (bB (show (["_law_a","_law_b"]:List Str).Nodup by decide +kernel) rfl (Or.inl rfl)) eV)))) (fF rfl) (fun _ _ _=>bU (iG (m_v 0) (m_v 1))))))
      aHt)))))))))))
abbrev jH:Stmt:=top 33
theorem pN:FnScope ["_law_rows","_law_found","_law_row","_law_number"] ["_law_rows"] (aG jH):=⟨rfl,rfl,rfl,by decide +kernel,rfl,by decide +kernel,by decide +kernel⟩
def aCe:FS :=
 (aI (aC 1 (cE (.int 0)))
 (aI (dY (bV (vE 0)) (.nm 2)
  (dY (bV (vE 2)) (.nm 3)
   (aC 1 (uP (vE 1) (jZ (vE 3))))))
 (bS (vE 1))))
def eY:Φ:=bY 1 4 aCe
theorem mF (B:Blt mg)  (F:bD K mg "_law_far" jH ["_law_rows"]):aH Pg w K mg base (CXM Pg w) (k+1) "_law_far" ["_law_rows"] (spM K (clK K) eY):=by
 have nd:=pN.nd;refine cZ F pN fun f cdv A outer s H E hr=>?_
 have hu:=hr.units
 exact(aE (bF (i:=1) nd rfl (Or.inl rfl) aD)
  (aE (jU iO rfl (dF (m_v 0)) (bB nd rfl (Or.inl rfl))
   (aU (jU iO rfl (dF (m_v 2)) (bB nd rfl (Or.inl rfl))
    (aU (bF (i:=1) nd rfl (Or.inl rfl) (aS0 rfl rfl B.max_ (m_v 1) (aJu rfl B.abs_ (m_v 3))))))))
  (aU (eM (m_v 1)))))
abbrev rZ:Stmt:=top 34
theorem aIt:FnScope ["_law_script","_law_ways","_law_rows","_law_frame","_law_great","_law_k"] ["_law_script"] (aG rZ):=⟨rfl,rfl,rfl,by decide +kernel,rfl,by decide +kernel,by decide +kernel⟩
def aNq:FS :=
 (aI (aC 1 (cR (cE (.int 1)) (bW (aL bC [vE 0,cE (.int 0)]) (cE (.int 5)))))
 (aI (aC 2 (aL dN [vE 0,cE (.int 1),vE 1]))
 (aI (aC 3 (eH 0 1 (aL bX [vE 1,aS (bV (vE 2)) 1 [] (.nm 0) (bE (tH (vE 0)))])))
 (aI (aC 4 (gtE (aL eY [vE 2]) (iM (cE (.int 10)) (cE (.int 12)))))
 (aI (ifS (bT (gtE (bJ (vE 2)) (cE (.int 0))))
  (dY (gY (cE (.int 3)) (uI (bJ (vE 0)) (cE (.int 63)))) (.nm 5)
   (aGf 2 dI [aL bC [vE 0,vE 5],vE 4]))
  cG)
 (aI (ifS (orT (bT (neE (eH 0 1 (aL bX [vE 1,vE 2])) (vE 3))) (bT (neE (eH 0 1 (aL bX [vE 1,vE 3])) (vE 3))))
  (bS (cE (.bl false)))
  cG)
 (bS (aF8 (aF7 .list (vE 3)) (eqE (eH 0 1 (aL bX [vE 1,kG (vE 3) (fH (vE 2) (noO) (soO (fR (cE (.int 12)) (bJ (vE 3)))))])) (vE 3))))))))))
def uU:Φ:=bY 1 6 aNq
theorem aT1 (B:Blt mg)(O0:OC K 0)  (fC:aH Pg w K mg base (CXM Pg w) k "_law_cell" ["_law_script","_law_k"] (spM K (clK K) bC))(jF:aH Pg w K mg base (CXM Pg w) k "_law_drawn" ["_law_script","_law_start","_law_ways"] (spM K (clK K) dN))(gK:aH Pg w K mg base (CXM Pg w) k "flat_of" ["many","rows"] (spM K (clK K) bX))(mF:aH Pg w K mg base (CXM Pg w) k "_law_far" ["_law_rows"] (spM K (clK K) eY))(kT:aH Pg w K mg base (CXM Pg w) k "_law_deed" ["_law_rows","_law_cell_here","_law_great"] (spU K dI)){fa:Addr}{fd:FuncData}(F:Fun K "law" "law" rZ fa fd):FnOk Pg w K mg base (CXM Pg w) (k+1) fa fd ["_law_script"] (spM K (clK K) uU):=by
 have nd:=aIt.nd;refine aN7 F aIt fun f cdv A outer s H E hr=>?_
 have hu:=hr.units
 exact(aE (bF (i:=1) nd rfl (Or.inl rfl) (iG aD (fP (bM fC hr rfl fB (aA (m_v 0) (aA aD aQ))) aD)))
  (aE (bF (i:=2) nd rfl (Or.inl rfl) (bM jF hr rfl fB (aA (m_v 0) (aA aD (aA (m_v 1) aQ)))))
  (aE (bF (i:=3) nd rfl (Or.inl rfl) (nQ (c:=0) (i:=1) O0 (bM gK hr rfl fB (aA (m_v 1) (aA (cO rfl (aR (XN:=["_law_script","_law_ways","_law_rows","_law_frame","_law_great","_law_k"]) (N:=["_law_row"]) (k:=1) (fs:=[]) rfl rfl rfl (by decide +kernel)) (dF (m_v 2)) (fun _ _ _=>(bB (show (["_law_row"]:List Str).Nodup by decide +kernel) rfl (Or.inl rfl))) (fF rfl) (fun _ _ _=>bU (aHl rfl B.list_ (m_v 0)))) aQ)))))
  (aE (bF (i:=4) nd rfl (Or.inl rfl) (aVd (bM mF hr rfl fB (aA (m_v 2) aQ)) (sR aD aD)))
  (aE (fK (pO (fM rfl B.len_ (m_v 2)) aD)
   (aU (jU iO rfl (qW rfl B.range_ aD (aNt rfl rfl B.min_ (fM rfl B.len_ (m_v 0)) aD)) (bB nd rfl (Or.inl rfl))
    (aU (aPw (i:=2) rfl rfl kT hr rfl (aA (bM fC hr rfl fB (aA (m_v 0) (aA (m_v 5) aQ))) (aA (m_v 4) aQ))))))
   dP)
  (aE (fK (PW.pt (aDb (rS hu (nQ (c:=0) (i:=1) O0 (bM gK hr rfl fB (aA (m_v 1) (aA (m_v 2) aQ)))) (m_v 3)) (wT (rS hu (nQ (c:=0) (i:=1) O0 (bM gK hr rfl fB (aA (m_v 1) (aA (m_v 3) aQ)))) (m_v 3)))))
   (aU (eM aUw))
   dP)
  (aU (eM (aRs (aSk (t:=.list) rfl B.isinstance_ (m_v 3) (aMe (v:=.ty "list") rfl B.list_ (by decide +kernel) rfl)) (aSl (aUs hu (nQ (c:=0) (i:=1) O0 (bM gK hr rfl fB (aA (m_v 1) (aA (uV (m_v 3) (pQ (m_v 2) vJ (lT (pS aD (fM rfl B.len_ (m_v 3)))))) aQ)))) (m_v 3))))))))))))
end
theorem all_mk {l:PySem.W.OpenLaw}{w:World}{K:PySem.W.Frag}{h:Heap}{mg:Str->Option Value}{fa:Addr}(X:K.In h)(G:h.Ns mainGlobals mg)(hfa:mg "law" = some (.ref fa))
 {f0:Addr} {oc0 kV0 dc0 pm0 cd0 ct0:Value} {od0 an0:Option Addr} {sl0:Array (Option Value)} (a0:At K "check_alike" fU f0 oc0 kV0 dc0 pm0 cd0 ct0 od0 an0 sl0)
 {f1:Addr} {oc1 kV1 dc1 pm1 cd1 ct1:Value} {od1 an1:Option Addr} {sl1:Array (Option Value)} (a1:At K "pairs" qA f1 oc1 kV1 dc1 pm1 cd1 ct1 od1 an1 sl1)
 {f2:Addr} {oc2 kV2 dc2 pm2 cd2 ct2:Value} {od2 an2:Option Addr} {sl2:Array (Option Value)} (a2:At K "check_count" fS f2 oc2 kV2 dc2 pm2 cd2 ct2 od2 an2 sl2)
 {f3:Addr} {oc3 kV3 dc3 pm3 cd3 ct3:Value} {od3 an3:Option Addr} {sl3:Array (Option Value)} (a3:At K "check_rows" gD f3 oc3 kV3 dc3 pm3 cd3 ct3 od3 an3 sl3)
 {f4:Addr} {oc4 kV4 dc4 pm4 cd4 ct4:Value} {od4 an4:Option Addr} {sl4:Array (Option Value)} (a4:At K "units" qY f4 oc4 kV4 dc4 pm4 cd4 ct4 od4 an4 sl4)
 {f5:Addr} {oc5 kV5 dc5 pm5 cd5 ct5:Value} {od5 an5:Option Addr} {sl5:Array (Option Value)} (a5:At K "mixed" qS f5 oc5 kV5 dc5 pm5 cd5 ct5 od5 an5 sl5)
 {f6:Addr} {oc6 kV6 dc6 pm6 cd6 ct6:Value} {od6 an6:Option Addr} {sl6:Array (Option Value)} (a6:At K "bezout" oK f6 oc6 kV6 dc6 pm6 cd6 ct6 od6 an6 sl6)
 {f7:Addr} {oc7 kV7 dc7 pm7 cd7 ct7:Value} {od7 an7:Option Addr} {sl7:Array (Option Value)} (a7:At K "swept" qR f7 oc7 kV7 dc7 pm7 cd7 ct7 od7 an7 sl7)
 {f8:Addr} {oc8 kV8 dc8 pm8 cd8 ct8:Value} {od8 an8:Option Addr} {sl8:Array (Option Value)} (a8:At K "cleared" lF f8 oc8 kV8 dc8 pm8 cd8 ct8 od8 an8 sl8)
 {f9:Addr} {oc9 kV9 dc9 pm9 cd9 ct9:Value} {od9 an9:Option Addr} {sl9:Array (Option Value)} (a9:At K "less" yD f9 oc9 kV9 dc9 pm9 cd9 ct9 od9 an9 sl9)
 {f10:Addr} {oc10 kV10 dc10 pm10 cd10 ct10:Value} {od10 an10:Option Addr} {sl10:Array (Option Value)} (a10:At K "times" qI f10 oc10 kV10 dc10 pm10 cd10 ct10 od10 an10 sl10)
 {f11:Addr} {oc11 kV11 dc11 pm11 cd11 ct11:Value} {od11 an11:Option Addr} {sl11:Array (Option Value)} (a11:At K "weighed" lK f11 oc11 kV11 dc11 pm11 cd11 ct11 od11 an11 sl11)
 {f12:Addr} {oc12 kV12 dc12 pm12 cd12 ct12:Value} {od12 an12:Option Addr} {sl12:Array (Option Value)} (a12:At K "narrowed" jN f12 oc12 kV12 dc12 pm12 cd12 ct12 od12 an12 sl12)
 {f13:Addr} {oc13 kV13 dc13 pm13 cd13 ct13:Value} {od13 an13:Option Addr} {sl13:Array (Option Value)} (a13:At K "tidied" oI f13 oc13 kV13 dc13 pm13 cd13 ct13 od13 an13 sl13)
 {f14:Addr} {oc14 kV14 dc14 pm14 cd14 ct14:Value} {od14 an14:Option Addr} {sl14:Array (Option Value)} (a14:At K "frame_of_cleared" dL f14 oc14 kV14 dc14 pm14 cd14 ct14 od14 an14 sl14)
 {f15:Addr} {oc15 kV15 dc15 pm15 cd15 ct15:Value} {od15 an15:Option Addr} {sl15:Array (Option Value)} (a15:At K "frame_of" jG f15 oc15 kV15 dc15 pm15 cd15 ct15 od15 an15 sl15)
 {f16:Addr} {oc16 kV16 dc16 pm16 cd16 ct16:Value} {od16 an16:Option Addr} {sl16:Array (Option Value)} (a16:At K "flat_of" lD f16 oc16 kV16 dc16 pm16 cd16 ct16 od16 an16 sl16)
 {f17:Addr} {oc17 kV17 dc17 pm17 cd17 ct17:Value} {od17 an17:Option Addr} {sl17:Array (Option Value)} (a17:At K "_law_cell" iC f17 oc17 kV17 dc17 pm17 cd17 ct17 od17 an17 sl17)
 {f18:Addr} {oc18 kV18 dc18 pm18 cd18 ct18:Value} {od18 an18:Option Addr} {sl18:Array (Option Value)} (a18:At K "_law_numbers" fG f18 oc18 kV18 dc18 pm18 cd18 ct18 od18 an18 sl18)
 {f19:Addr} {oc19 kV19 dc19 pm19 cd19 ct19:Value} {od19 an19:Option Addr} {sl19:Array (Option Value)} (a19:At K "_law_drawn" gI f19 oc19 kV19 dc19 pm19 cd19 ct19 od19 an19 sl19)
 {f20:Addr} {oc20 kV20 dc20 pm20 cd20 ct20:Value} {od20 an20:Option Addr} {sl20:Array (Option Value)} (a20:At K "_law_deed" iI f20 oc20 kV20 dc20 pm20 cd20 ct20 od20 an20 sl20)
 {f21:Addr} {oc21 kV21 dc21 pm21 cd21 ct21:Value} {od21 an21:Option Addr} {sl21:Array (Option Value)} (a21:At K "_law_far" jH f21 oc21 kV21 dc21 pm21 cd21 ct21 od21 an21 sl21)
 {f22:Addr} {oc22 kV22 dc22 pm22 cd22 ct22:Value} {od22 an22:Option Addr} {sl22:Array (Option Value)} (a22:At K "law" rZ f22 oc22 kV22 dc22 pm22 cd22 ct22 od22 an22 sl22)
 {C0 i0:Addr} {ocX0 kVX0 dcX0 pmX0 cdX0 ctX0:Value} {odX0 anX0:Option Addr} {slX0:Array (Option Value)} (r0:ORaw K 0 C0 i0) (na00:Bd K (.ref C0) "many" = some none) (na01:Bd K (.ref C0) "rows" = some none)
 (lX0:K.lookup i0=some ⟨ocX0,odX0,.func (Ef "__init__" "Flat.__init__" (fV oU) (cU oU) (aG oU) .none kVX0 dcX0 pmX0 anX0 cdX0 ctX0),slX0⟩) (cX0:Fn K cdX0 "Flat.__init__" = true) (kX0:Er K (.ref i0)=true)
 {C1 i1:Addr} {ocX1 kVX1 dcX1 pmX1 cdX1 ctX1:Value} {odX1 anX1:Option Addr} {slX1:Array (Option Value)} (r1:ORaw K 1 C1 i1) (na10:Bd K (.ref C1) "bottom" = some none) (na11:Bd K (.ref C1) "heads" = some none) (na12:Bd K (.ref C1) "lines" = some none)
 (lX1:K.lookup i1=some ⟨ocX1,odX1,.func (Ef "__init__" "Cleared.__init__" (fV gJ) (cU gJ) (aG gJ) .none kVX1 dcX1 pmX1 anX1 cdX1 ctX1),slX1⟩) (cX1:Fn K cdX1 "Cleared.__init__" = true) (kX1:Er K (.ref i1)=true)
 (z_len:Ca K mainGlobals "len" = some none)
 (z_list:Ca K mainGlobals "list" = some none)
 (z_zip:Ca K mainGlobals "zip" = some none)
 (z_enumerate:Ca K mainGlobals "enumerate" = some none)
 (z_range:Ca K mainGlobals "range" = some none)
 (z_sum:Ca K mainGlobals "sum" = some none)
 (z_reversed:Ca K mainGlobals "reversed" = some none)
 (z_min:Ca K mainGlobals "min" = some none)
 (z_abs:Ca K mainGlobals "abs" = some none)
 (z_max:Ca K mainGlobals "max" = some none)
 (z_isinstance:Ca K mainGlobals "isinstance" = some none)
 {t_MOST_WAYS:Tok} (g_MOST_WAYS:Ca K mainGlobals "MOST_WAYS" = some (some (.int 5 t_MOST_WAYS)))
:∃ fd:FuncData,(∀ (s:Shared) (v:Value),BindsTo s fd ⟨[v],[]⟩ [("_law_script",v)])/\∀ base:Heap,K.In base->base.Ns mainGlobals mg->FnOk l.prog w K mg base (CXM l.prog w) 8 fa fd ["_law_script"] (spM K (clK K) uU):=by
 have B:Blt mg:=⟨Cq X G z_len,Cq X G z_list,Cq X G z_zip,Cq X G z_enumerate,Cq X G z_range,Cq X G z_sum,Cq X G z_reversed,Cq X G z_min,Cq X G z_abs,Cq X G z_max,Cq X G z_isinstance,⟨_,Jf X G g_MOST_WAYS⟩⟩;have uG:bD K mg "check_alike" fU ["one","other"]:=bK X G a0.ns a0.lk a0.cd a0.kp fun _ _ _ _ _ _ us hl=>match us,hl with | [_,_],_=>rfl
 have xK:bD K mg "pairs" qA ["one","other"]:=bK X G a1.ns a1.lk a1.cd a1.kp fun _ _ _ _ _ _ us hl=>match us,hl with | [_,_],_=>rfl
 have uN:bD K mg "check_count" fS ["many"]:=bK X G a2.ns a2.lk a2.cd a2.kp fun _ _ _ _ _ _ us hl=>match us,hl with | [_],_=>rfl
 have yQ:bD K mg "check_rows" gD ["many","rows"]:=bK X G a3.ns a3.lk a3.cd a3.kp fun _ _ _ _ _ _ us hl=>match us,hl with | [_,_],_=>rfl
 have nX:bD K mg "units" qY ["many"]:=bK X G a4.ns a4.lk a4.cd a4.kp fun _ _ _ _ _ _ us hl=>match us,hl with | [_],_=>rfl
 have nN:bD K mg "mixed" qS ["width","often","rows"]:=bK X G a5.ns a5.lk a5.cd a5.kp fun _ _ _ _ _ _ us hl=>match us,hl with | [_,_,_],_=>rfl
 have aHn:bD K mg "bezout" oK ["one","other"]:=bK X G a6.ns a6.lk a6.cd a6.kp fun _ _ _ _ _ _ us hl=>match us,hl with | [_,_],_=>rfl
 have qF:bD K mg "swept" qR ["rows","top","way","bottom"]:=bK X G a7.ns a7.lk a7.cd a7.kp fun _ _ _ _ _ _ us hl=>match us,hl with | [_,_,_,_],_=>rfl
 have iU:bD K mg "cleared" lF ["many","rows"]:=bK X G a8.ns a8.lk a8.cd a8.kp fun _ _ _ _ _ _ us hl=>match us,hl with | [_,_],_=>rfl
 have aRe:bD K mg "less" yD ["one","other"]:=bK X G a9.ns a9.lk a9.cd a9.kp fun _ _ _ _ _ _ us hl=>match us,hl with | [_,_],_=>rfl
 have aL1:bD K mg "times" qI ["row","many"]:=bK X G a10.ns a10.lk a10.cd a10.kp fun _ _ _ _ _ _ us hl=>match us,hl with | [_,_],_=>rfl
 have aE9:bD K mg "weighed" lK ["one","other"]:=bK X G a11.ns a11.lk a11.cd a11.kp fun _ _ _ _ _ _ us hl=>match us,hl with | [_,_],_=>rfl
 have aBk:bD K mg "narrowed" jN ["shares","weights","whole"]:=bK X G a12.ns a12.lk a12.cd a12.kp fun _ _ _ _ _ _ us hl=>match us,hl with | [_,_,_],_=>rfl
 have aGz:bD K mg "tidied" oI ["shares"]:=bK X G a13.ns a13.lk a13.cd a13.kp fun _ _ _ _ _ _ us hl=>match us,hl with | [_],_=>rfl
 have mQ:bD K mg "frame_of_cleared" dL ["many","found"]:=bK X G a14.ns a14.lk a14.cd a14.kp fun _ _ _ _ _ _ us hl=>match us,hl with | [_,_],_=>rfl
 have aBl:bD K mg "frame_of" jG ["many","rows"]:=bK X G a15.ns a15.lk a15.cd a15.kp fun _ _ _ _ _ _ us hl=>match us,hl with | [_,_],_=>rfl
 have aF6:bD K mg "flat_of" lD ["many","rows"]:=bK X G a16.ns a16.lk a16.cd a16.kp fun _ _ _ _ _ _ us hl=>match us,hl with | [_,_],_=>rfl
 have zP:bD K mg "_law_cell" iC ["_law_script","_law_k"]:=bK X G a17.ns a17.lk a17.cd a17.kp fun _ _ _ _ _ _ us hl=>match us,hl with | [_,_],_=>rfl
 have tQ:bD K mg "_law_numbers" fG ["_law_script","_law_start","_law_many","_law_size"]:=bK X G a18.ns a18.lk a18.cd a18.kp fun _ _ _ _ _ _ us hl=>match us,hl with | [_,_,_,_],_=>rfl
 have wO:bD K mg "_law_drawn" gI ["_law_script","_law_start","_law_ways"]:=bK X G a19.ns a19.lk a19.cd a19.kp fun _ _ _ _ _ _ us hl=>match us,hl with | [_,_,_],_=>rfl
 have aBd:bD K mg "_law_deed" iI ["_law_rows","_law_cell_here","_law_great"]:=bK X G a20.ns a20.lk a20.cd a20.kp fun _ _ _ _ _ _ us hl=>match us,hl with | [_,_,_],_=>rfl
 have aCw:bD K mg "_law_far" jH ["_law_rows"]:=bK X G a21.ns a21.lk a21.cd a21.kp fun _ _ _ _ _ _ us hl=>match us,hl with | [_],_=>rfl
 have e:=hfa.symm.trans (Jf X G a22.ns);cases e;refine⟨Ef "law" "law" (fV rZ) (cU rZ) (aG rZ) .none kV22 dc22 pm22 an22 cd22 ct22,fun s v=>.of_eq rfl,fun base _ _=>?_⟩
 have O0:OC K 0:=r0.oc0 na00 na01;have FX0:=yM (st:=oU) lX0 cX0 kX0;have U0:vO l.prog w K mg base 1 0:=r0.mkr X G (aPr O0 FX0) (FX0.binds (ps:="self" :: cL 0) fun _ _ _ _ _ _ us hl=>match us,hl with | [_,_,_],_=>rfl)
 have O1:OC K 1:=r1.oc1 na10 na11 na12;have FX1:=yM (st:=gJ) lX1 cX1 kX1;have U1:vO l.prog w K mg base 1 1:=r1.mkr X G (aF2 O1 FX1) (FX1.binds (ps:="self" :: cL 1) fun _ _ _ _ _ _ us hl=>match us,hl with | [_,_,_,_],_=>rfl)
 have uE:L2.aH l.prog w K mg base (CXM l.prog w) 1 "check_alike" ["one","other"] (spM K (clK K) eQ):=iN (k:=0) B  uG;have wX:L2.aH l.prog w K mg base (CXM l.prog w) 2 "pairs" ["one","other"] (spM K (clK K) gG):=jE (k:=1) B (uE.mono (by decide)) xK
 have uD:L2.aH l.prog w K mg base (CXM l.prog w) 1 "check_count" ["many"] (spM K (clK K) eS):=iK (k:=0) B  uN;have wN:L2.aH l.prog w K mg base (CXM l.prog w) 2 "check_rows" ["many","rows"] (spM K (clK K) fN):=jM (k:=1) B (uD.mono (by decide)) yQ
 have aLt:L2.aH l.prog w K mg base (CXM l.prog w) 1 "units" ["many"] (spM K (clK K) nG):=wV (k:=0) B  nX;have aDa:L2.aH l.prog w K mg base (CXM l.prog w) 3 "mixed" ["width","often","rows"] (spM K (clK K) jP):=nA (k:=2) B (wX.mono (by decide)) nN
 have aIp:L2.aH l.prog w K mg base (CXM l.prog w) 1 "bezout" ["one","other"] (spM K (clK K) kC):=uB (k:=0) B  aHn;have aL9:L2.aH l.prog w K mg base (CXM l.prog w) 1 "swept" ["rows","top","way","bottom"] (spM K (clK K) nV):=xD (k:=0) B  qF;have aFn:L2.aH l.prog w K mg base (CXM l.prog w) 3 "cleared" ["many","rows"] (spM K (clK K) jC):=oP (k:=2) B O1 U1 (by decide) (aL9.mono (by decide)) iU
 have aGi:L2.aH l.prog w K mg base (CXM l.prog w) 3 "less" ["one","other"] (spM K (clK K) mB):=sG (k:=2) B (wX.mono (by decide)) aRe
 have aD6:L2.aH l.prog w K mg base (CXM l.prog w) 1 "times" ["row","many"] (spM K (clK K) iD):=lM (k:=0) B  aL1;have aFa:L2.aH l.prog w K mg base (CXM l.prog w) 3 "weighed" ["one","other"] (spM K (clK K) iV):=oS (k:=2) B (wX.mono (by decide)) aE9
 have aCc:L2.aH l.prog w K mg base (CXM l.prog w) 4 "narrowed" ["shares","weights","whole"] (spM K (clK K) hU):=mN (k:=3) B (aFa.mono (by decide)) (aIp.mono (by decide)) (aGi.mono (by decide)) (aD6.mono (by decide)) (aDa.mono (by decide)) aBk
 have aIf:L2.aH l.prog w K mg base (CXM l.prog w) 4 "tidied" ["shares"] (spM K (clK K) kM):=tX (k:=3) B (aGi.mono (by decide)) (aD6.mono (by decide)) aGz
 have mG:L2.aH l.prog w K mg base (CXM l.prog w) 5 "frame_of_cleared" ["many","found"] (spM K (clK K) cP):=eX (k:=4) B O1  (aLt.mono (by decide)) (aIf.mono (by decide)) (aCc.mono (by decide)) (aDa.mono (by decide)) mQ
 have aBq:L2.aH l.prog w K mg base (CXM l.prog w) 6 "frame_of" ["many","rows"] (spM K (clK K) gQ):=mO (k:=5) B (mG.mono (by decide)) (aFn.mono (by decide)) aBl
 have aFb:L2.aH l.prog w K mg base (CXM l.prog w) 7 "flat_of" ["many","rows"] (spM K (clK K) bX):=gK (k:=6) B O0 U0 (by decide) (wN.mono (by decide)) (aBq.mono (by decide)) aF6
 have pT:L2.aH l.prog w K mg base (CXM l.prog w) 1 "_law_cell" ["_law_script","_law_k"] (spM K (clK K) bC):=fC (k:=0) B  zP;have sJ:L2.aH l.prog w K mg base (CXM l.prog w) 1 "_law_numbers" ["_law_script","_law_start","_law_many","_law_size"] (spM K (clK K) eC):=gS (k:=0) B  tQ;have wJ:L2.aH l.prog w K mg base (CXM l.prog w) 2 "_law_drawn" ["_law_script","_law_start","_law_ways"] (spM K (clK K) dN):=jF (k:=1) B (pT.mono (by decide)) (sJ.mono (by decide)) wO
 have aAl:L2.aH l.prog w K mg base (CXM l.prog w) 1 "_law_deed" ["_law_rows","_law_cell_here","_law_great"] (spU K dI):=kT (k:=0) B  aBd;have aB4:L2.aH l.prog w K mg base (CXM l.prog w) 1 "_law_far" ["_law_rows"] (spM K (clK K) eY):=mF (k:=0) B  aCw;exact aT1 (k:=7) B O0  (pT.mono (by decide)) (wJ.mono (by decide)) (aFb.mono (by decide)) (aB4.mono (by decide)) (aAl.mono (by decide)) (yM (st:=rZ) a22.lk a22.cd a22.kp)
theorem walk {l:PySem.W.OpenLaw}{q:Program}{loose:List Str}{XP:(Str->Option Value)->Heap->Prop}{YP:World->Heap->Prop}{d:DefRec}{K:Params->PySem.W.Frag}(hn:l.most=some 63)(hdf:d.params.defaults=[])(hw:∀ ns:List Int,ns.length<=63->uU [.lst (ns.map .int)]=.ok (sc (.bl true)))
 (hY:∀ (w:World) (h:Heap),YP w h->(K w.params).In h) (hL:∀ P:Params,noL (K P)=true)
 (F:∀ (w:World) (mg:Str->Option Value) (fa:Addr) (h:Heap),(K w.params).In h->h.Ns mainGlobals mg->mg d.name=some (.ref fa) ->
  ∃ fd:FuncData,(∀ (s:Shared) (u:Value),BindsTo s fd ⟨[u],[]⟩ [("_law_script",u)])/\∀ base:Heap,(K w.params).In base->base.Ns mainGlobals mg->FnOk l.prog w (K w.params) mg base (CXM l.prog w) 8 fa fd ["_law_script"] (spM (K w.params) (clK (K w.params)) uU)) :
 PySem.W.WalkO q loose XP YP l.row.toRowW d [] (fun f vs=>PySem.call f vs) :=
 L2.aLw (n:=63) (k:=8) (x:="_law_script") (CX:=fun w=>CXM l.prog w) (sp:=fun w=>spM (K w.params) (clK (K w.params)) uU) hn (by decide) hdf ⟨rfl,by decide,by decide⟩ hY F (fun w _ _ ns hl _ hS=>aPf (hL w.params) (hw ns hl) hS) fun _ _ _ _ _ ⟨_,_,_,_,_,_,_,z⟩=>z
end N12
namespace Mir
open PySem L2
def wt (xs ys:List Int):Int:=((xs.zip ys).map fun p=>p.1*p.2).sum
theorem small {M:Nat}(hM:M<2^1000){x:Int}(h:x.natAbs<=M):x.natAbs<2^1000:=Cg h hM
theorem bA {α:Type}{xs:List α}{k:Nat}{d:α}(h:k<xs.length):xs.getD k d∈xs:=by
 rw[Aa,Ac h];exact Dd h
theorem gT {r:List Int}{w:Nat}(h:w<r.length):(li r)[w]?=some (.int (r.getD w 0)):=by
 simp[li,h,Aa]
theorem pB {xs ys:List Int}{f g:FE}{ρ:Mir.Env}{k k':Kd}{fr fr':Bool}(h1:f ρ=.ok ⟨k,fr,.lst (li xs)⟩)(h2:g ρ=.ok ⟨k',fr',.lst (li ys)⟩):mI f g ρ=.ok ⟨k != .own&&k' != .own,fr&&fr',(xs.zip ys).map fun p=>.tup [.int p.1,.int p.2]⟩:=by
 simp only[mI,h1,h2,R.ok_bind,asL,rK]
theorem aUp {C:Int->Int->Bool}{G:Int->Int->Int}{xs ys:List Int}{it:FI}{ρ:Mir.Env}{st fr:Bool}(hi:it ρ=.ok ⟨st,fr,(xs.zip ys).map fun p=>.tup [.int p.1,.int p.2]⟩)(hc:∀ x∈xs,∀ y∈ys,C x y=true)(hz:xs.length<=sizeLine) :
 aS it 2 [] (.tp [.nm 0,.nm 1]) (bE (i2E C G (vE 0) (vE 1))) ρ=.ok ⟨.tmp,true,.lst (li ((xs.zip ys).map fun p=>G p.1 p.2))⟩:=by
 have e:=cB (k:=2) (fs:=[]) (tg:=.tp [.nm 0,.nm 1]) (b:=bE (i2E C G (vE 0) (vE 1))) (out:=fun p=>.int (G p.1 p.2)) hi (fun p hp=>?_) ?_
 · rw[e];simp[li,Cn,Function.comp_def]
 · obtain⟨a,b⟩:=Bx hp
   exact⟨[some ⟨.shr,fr,.int p.1⟩,some ⟨.shr,fr,.int p.2⟩],.shr,rfl,dZ (aV (C:=C) (i:=p.1) (j:=p.2) rfl rfl (hc _ a _ b)),by decide⟩
 · rw[Cu];omega
abbrev aLa (s:FS):FS:=ifS (bT (neE (bJ (vE 0)) (bJ (vE 1)))) s cG
theorem aLk {s:FS}{xs ys:List D}(h:xs.length=ys.length):bY 2 2 (aLa s) [.lst xs,.lst ys]=.ok (sc .non):=by
 refine aCr (ρ:=[some ⟨.shr,false,.lst xs⟩,some ⟨.shr,false,.lst ys⟩]) rfl ?_
 refine(aHu (rW (eF (ds:=xs) rfl) (eF (ds:=ys) rfl))).trans ?_
 simp only[h,decide_true,Bool.not_true,Ep,if_false];rfl
abbrev xK (φ:Φ):FS:=aI (kP (aL φ [vE 0,vE 1])) (bS (aQ8 (vE 0) (vE 1)))
theorem aK5 {φ:Φ}{xs ys:List D}(h:φ [.lst xs,.lst ys]=.ok (sc .non)):bY 2 2 (xK φ) [.lst xs,.lst ys]=.ok ⟨.tmp,false,.lst (mV xs ys)⟩ :=
 dG (r:=⟨.tmp,false,.lst (mV xs ys)⟩) rfl ((aF (wP (gF (aB rfl (aB rfl aY)) h))).trans rfl)
abbrev aAn (φ:Φ)(C:Int->Int->Bool)(G:Int->Int->Int):FE:=aS (bV (aL φ [vE 0,vE 1])) 2 [] (.tp [.nm 0,.nm 1]) (bE (i2E C G (vE 0) (vE 1)))
theorem aNy {φ:Φ}{C:Int->Int->Bool}{G:Int->Int->Int}{xs ys:List Int}(h:φ [.lst (li xs),.lst (li ys)]=.ok ⟨.tmp,false,.lst (mV (li xs) (li ys))⟩)(hc:∀ x∈xs,∀ y∈ys,C x y=true)(hz:xs.length<=sizeLine) :
 aAn φ C G [some ⟨.shr,false,.lst (li xs)⟩,some ⟨.shr,false,.lst (li ys)⟩]=.ok ⟨.tmp,true,.lst (li ((xs.zip ys).map fun p=>G p.1 p.2))⟩:=by
 have e:=kA (φ:=φ) (fs:=[vE 0,vE 1]) (ρ:=[some ⟨.shr,false,.lst (li xs)⟩,some ⟨.shr,false,.lst (li ys)⟩]) (aB rfl (aB rfl aY)) h rfl;exact aUp ((fA e).trans (by rw[rK])) hc hz
theorem aTt {φ:Φ}{C:Int->Int->Bool}{G:Int->Int->Int}{xs ys:List Int}(h:φ [.lst (li xs),.lst (li ys)]=.ok ⟨.tmp,false,.lst (mV (li xs) (li ys))⟩)(hc:∀ x∈xs,∀ y∈ys,C x y=true)(hz:xs.length<=sizeLine) :
 bY 2 2 (bS (aAn φ C G)) [.lst (li xs),.lst (li ys)]=.ok ⟨.tmp,true,.lst (li ((xs.zip ys).map fun p=>G p.1 p.2))⟩ :=
 dG (r:=⟨.tmp,true,_⟩) rfl (nP (aNy h hc hz))
theorem aE1 {φ:Φ}{xs ys:List Int}(h:φ [.lst (li xs),.lst (li ys)]=.ok ⟨.tmp,false,.lst (mV (li xs) (li ys))⟩)(hc:∀ x∈xs,∀ y∈ys,CM x y=true)(hz:xs.length<=sizeLine) :
 bY 2 2 (bS (aE8 (aAn φ CM fun i j=>i*j))) [.lst (li xs),.lst (li ys)]=.ok (sc (.int (wt xs ys))) :=
 (dG (r:=sc (.int (wt xs ys))) rfl (jQ (aP3 (aNy h hc hz)))).trans rfl
abbrev wG (i:Nat):FE:=aS (bV (vE 0)) 1 [i] (.nm 0) (bE (bP (vE 0) (vE 1)))
theorem aMn {xs:List Int}{k:Int}{i:Nat}{ρ:Mir.Env}{kd:Kd}{fr fr':Bool}(h0:vE 0 ρ=.ok ⟨kd,fr,.lst (li xs)⟩)(hi:ρ[i]?=some (some ⟨.shr,fr',.int k⟩))(hc:∀ x∈xs,CM x k=true)(hz:xs.length<=sizeLine):wG i ρ=.ok ⟨.tmp,true,.lst (li (xs.map (·*k)))⟩:=by
 have ce:eW 1 [i] ρ=[none,some ⟨.shr,fr',.int k⟩]:=by simp[eW,hi]
 have e:=cB (k:=1) (fs:=[i]) (tg:=.nm 0) (b:=bE (bP (vE 0) (vE 1))) (inj:=D.int) (out:=fun x=>.int (x*k)) (fA h0) (fun x hx=>⟨[some ⟨.shr,fr,.int x⟩,some ⟨.shr,fr',.int k⟩],.shr,by rw[ce];rfl,dZ (aV (C:=CM) (i:=x) (j:=k) rfl rfl (hc x hx)),by decide⟩) hz
 exact e.trans (by simp[li,Function.comp_def])
theorem aKr {xs:List Int}{k:Int}(hc:∀ x∈xs,CM x k=true)(hz:xs.length<=sizeLine):bY 2 2 (bS (wG 1)) [.lst (li xs),.int k]=.ok ⟨.tmp,true,.lst (li (xs.map (·*k)))⟩ :=
 dG (r:=⟨.tmp,true,_⟩) rfl (nP (aMn (ρ:=[some ⟨.shr,false,.lst (li xs)⟩,some ⟨.shr,false,.int k⟩]) rfl rfl hc hz))
theorem gC {i j:Int}(h:0<j):CP i j=true:=decide_eq_true h
theorem nO {i j:Int}(h:0<j)(h2:j.natAbs<2^250):CD i j=true:=by
 have:j.natAbs.log2<9000:=by
  by_cases z:j.natAbs=0
  · rw[z];decide
  · exact Ez ((Nat.log2_lt z).mpr h2) (by decide)
 unfold CD;rw[decide_eq_true h,decide_eq_true this];rfl
theorem aDh {f g:FE}{ρ:Mir.Env}{kd kd':Kd}{fr fr':Bool}{ds:List D}{k:Int}(h1:f ρ=.ok ⟨kd,fr,.lst ds⟩)(h2:g ρ=.ok ⟨kd',fr',.int k⟩)(c:kd≠.shr/\-(2^63)<=k/\k<2^63/\ds.length*k.toNat<=sizeLine):yO f g ρ=.ok ⟨.tmp,fr,.lst (Ao k.toNat ds).flatten⟩:=by
 simp only[yO,h1,h2,R.ok_bind,asL,asI];rw[if_pos c]
theorem tU {i:Nat}{s:FS}{ρ:Mir.Env}{e:Res}(h:ρ[i]?=some (some e)):cN i s ρ=s (ρ.set i (some ⟨.shr,e.fr,e.d⟩)):=by simp only[cN,frz,h]
end Mir
namespace Sm
open Srt
abbrev Tm:=List Int×Int
def look (A:List Tm)(k:List Int):Int:=match A with
 | []=>0
 | p :: r=>if p.1=k then p.2 else look r k
def put (A:List Tm)(k:List Int)(v:Int):List Tm:=if k∈A.map (·.1) then A.map fun p=>if p.1=k then (p.1,v) else p else A++[(k,v)]
theorem aF9 {A:List Tm}{k:List Int}(h:k∉A.map (·.1)):look A k=0:=by
 induction A with
 | nil=>rfl
 | cons q r ih =>
  have h':k≠q.1/\k∉r.map (·.1):=by simpa using h
  simp only[look,if_neg (Ne.symm h'.1)];exact ih h'.2
def aTm (A:List Tm):List Tm:=srt px (A.filter fun p=>p.2 != 0)
def sgn (m:Nat):Int:=1-2*((m:Int)%2)
def uQ (p:List Int):Nat->Nat
 | 0=>0
 | j+1=>uQ p j+((p.take j).filter fun b=>decide (p.getD j 0<b)).length
def inv (p:List Int):Nat:=uQ p p.length
def val (t:Tm):Int:=if t.1.Nodup then sgn (inv t.1)*t.2 else 0
def key (t:Tm):List Int:=srt ix t.1
def step (A:List Tm)(t:Tm):List Tm:=put A (key t) (look A (key t)+val t)
def acc (A:List Tm)(ts:List Tm):List Tm:=ts.foldl step A
def aT8 (ts:List Tm):List Tm:=aTm (acc [] ts)
theorem aP9 (m:Nat):sgn m=1\/sgn m=-1:=by unfold sgn;omega
end Sm
namespace Sm
open PySem L2 Mir Srt
theorem uT {α:Type}{tg:Tg}{b:FB}{fr:Bool}{ρ:Mir.Env}{inj out:α->D}{c:α->Bool}:∀ (xs:List α),(∀ x∈xs,∃ ρ1 k,tg.bind fr (inj x) ρ=.ok ρ1/\b ρ1=.ok (if c x then some ⟨k,true,out x⟩ else none)/\k≠.own)->iT tg b fr ρ (xs.map inj)=.ok (true,(xs.filter c).map out)
 | [],_=>rfl
 | x :: r,h=>by
  obtain⟨ρ1,k,h1,h2,h3⟩:=h x Ad;have ih:=uT r fun y hy=>h y (Ae _ hy);cases z:c x with
  | true =>
   rw[z]at h2;simp only[Aj,iT,h1,R.ok_bind,h2,if_true,Res.give,if_neg h3,ih,List.filter_cons,z];rfl
  | false =>
   rw[z]at h2;simp only[Aj,iT,h1,R.ok_bind,h2,Ep,if_false,ih,List.filter_cons,z]
theorem aG9 {α:Type}{it:FI}{tg:Tg}{b:FB}{fr st:Bool}{ρ:Mir.Env}{k:Nat}{fs:List Nat}{inj out:α->D}{c:α->Bool}{xs:List α}(hi:it ρ=.ok ⟨st,fr,xs.map inj⟩)
 (h:∀ x∈xs,∃ ρ1 k',tg.bind fr (inj x) (eW k fs ρ)=.ok ρ1/\b ρ1=.ok (if c x then some ⟨k',true,out x⟩ else none)/\k'≠.own) (hz:xs.length<=sizeLine):aS it k fs tg b ρ=.ok ⟨.tmp,true,.lst ((xs.filter c).map out)⟩:=by
 have:=uT xs h
 simp only[aS,hi,R.ok_bind,this,Ab,if_pos hz]
theorem aPc {t:FT}{f:FE}{ρ:Mir.Env}{c:Bool}{r:Res}(h:t ρ=.ok c)(hf:c=true->f ρ=.ok r):Mir.bIf t f ρ=.ok (if c then some r else none):=by
 cases c with
 | true=>simp only[Mir.bIf,h,R.ok_bind,if_true,hf rfl]
 | false=>simp only[Mir.bIf,h,R.ok_bind,Ep,if_false]
def trn (p:List Int):Int:=if p.Nodup then sgn (inv p) else 0
end Sm
namespace Sm
open PySem L2 Mir Srt
theorem tN (t:Tm):val t=trn t.1*t.2:=by
 unfold val trn;split
 · rfl
 · rw[Ch]
theorem aDn (t:Tm):(key t).length=t.1.length:=aLg _
end Sm
namespace Sm
open PySem L2 Mir Srt
def nm (b:Prop)[Decidable b](n:Int):Int:=if b then n else 0
variable (a0 a1 x7:Option Res)(f2:Bool)(p:List Int)(n:Int)
end Sm
namespace Sm
open PySem L2 Mir Srt
theorem mY (t:Tm):(key t).Perm t.1:=hG _
def dD (a b:List Tm):List Tm:=a.flatMap fun s=>b.map fun t=>(s.1++t.1,s.2*t.2)
end Sm
namespace Sm
open PySem L2 Mir Srt
theorem aCz {p:List Int}(h:p.Pairwise fun a b=>ix b a=false):inv p=0:=by
 have go:∀ j,j<=p.length->uQ p j=0:=by
  intro j;induction j with
  | zero=>intro _;rfl
  | succ j ih =>
   intro hj;have hlt:j<p.length:=by omega
   show uQ p j+_=0
   rw[ih (by omega),Dp,Cy,List.filter_eq_nil_iff]
   intro b hb;obtain⟨i,hi,e⟩:=Bg.mp hb;have hi':i<j:=by rw[Bj]at hi;omega
   have q:=(Fe.mp h) i j (by omega) hlt hi'
   have e2:b=p[i]:=by rw[←e];simp
   have e3:p.getD j 0=p[j]:=by simp[hlt]
   rw[e2,e3];unfold ix at q;simpa using q
 exact go p.length (Ah _)
structure Told (S:List Tm):Prop where
 up:∀ t∈S,t.1.Pairwise fun a b=>ix b a=false
 nd:∀ t∈S,t.1.Nodup
 ks:(S.map (·.1)).Nodup
 nz:∀ t∈S,t.2≠0
 so:S.Pairwise fun a b=>px b a=false
theorem Told.val {S:List Tm}(h:Told S){t:Tm}(ht:t∈S):val t=t.2:=by
 unfold Sm.val;rw[if_pos (h.nd t ht),aCz (h.up t ht)];show (1-2*((0:Int)%2))*t.2=t.2
 omega
theorem Told.key {S:List Tm}(h:Told S){t:Tm}(ht:t∈S):key t=t.1:=(xL wU (Fo _) (h.up t ht)).symm
theorem aBa {S:List Tm}(h:Told S):∀ (T B:List Tm),(∀ t∈T,t∈S)->(((B++T).map (·.1)).Nodup)->acc B T=B++T
 | [],B,_,_=>by simp[acc]
 | t :: T,B,hs,nd=>by
  have ht:=hs t Ad
  have nm:t.1∉B.map (·.1):=by
   rw[Dm,List.nodup_append]at nd;intro m;exact nd.2.2 t.1 m t.1 (by simp) rfl
  have e:step B t=B++[t]:=by
   unfold step;rw[h.key ht,aF9 nm,h.val ht,Int.zero_add];unfold put;rw[if_neg nm]
  show acc (step B t) T=_
  rw[e,aBa h T (B++[t]) (fun u hu=>hs u (Ae _ hu)) (by simpa using nd)]
  simp
theorem Told.same {S:List Tm}(h:Told S):aT8 S=S:=by
 unfold aT8;rw[aBa h S [] (fun _ z=>z) (by simpa using h.ks),Dz]
 unfold aTm;have e:S.filter (fun p=>p.2 != 0)=S:=List.filter_eq_self.mpr fun t ht=>by simpa using h.nz t ht
 rw[e];exact(xL aPp (Fo _) h.so).symm
theorem zI (S:List Tm):dD [([],1)] S=S:=by
 unfold dD;rw[List.flatMap_cons,List.flatMap_nil,Cv];have:∀ t∈S,(([]:List Int)++t.1,(1:Int)*t.2)=t:=fun t _=>by rw[Dz,Fh]
 exact(Ct this).trans (List.map_id' _)
theorem aAs (S:List Tm):dD S [([],1)]=S:=by
 unfold dD;induction S with
 | nil=>rfl
 | cons t S ih =>
  rw[List.flatMap_cons,ih];show (t.1++[],t.2*1) :: S=t :: S
  rw[Cv,Hv]
end Sm
namespace Sm
open PySem L2 Mir Srt
theorem sm9 {x:Int}(h:x.natAbs<=1000000000):x.natAbs<2^1000:=small (M:=1000000000) (aRf (by decide)) h
end Sm
namespace Sm
open PySem L2 Mir Srt
def aRd (m:Nat):List Int:=(Bf m).map fun (i:Nat)=>(i:Int)
theorem aJa (m:Nat):(aRd m).length=m:=by simp[aRd]
structure Draw (m:Nat)(W F:List Int)(j:Nat):Prop where
 pm:(W++F).Perm (aRd m)
 ln:F.length=j
theorem Draw.wl {m:Nat}{W F:List Int}{j:Nat}(d:Draw m W F j):W.length+j=m:=by
 have:=d.pm.length_eq
 rw[Al,d.ln,aJa]at this;exact this
end Sm
namespace Sm
open PySem L2 Mir Srt
def fD (ns:List Int)(k:Nat):Int:=if k<ns.length then ns.getD k 0%2147483647 else 0
theorem aA9 (ns:List Int)(k:Nat):0<=fD ns k/\fD ns k<2147483647:=by
 unfold fD;split
 · exact⟨By _ (by decide),Bq _ (by decide)⟩
 · decide
abbrev aPu:FS:=(aI (ifS (bT (ltE (vE 1) (bJ (vE 0))))
 (bS (bW (aT (vE 0) (vE 1)) (cE (.int 2147483647))))
 cG)
 (bS (cE (.int 0))))
theorem aQj (ns:List Int)(k:Nat):bY 2 2 aPu [.lst (li ns),.int k]=.ok (sc (.int (fD ns k))):=by
 refine(dG (r:=sc (.int (fD ns k))) rfl ?_).trans rfl
 have t:ltE (vE 1) (bJ (vE 0)) (stE 2 [.lst (li ns),.int k])=.ok (sc (.bl (decide ((k:Int)<(li ns).length)))):=cW (i:=(k:Int)) (j:=((li ns).length:Int)) rfl (eF (ds:=li ns) rfl);by_cases h:k<ns.length
 · refine(aG4 (r:=sc (.int (fD ns k))) ?_)
   refine(aHu t).trans ?_
   rw[decide_eq_true (by simpa using h)]
   refine(if_pos rfl).trans ?_
   have e:=aV (C:=CP) (G:=fun i j=>i%j) (f:=aT (vE 0) (vE 1)) (g:=cE (.int 2147483647)) (ρ:=[some ⟨.shr,false,.lst (li ns)⟩,some ⟨.shr,false,.int k⟩]) (j:=2147483647) (eU (ds:=li ns) (i:=k) (z:=ns.getD k 0) rfl rfl (gT h)) rfl (decide_eq_true (by decide))
   refine(jQ e).trans ?_
   unfold fD;rw[if_pos h];rfl
 · refine(aF (ρ1:=stE 2 [.lst (li ns),.int k]) ?_).trans ?_
   · refine(aHu t).trans ?_
     rw[decide_eq_false (by simpa using h)]
     rfl
   · unfold fD
     rw[if_neg h];rfl
end Sm
namespace Hm
open PySem L2 Mir
def BR (N:Nat)(r:List Int):Prop:=∀ x∈r,x.natAbs<2^N
def BN (N:Nat)(t:List (List Int)):Prop:=∀ r∈t,BR N r
theorem iA {a b:Nat}(h:a<=b):2^a<=2^b:=Cp (by decide) h
theorem log2_lt {n N:Nat}(hN:0<N)(h:n<2^N):n.log2<N:=by
 by_cases z:n=0
 · subst z;simpa using hN
 · exact(Nat.log2_lt z).mpr h
theorem aFp {i j:Int}{N:Nat}(h1:i.natAbs<2^N)(h2:j.natAbs<2^N)(h0:0<N)(hN:N<=1000000):CM i j=true:=by
 unfold CM;rw[Da,decide_eq_true_iff,decide_eq_true_iff];exact⟨Af (log2_lt h0 h1) hN,Af (log2_lt h0 h2) hN⟩
theorem aR8 {i j:Int}{N:Nat}(h:j≠0)(h2:j.natAbs<2^N)(h0:0<N)(hN:N<=9000):CF i j=true:=by
 unfold CF;rw[Da,decide_eq_true_iff,decide_eq_true_iff];exact⟨h,Af (log2_lt h0 h2) hN⟩
theorem aRg {i j:Int}{N:Nat}(h:0<j)(h2:j.natAbs<2^N)(h0:0<N)(hN:N<=9000):CD i j=true:=by
 unfold CD;rw[Da,decide_eq_true_iff,decide_eq_true_iff];exact⟨h,Af (log2_lt h0 h2) hN⟩
theorem pF {a b:Int}{N M:Nat}(h1:a.natAbs<2^N)(h2:b.natAbs<2^M):(a*b).natAbs<2^(N+M):=by
 rw[Eh,Gy];exact Nat.mul_lt_mul'' h1 h2
theorem aId {a b:Int}{N:Nat}(h1:a.natAbs<2^N)(h2:b.natAbs<2^N):(a-b).natAbs<2^(N+1):=by
 rw[Ir];omega
theorem aTd {a b:Int}{N:Nat}(h1:a.natAbs<2^N)(h2:b.natAbs<2^N):(a+b).natAbs<2^(N+1):=by
 rw[Ir];omega
theorem qU (a b:Int)(h:0<b):(a/b).natAbs<=a.natAbs:=by
 have e:=Int.mul_ediv_add_emod a b;have h1:=Bq a h;have h2:=By a (show b≠0 by omega)
 generalize a/b=q at *
 generalize a%b=r at *
 rcases Hg q 0 with z | z | z
 · have e2:0<=(b-1)*(-(q+1)):=Int.mul_nonneg (by omega) (by omega)
   have e3:(b-1)*(-(q+1))=- (b*q)-b+q+1:=by rw[Int.mul_neg,Gc,Hw,Hv,Fh];omega
   omega
 · omega
 · have:1*q<=b*q:=Int.mul_le_mul_of_nonneg_right (by omega) (by omega)
   omega
theorem aKz (a b:Int)(h:b≠0):(a.fdiv b).natAbs<=a.natAbs:=by
 rcases Int.lt_or_gt_of_ne h with hb | hb
 · have:=qU (-a) (-b) (by omega)
   rw[←Fd (-a) (show 0≤-b by omega),Int.neg_fdiv_neg]at this
   omega
 · rw[Fd a (show 0<=b by omega)]
   exact qU a b hb
end Hm
namespace Hm
open PySem L2 Mir
abbrev aNo:FE:=aS (mI (vE 8) (vE 4)) 2 [3,5,8,2] (.tp [.nm 0,.nm 1]) (bE (aBo (fR (bP (vE 3) (vE 0)) (bP (aT (vE 4) (vE 5)) (vE 1))) (vE 2)))
abbrev aG7:FS:=ifS (bT (eqE (vE 7) (vE 1))) (cN 4 (jY 6 (vE 4))) (jY 6 aNo)
abbrev qF:FS:=aI (aC 4 (aT (vE 0) (vE 1))) (aI (aC 5 (aT (vE 4) (vE 2))) (aI (aC 6 (cF [])) (aI (cN 0 (dY (mU (vE 0)) (.tp [.nm 7,.nm 8]) aG7)) (bS (vE 6)))))
def swr (c r:List Int)(w:Nat)(b:Int):List Int:=(r.zip c).map fun q=>(c.getD w 0*q.1-r.getD w 0*q.2).fdiv b
def swp (t:List (List Int))(i w:Nat)(b:Int):List (List Int):=t.zipIdx.map fun p=>if p.2=i then t.getD i [] else swr (t.getD i []) p.1 w b
abbrev sE (t:List (List Int))(i w:Nat)(b:Int)(x4 x5 x6 x7 x8:Option Res):Mir.Env:=[some ⟨.shr,false,.lst (lil t)⟩,some ⟨.shr,false,.int i⟩,some ⟨.shr,false,.int w⟩,some ⟨.shr,false,.int b⟩,x4,x5,x6,x7,x8]
abbrev rR (r:List Int):Option Res:=some ⟨.shr,false,.lst (li r)⟩
abbrev nR (z:Int):Option Res:=some ⟨.shr,true,.int z⟩
theorem hV {t:List (List Int)}{i:Nat}(h:i<t.length):(lil t)[i]?=some (.lst (li (t.getD i []))):=by
 unfold lil;rw[Ax,Aa,Ac h];rfl
theorem aS9 {t:List (List Int)}{i w N:Nat}{b:Int}{c r:List Int}{x6 x7:Option Res}(hb:b≠0)(hbN:b.natAbs<2^N)(hN:0<N)(h9:N<=9000)(hc:BR N c)(hr:BR N r)(wc:w<c.length)(wr:w<r.length)(hz:r.length<=sizeLine) :
 aNo (sE t i w b (rR c) (nR (c.getD w 0)) x6 x7 (rR r))=.ok ⟨.tmp,true,.lst (li (swr c r w b))⟩:=by
 have e:=cB (ρ:=sE t i w b (rR c) (nR (c.getD w 0)) x6 x7 (rR r)) (k:=2) (fs:=[3,5,8,2]) (tg:=.tp [.nm 0,.nm 1]) (b:=bE (aBo (fR (bP (vE 3) (vE 0)) (bP (aT (vE 4) (vE 5)) (vE 1))) (vE 2)))
  (out:=fun q:Int×Int=>.int ((c.getD w 0*q.1-r.getD w 0*q.2).fdiv b)) (pB (f:=vE 8) (g:=vE 4) (xs:=r) (ys:=c) (k:=.shr) (k':=.shr) (fr:=false) (fr':=false) rfl rfl) (fun q hq=>?_) ?_
 · refine e.trans ?_
   unfold swr li;rw[Cn];rfl
 · obtain⟨q1,q2⟩:=Bx hq
   have cw:(c.getD w 0).natAbs<2^N:=hc _ (Mir.bA wc);have rw':(r.getD w 0).natAbs<2^N:=hr _ (Mir.bA wr);refine⟨[some ⟨.shr,false,.int q.1⟩,some ⟨.shr,false,.int q.2⟩,some ⟨.shr,false,.int b⟩,nR (c.getD w 0),rR r,some ⟨.shr,false,.int w⟩],.shr,rfl,dZ ?_,by decide⟩
   refine aV (aV (aV (k:=.shr) (fr:=true) (i:=c.getD w 0) rfl (k':=.shr) (fr':=true) (j:=q.1) rfl (aFp cw (hr _ q1) hN (by omega))) (aV (eU (k:=.shr) (fr:=false) (ds:=li r) (i:=w) rfl (k':=.shr) (fr':=true) rfl (gT wr)) (k':=.shr) (fr':=true) (j:=q.2) rfl (aFp rw' (hc _ q2) hN (by omega))) rfl) (k':=.shr) (fr':=true) (j:=b) rfl (aR8 hb hbN hN (by omega))
 · rw[Cu];omega
theorem aTa {N w:Nat}{b:Int}{c r:List Int}(hb:b≠0)(hc:BR N c)(hr:BR N r)(wc:w<c.length)(wr:w<r.length):BR (2*N+1) (swr c r w b):=fun x hx=>by
 obtain⟨q,hq,rfl⟩:=Ai.mp hx;obtain⟨q1,q2⟩:=Bx hq;refine Cg (aKz _ _ hb) ?_
 rw[show 2*N+1=(N+N)+1 by omega]
 exact aId (pF (hc _ (Mir.bA wc)) (hr _ q1)) (pF (hr _ (Mir.bA wr)) (hc _ q2))
theorem aDy {w:Nat}{b:Int}{c r:List Int}:(swr c r w b).length=min r.length c.length:=by
 unfold swr;rw[Ab,Cu]
theorem aDf {t:List (List Int)}{i w:Nat}{b:Int}:(swp t i w b).length=t.length:=by
 unfold swp;rw[Ab,Gv]
theorem aMo {t:List (List Int)}{i w N:Nat}{b:Int}(hi:i<t.length)(hw:∀ r∈t,w<r.length)(hl:∀ r∈t,r.length<=1000)(ht:t.length<=1000)(hb:b≠0)(hbN:b.natAbs<2^N)(hN:0<N)(h9:N<=9000)(hB:BN N t) :
 ∃ fr,bY 4 9 qF [.lst (lil t),.int i,.int w,.int b]=.ok ⟨.tmp,fr,.lst (lil (swp t i w b))⟩:=by
 have cm:t.getD i []∈t:=Mir.bA hi;generalize hc:t.getD i []=c at cm
 have e1:aC 4 (aT (vE 0) (vE 1)) (sE t i w b none none none none none)=.nx (sE t i w b (rR c) none none none none):=by
  have:=set_shr (i:=4) (fT (f:=vE 0) (g:=vE 1) (ρ:=sE t i w b none none none none none) (k:=.shr) (fr:=false) (ds:=lil t) (i:=i) rfl (k':=.shr) (fr':=true) rfl (hV hi))
  rw[hc]at this;exact this
 have e2:aC 5 (aT (vE 4) (vE 2)) (sE t i w b (rR c) none none none none)=.nx (sE t i w b (rR c) (nR (c.getD w 0)) none none none) :=
  set_shr (eU (k:=.shr) (fr:=false) (ds:=li c) (i:=w) rfl (k':=.shr) (fr':=true) rfl (gT (hw c cm)))
 have e3:aC 6 (cF []) (sE t i w b (rR c) (nR (c.getD w 0)) none none none)=.nx (sE t i w b (rR c) (nR (c.getD w 0)) (some ⟨.own,true,.lst []⟩) none none):=rfl
 have ei:mU (vE 0) (sE t i w b (rR c) (nR (c.getD w 0)) (some ⟨.own,true,.lst []⟩) none none)=.ok ⟨true,false,t.zipIdx.map fun p=>.tup [.int p.2,.lst (li p.1)]⟩:=by
  have:rV (lil t)=t.zipIdx.map fun p=>.tup [.int p.2,.lst (li p.1)]:=yG (fun r=>.lst (li r)) t
  rw[←this];rfl
 obtain⟨ρ',e4,fr,x7,x8,e5⟩:=aA8 (tg:=.tp [.nm 7,.nm 8]) (b:=aG7) (fr:=false) (inj:=fun p:List Int×Nat=>.tup [.int p.2,.lst (li p.1)]) (out:=fun p=>.lst (li (if p.2=i then c else swr c p.1 w b)))
  (E:=fun acc ρ=>∃ fr x7 x8,ρ=sE t i w b (rR c) (nR (c.getD w 0)) (some ⟨.own,fr,.lst acc⟩) x7 x8) t.zipIdx [] (sE t i w b (rR c) (nR (c.getD w 0)) (some ⟨.own,true,.lst []⟩) none none) (fun p hp acc ρ ha ⟨fr,x7,x8,hρ⟩=>by
   subst hρ
   have pm:p.1∈t:=by
    have:=Gu hp
    rw[this.2.2];exact Dd _
   refine⟨sE t i w b (rR c) (nR (c.getD w 0)) (some ⟨.own,fr,.lst acc⟩) (some ⟨.shr,false,.int p.2⟩) (rR p.1),?_⟩
   have tst:bT (eqE (vE 7) (vE 1)) (sE t i w b (rR c) (nR (c.getD w 0)) (some ⟨.own,fr,.lst acc⟩) (some ⟨.shr,false,.int p.2⟩) (rR p.1))=.ok (decide ((p.2:Int)=(i:Int))):=dH (jS (k:=.shr) (fr:=true) (i:=(p.2:Int)) rfl (k':=.shr) (fr':=true) (j:=(i:Int)) rfl);by_cases z:p.2=i
   · refine⟨sE t i w b (rR c) (nR (c.getD w 0)) (some ⟨.own,fr&&false,.lst (acc++[.lst (li c)])⟩) (some ⟨.shr,false,.int p.2⟩) (rR p.1),rfl,(cM tst).trans ?_,fr&&false,some ⟨.shr,false,.int p.2⟩,rR p.1,?_⟩
     · rw[decide_eq_true (by omega),if_pos rfl]
       exact tG (k:=.shr) (fr':=false) (d:=.lst (li c)) rfl rfl (by decide) ha
     · rw[if_pos z]
   · refine⟨sE t i w b (rR c) (nR (c.getD w 0)) (some ⟨.own,fr&&true,.lst (acc++[.lst (li (swr c p.1 w b))])⟩) (some ⟨.shr,false,.int p.2⟩) (rR p.1),rfl,(cM tst).trans ?_,fr&&true,some ⟨.shr,false,.int p.2⟩,rR p.1,?_⟩
     · rw[decide_eq_false (by omega),if_neg (by decide)]
       exact tG (k:=.tmp) (fr':=true) rfl (aS9 hb hbN hN h9 (hB c cm) (hB _ pm) (hw c cm) (hw _ pm) (by have:=hl _ pm;rw[sizeLine_eq];omega)) (by decide) ha
     · rw[if_neg z]) (by rw[Gv,List.length_nil,sizeLine_eq];omega) ⟨true,none,none,rfl⟩
 refine⟨fr,?_⟩
 subst e5
 have e6:cN 0 (dY (mU (vE 0)) (.tp [.nm 7,.nm 8]) aG7) (sE t i w b (rR c) (nR (c.getD w 0)) (some ⟨.own,true,.lst []⟩) none none)=.nx (sE t i w b (rR c) (nR (c.getD w 0)) (some ⟨.own,fr,.lst (lil (swp t i w b))⟩) x7 x8):=by
  refine(tU (e:=⟨.shr,false,.lst (lil t)⟩) rfl).trans ((gA ei).trans ?_)
  rw[e4,Dz]
  have:List.map (fun p:List Int×Nat=>D.lst (li (if p.2=i then c else swr c p.1 w b))) t.zipIdx=lil (swp t i w b):=by
   unfold swp lil;rw[Cn,hc];rfl
  rw[this]
 refine(dG (np:=4) (n:=9) (s:=qF) (ds:=[.lst (lil t),.int i,.int w,.int b]) (r:=⟨.tmp,fr,.lst (lil (swp t i w b))⟩) rfl ((aF e1).trans ((aF e2).trans ((aF e3).trans ((aF e6).trans ?_))))).trans ?_
 · exact lH (by cases fr<;>rfl)
 · cases fr<;>rfl
end Hm
namespace Hm
open PySem L2 Mir
theorem aDz (xs:List D)(j:Nat):uM xs none (some (j:Int))=xs.take j:=by
 unfold uM;rw[HT.zL,HT.qZ,List.drop_zero,Nat.sub_zero,List.take_eq_take_iff];omega
theorem aSz (xs:List D)(j:Nat):uM xs (some (j:Int)) none=xs.drop j:=by
 unfold uM;rw[HT.zL,HT.qZ];by_cases h:j<=xs.length
 · rw[Ii h];exact Hh (by rw[Eo];omega)
 · rw[Nat.min_eq_right (by omega),Jj,El (Ah _),El (by omega)];rfl
theorem aN3 (xs:List D){i p:Nat}(h:i<=p)(hp:p<=xs.length):uM xs (some (i:Int)) (some (p:Int))=(xs.take p).drop i:=by
 unfold uM;rw[HT.qZ,HT.qZ,Ii hp,Ii (show i<=xs.length by omega),List.drop_take]
theorem vU {f g:FE}{ρ:Mir.Env}{k k':Kd}{fr fr':Bool}{ds es:List D}(h1:f ρ=.ok ⟨k,fr,.lst ds⟩)(h2:g ρ=.ok ⟨k',fr',.lst es⟩)(c:ds.length+es.length<=sizeLine):kG f g ρ=.ok ⟨.tmp,fr&&fr',.lst (ds++es)⟩:=by
 simp only[kG,h1,h2,R.ok_bind,asL,if_pos c]
theorem aVb {f:FE}{ρ:Mir.Env}{fr:Bool}{d:D}(h:f ρ=.ok ⟨.shr,fr,d⟩):cF [f] ρ=.ok ⟨.tmp,fr&&true,.lst [d]⟩:=by
 have ev:=aB h (aY (ρ:=ρ));simp only[cF,ev,R.ok_bind];rfl
def nb (N:Nat):Nat->Nat
 | 0=>N
 | j+1=>2*nb N j+1
theorem aKa (N:Nat):∀ j,nb N j+1=2^j*(N+1)
 | 0=>by simp[nb]
 | j+1=>by
  have:=aKa N j
  rw[Ir,Nat.mul_right_comm,←this];show 2*nb N j+1+1=_
  omega
theorem pM (N:Nat){i j:Nat}(h:i<=j):nb N i<=nb N j:=by
 have a:=aKa N i;have b:=aKa N j;have:2^i*(N+1)<=2^j*(N+1):=Fk _ (iA h)
 omega
structure Cs where
 t:List (List Int)
 hs:List Nat
 b:Int
def fnd (t:List (List Int))(i w:Nat):List Nat:=(Bv i (t.length-i)).filter fun p=>!decide ((t.getD p []).getD w 0=0)
def mvd (t:List (List Int))(i p:Nat):List (List Int):=t.take i++[t.getD p []]++(t.take p).drop i++t.drop (p+1)
def eG (s:Cs)(w:Nat):Cs:=match fnd s.t s.hs.length w with
 | []=>s
 | p :: _=>⟨swp (mvd s.t s.hs.length p) s.hs.length w s.b,s.hs++[w],(s.t.getD p []).getD w 0⟩
theorem xN {t:List (List Int)}{i p:Nat}(h:i<=p)(hp:p<t.length):(mvd t i p).length=t.length:=by
 unfold mvd;simp only[Al,Bj,Eo,Bn];omega
theorem jO {t:List (List Int)}{i p:Nat}(hp:p<t.length){r:List Int}(h:r∈mvd t i p):r∈t:=by
 unfold mvd at h;simp only[An,Ap]at h;rcases h with ((h | h) | h) | h
 · exact Cf h
 · rw[h];exact Mir.bA hp
 · exact Cf (Di h)
 · exact Di h
theorem aCf {t:List (List Int)}{i p:Nat}(h:i<=p)(hp:p<t.length):(mvd t i p).getD i []=t.getD p []:=by
 unfold mvd;rw[Aa,Co,Co,Bb (by rw[Bj];omega),Bj,Ii (by omega),Jj]
 rfl
theorem aQg {t:List (List Int)}{i w:Nat}{b:Int}(h:i<t.length):(swp t i w b).getD i []=t.getD i []:=by
 unfold swp;rw[Aa,Ax,List.getElem?_zipIdx,Ac h];simp
theorem aEg {t:List (List Int)}{i w:Nat}{b:Int}(hi:i<t.length){r:List Int}(h:r∈swp t i w b):r∈t\/∃ q∈t,r=swr (t.getD i []) q w b:=by
 unfold swp at h;obtain⟨p,hp,rfl⟩:=Ai.mp h
 have pm:p.1∈t:=by
  have:=Gu hp
  rw[this.2.2];exact Dd _
 by_cases z:p.2=i
 · rw[if_pos z];exact .inl (Mir.bA hi)
 · rw[if_neg z];exact .inr ⟨p.1,pm,rfl⟩
structure Ok (m L N k:Nat)(s:Cs):Prop where
 len:s.t.length=m
 row:∀ r∈s.t,r.length=L
 hk:s.hs.length<=k
 hm:s.hs.length<=m
 lt:∀ h∈s.hs,h<k
 b0:s.b≠0
 bn:s.b.natAbs<2^nb N s.hs.length
 tn:BN (nb N s.hs.length) s.t
theorem wF {t:List (List Int)}{i w p:Nat}{r:List Nat}(h:fnd t i w=p :: r):i<=p/\p<t.length/\(t.getD p []).getD w 0≠0:=by
 have:p∈fnd t i w:=by rw[h];exact Ad
 obtain⟨h1,h2⟩:=Ew.mp this;obtain⟨h3,h4⟩:=Jd.mp h1;refine⟨h3,by omega,?_⟩
 simpa using h2
theorem Ok.step {m L N k:Nat}{s:Cs}(o:Ok m L N k s)(hk:k<L):Ok m L N (k+1) (eG s k):=by
 unfold eG;cases e:fnd s.t s.hs.length k with
 | nil =>
  show Ok m L N (k+1) s
  exact⟨o.len,o.row,by have:=o.hk;omega,o.hm,fun h q=>by have:=o.lt h q;omega,o.b0,o.bn,o.tn⟩
 | cons p r =>
  obtain⟨h1,h2,h3⟩:=wF e;have hl:=o.len;have pm:s.t.getD p []∈s.t:=Mir.bA h2;have il:s.hs.length<(mvd s.t s.hs.length p).length:=by rw[xN h1 h2];omega
  have len:(s.hs++[k]).length=s.hs.length+1:=by rw[Al,Bn]
  have big:nb N s.hs.length<=nb N (s.hs.length+1):=pM N (Nat.le_succ _);show Ok m L N (k+1) ⟨swp (mvd s.t s.hs.length p) s.hs.length k s.b,s.hs++[k],(s.t.getD p []).getD k 0⟩
  refine⟨by show (swp _ _ _ _).length=m;rw[aDf,xN h1 h2];exact hl,fun q hq=>?_,by rw[len];have:=o.hk;omega,by rw[len];omega,fun h q=>?_,h3,?_,?_⟩
  · rcases aEg il hq with q1 | ⟨q1,q2,rfl⟩
    · exact o.row _ (jO h2 q1)
    · rw[aDy,aCf h1 h2,o.row _ (jO h2 q2),o.row _ pm,Jk]
  · rcases An.mp q with q | q
    · have:=o.lt h q;omega
    · have:=Ap.mp q;omega
  · show ((s.t.getD p []).getD k 0).natAbs<2^nb N (s.hs++[k]).length
    rw[len];exact Af (o.tn _ pm _ (Mir.bA (by rw[o.row _ pm];exact hk))) (iA big)
  · show BN (nb N (s.hs++[k]).length) (swp (mvd s.t s.hs.length p) s.hs.length k s.b)
    rw[len];intro q hq;rcases aEg il hq with q1 | ⟨q1,q2,rfl⟩
    · exact fun x hx=>Af (o.tn _ (jO h2 q1) x hx) (iA big)
    · rw[aCf h1 h2]
      exact aTa o.b0 (o.tn _ pm) (o.tn _ (jO h2 q2)) (by rw[o.row _ pm];exact hk) (by rw[o.row _ (jO h2 q2)];exact hk)
end Hm
namespace Hm
open PySem L2 Mir Sm
def hsD (hs:List Nat):List D:=hs.map fun (h:Nat)=>D.int (h:Int)
theorem yN (hs:List Nat):(hsD hs).length=hs.length:=Ab _
theorem nT (t:List (List Int)):(lil t).length=t.length:=Ab _
abbrev tR (fr:Bool)(t:List (List Int)):Option Res:=some ⟨.own,fr,.lst (lil t)⟩
abbrev hR (hs:List Nat):Option Res:=some ⟨.own,true,.lst (hsD hs)⟩
abbrev kE (n:Nat)(t0:List (List Int))(x2 x3 x4 x5 x6 x7:Option Res):Mir.Env:=[some ⟨.shr,false,.int n⟩,some ⟨.shr,false,.lst (lil t0)⟩,x2,x3,x4,x5,x6,x7]
abbrev aHo:FE:=aS (gY (vE 6) (bJ (vE 2))) 1 [5,2] (.nm 0) (Mir.bIf (bT (neE (aT (aT (vE 2) (vE 0)) (vE 1)) (cE (.int 0)))) (vE 0))
abbrev aGy:FE:=kG (kG (kG (fH (vE 2) (noO) (soO (vE 6))) (cF [aT (vE 2) (aT (vE 7) (cE (.int 0)))])) (fH (vE 2) (soO (vE 6)) (soO (aT (vE 7) (cE (.int 0)))))) (fH (vE 2) (soO (cR (aT (vE 7) (cE (.int 0))) (cE (.int 1)))) (noO))
abbrev wC (φ:Φ):FS:=aI (aC 6 (bJ (vE 3))) (aI (aC 7 aHo) (ifS (aJr (vE 7)) (aI (aC 2 aGy) (aI (cN 2 (aC 2 (aL φ [vE 2,vE 6,vE 5,vE 4]))) (aI (aC 4 (aT (aT (vE 2) (vE 6)) (vE 5))) (jY 3 (vE 5))))) cG))
theorem aBu (i c:Nat):kS (i:Int) c=(Bv i c).map fun (p:Nat)=>D.int (p:Int):=by
 rw[aAh,List.range'_eq_map_range,Cn];refine Ct fun x _=>?_
 simp
theorem vT {ρ:Mir.Env}{i:Nat}{fr:Bool}{t:List (List Int)}(h:ρ[i]?=some (tR fr t)):vE i ρ=.ok ⟨.own,fr,.lst (lil t)⟩:=by
 unfold vE;rw[h];cases fr<;>rfl
theorem aTn {n:Nat}{t0 t:List (List Int)}{fr:Bool}{x3 x4 x7:Option Res}{i k L:Nat}(hr:∀ r∈t,r.length=L)(hk:k<L)(hi:i<=t.length)(ht:t.length<=1000) :
 aHo (kE n t0 (tR fr t) x3 x4 (nR k) (nR i) x7)=.ok ⟨.tmp,true,.lst (hsD (fnd t i k))⟩:=by
 have it:gY (vE 6) (bJ (vE 2)) (kE n t0 (tR fr t) x3 x4 (nR k) (nR i) x7)=.ok ⟨true,true,(Bv i (t.length-i)).map fun (p:Nat)=>D.int (p:Int)⟩:=by
  refine(wH (x:=⟨.shr,true,.int i⟩) (y:=⟨.shr,true,.int (t.length:Nat)⟩) (lo:=(i:Int)) (m:=t.length-i) rfl rfl ?_ (by show D.int _=D.int _;congr 1;omega) (by omega) (by omega)).trans ?_
  · refine(eF (vT rfl)).trans ?_
    rw[nT];rfl
  · rw[aBu]
 refine(aG9 (k:=1) (fs:=[5,2]) (tg:=.nm 0) (out:=fun (p:Nat)=>D.int (p:Int)) (c:=fun p=>!decide ((t.getD p []).getD k 0=0)) it (fun p hp=>?_) (by rw[List.length_range',sizeLine_eq];omega)).trans rfl
 have hp':=Jd.mp hp;have pl:p<t.length:=by omega
 have pm:t.getD p []∈t:=Mir.bA pl;refine⟨[nR p,nR k,tR fr t],.shr,rfl,?_,by decide⟩
 refine aPc (dH (rW (eU (fT (vT rfl) (k':=.shr) (fr':=true) (i:=p) rfl (hV pl)) (k':=.shr) (fr':=true) (i:=k) rfl (gT (by rw[hr _ pm];exact hk))) (k':=.shr) (fr':=true) (j:=0) rfl)) fun _=>rfl
theorem aTh {n:Nat}{t0 t:List (List Int)}{fr:Bool}{x3 x4 x5:Option Res}{i p:Nat}{r:List Nat}(h1:i<=p)(h2:p<t.length)(ht:t.length<=1000) :
 ∃ fr',aGy (kE n t0 (tR fr t) x3 x4 x5 (nR i) (hR (p :: r)))=.ok ⟨.tmp,fr',.lst (lil (mvd t i p))⟩:=by
 have f7:aT (vE 7) (cE (.int 0)) (kE n t0 (tR fr t) x3 x4 x5 (nR i) (hR (p :: r)))=.ok ⟨.shr,true,.int p⟩:=eU (k:=.own) (fr:=true) (ds:=hsD (p :: r)) (i:=0) rfl (k':=.shr) (fr':=true) rfl rfl;have v2:vE 2 (kE n t0 (tR fr t) x3 x4 x5 (nR i) (hR (p :: r)))=.ok ⟨.own,fr,.lst (lil t)⟩:=vT rfl;have a1:=kJ (lo:=noO) (hi:=soO (vE 6)) v2 (a:=none) rfl (nY (k:=.shr) (fr:=true) (i:=(i:Int)) rfl);have a2:=aVb (fT v2 f7 (hV h2));have a3:=kJ (lo:=soO (vE 6)) (hi:=soO (aT (vE 7) (cE (.int 0)))) v2 (nY (k:=.shr) (fr:=true) (i:=(i:Int)) rfl) (nY f7);have a4:=kJ (lo:=soO (cR (aT (vE 7) (cE (.int 0))) (cE (.int 1)))) (hi:=noO) v2 (nY (aV (C:=C0) (G:=fun i j=>i+j) f7 (k':=.shr) (fr':=true) (j:=1) rfl rfl)) (b:=none) rfl
 rw[aDz]at a1;rw[aN3 _ h1 (by rw[nT];omega)]at a3
 rw[show ((p:Int)+1)=((p+1:Nat):Int) by omega,aSz]at a4
 have c1:=vU a1 a2 (by rw[Bj,nT,Bn,sizeLine_eq];omega)
 have c2:=vU c1 a3 (by simp only[Al,Bj,Eo,nT,Bn,sizeLine_eq];omega)
 have c3:=vU c2 a4 (by simp only[Al,Bj,Eo,nT,Bn,sizeLine_eq];omega)
 have:(lil t).take i++[.lst (li (t.getD p []))]++((lil t).take p).drop i++(lil t).drop (p+1)=lil (mvd t i p):=by
  unfold mvd lil;simp only[Dm,Ht,List.map_drop,Aj,List.map_nil]
 rw[this]at c3;exact⟨_,c3⟩
def qV (φ:Φ):Prop:=∀ {t:List (List Int)} {i w N:Nat} {b:Int},i<t.length->(∀ r∈t,w<r.length)->(∀ r∈t,r.length<=1000)->t.length<=1000->b≠0->b.natAbs<2^N->0<N->N<=9000->BN N t->∃ fr,φ [.lst (lil t),.int i,.int w,.int b]=.ok ⟨.tmp,fr,.lst (lil (swp t i w b))⟩
theorem aJ1 {φ:Φ}(hφ:qV φ){n m L N k:Nat}{t0:List (List Int)}{s:Cs}(o:Ok m L N k s)(hk:k<L)(hL:L<=1000)(hm:m<=1000)(hN:0<N)(h9:nb N s.hs.length<=9000)(fr:Bool)(x6 x7:Option Res) :
 ∃ fr' y6 y7,wC φ (kE n t0 (tR fr s.t) (hR s.hs) (nR s.b) (nR k) x6 x7)=.nx (kE n t0 (tR fr' (eG s k).t) (hR (eG s k).hs) (nR (eG s k).b) (nR k) y6 y7):=by
 have ol:=o.len
 have e1:aC 6 (bJ (vE 3)) (kE n t0 (tR fr s.t) (hR s.hs) (nR s.b) (nR k) x6 x7)=.nx (kE n t0 (tR fr s.t) (hR s.hs) (nR s.b) (nR k) (nR s.hs.length) x7):=by
  have:=set_shr (i:=6) (eF (f:=vE 3) (ρ:=kE n t0 (tR fr s.t) (hR s.hs) (nR s.b) (nR k) x6 x7) (k:=.own) (fr:=true) (ds:=hsD s.hs) rfl)
  rw[yN]at this;exact this
 have e2:aC 7 aHo (kE n t0 (tR fr s.t) (hR s.hs) (nR s.b) (nR k) (nR s.hs.length) x7)=.nx (kE n t0 (tR fr s.t) (hR s.hs) (nR s.b) (nR k) (nR s.hs.length) (hR (fnd s.t s.hs.length k))) :=
  cS (aTn o.row hk (by have:=o.hm;omega) (by omega))
 have e3:∀ l:List Nat,aJr (vE 7) (kE n t0 (tR fr s.t) (hR s.hs) (nR s.b) (nR k) (nR s.hs.length) (hR l))=.ok (!(hsD l).isEmpty):=fun l=>rfl;cases e:fnd s.t s.hs.length k with
 | nil =>
  rw[e]at e2;refine⟨fr,nR s.hs.length,hR [],(aF e1).trans ((aF e2).trans ((cM (e3 [])).trans ?_))⟩
  have:eG s k=s:=by unfold eG;rw[e]
  rw[this];rfl
 | cons p r =>
  rw[e]at e2;obtain⟨h1,h2,h3⟩:=wF e;have cl:eG s k=⟨swp (mvd s.t s.hs.length p) s.hs.length k s.b,s.hs++[k],(s.t.getD p []).getD k 0⟩:=by unfold eG;rw[e]
  obtain⟨f1,q1⟩:=aTh (n:=n) (t0:=t0) (t:=s.t) (fr:=fr) (x3:=hR s.hs) (x4:=nR s.b) (x5:=nR k) (i:=s.hs.length) (p:=p) (r:=r) h1 h2 (by omega)
  have ml:(mvd s.t s.hs.length p).length=s.t.length:=xN h1 h2;have rowm:∀ q∈mvd s.t s.hs.length p,q.length=L:=fun q hq=>o.row q (jO h2 hq);obtain⟨f2,q2⟩:=hφ (t:=mvd s.t s.hs.length p) (i:=s.hs.length) (w:=k) (N:=nb N s.hs.length) (b:=s.b) (by omega) (fun q hq=>by rw[rowm q hq];exact hk) (fun q hq=>by rw[rowm q hq];exact hL) (by omega) o.b0 o.bn (by have:=pM N (De s.hs.length);have e0:nb N 0=N:=rfl;omega) h9 (fun q hq=>o.tn q (jO h2 hq))
  have g1:aC 2 aGy (kE n t0 (tR fr s.t) (hR s.hs) (nR s.b) (nR k) (nR s.hs.length) (hR (p :: r)))=.nx (kE n t0 (tR f1 (mvd s.t s.hs.length p)) (hR s.hs) (nR s.b) (nR k) (nR s.hs.length) (hR (p :: r))):=cS q1;have ev:evs [vE 2,vE 6,vE 5,vE 4] (kE n t0 (some ⟨.shr,f1,.lst (lil (mvd s.t s.hs.length p))⟩) (hR s.hs) (nR s.b) (nR k) (nR s.hs.length) (hR (p :: r)))=.ok [⟨.shr,f1||D.imm (.lst (lil (mvd s.t s.hs.length p))),.lst (lil (mvd s.t s.hs.length p))⟩,⟨.shr,true,.int s.hs.length⟩,⟨.shr,true,.int k⟩,⟨.shr,true,.int s.b⟩]:=rfl
  obtain⟨f3,q3⟩:∃ f3,aL φ [vE 2,vE 6,vE 5,vE 4] (kE n t0 (some ⟨.shr,f1,.lst (lil (mvd s.t s.hs.length p))⟩) (hR s.hs) (nR s.b) (nR k) (nR s.hs.length) (hR (p :: r)))=.ok ⟨.tmp,f3,.lst (lil (swp (mvd s.t s.hs.length p) s.hs.length k s.b))⟩:=by
   cases f2 with
   | true=>exact⟨true,cV ev q2⟩
   | false=>exact⟨_,(kA ev q2 rfl).trans rfl⟩
  have g2:cN 2 (aC 2 (aL φ [vE 2,vE 6,vE 5,vE 4])) (kE n t0 (tR f1 (mvd s.t s.hs.length p)) (hR s.hs) (nR s.b) (nR k) (nR s.hs.length) (hR (p :: r)))=.nx (kE n t0 (tR f3 (swp (mvd s.t s.hs.length p) s.hs.length k s.b)) (hR s.hs) (nR s.b) (nR k) (nR s.hs.length) (hR (p :: r))) :=
   (tU (e:=⟨.own,f1,.lst (lil (mvd s.t s.hs.length p))⟩) rfl).trans (cS q3)
  have il:s.hs.length<(mvd s.t s.hs.length p).length:=by omega
  have pm:s.t.getD p []∈s.t:=Mir.bA h2
  have at1:(lil (swp (mvd s.t s.hs.length p) s.hs.length k s.b))[s.hs.length]?=some (.lst (li (s.t.getD p []))):=by
   rw[hV (by rw[aDf];exact il),aQg il,aCf h1 h2]
  have g3:aC 4 (aT (aT (vE 2) (vE 6)) (vE 5)) (kE n t0 (tR f3 (swp (mvd s.t s.hs.length p) s.hs.length k s.b)) (hR s.hs) (nR s.b) (nR k) (nR s.hs.length) (hR (p :: r)))=.nx (kE n t0 (tR f3 (swp (mvd s.t s.hs.length p) s.hs.length k s.b)) (hR s.hs) (nR ((s.t.getD p []).getD k 0)) (nR k) (nR s.hs.length) (hR (p :: r))) :=
   set_shr (eU (fT (vT rfl) (k':=.shr) (fr':=true) (i:=s.hs.length) rfl at1) (k':=.shr) (fr':=true) (i:=k) rfl (gT (by rw[o.row _ pm];exact hk)))
  have g4:jY 3 (vE 5) (kE n t0 (tR f3 (swp (mvd s.t s.hs.length p) s.hs.length k s.b)) (hR s.hs) (nR ((s.t.getD p []).getD k 0)) (nR k) (nR s.hs.length) (hR (p :: r)))=.nx (kE n t0 (tR f3 (swp (mvd s.t s.hs.length p) s.hs.length k s.b)) (hR (s.hs++[k])) (nR ((s.t.getD p []).getD k 0)) (nR k) (nR s.hs.length) (hR (p :: r))):=by
   have:=tG (i:=3) (f:=vE 5) (ρ:=kE n t0 (tR f3 (swp (mvd s.t s.hs.length p) s.hs.length k s.b)) (hR s.hs) (nR ((s.t.getD p []).getD k 0)) (nR k) (nR s.hs.length) (hR (p :: r))) (fr:=true) (ds:=hsD s.hs) (k:=.shr) (fr':=true) (d:=.int k) rfl rfl (by decide) (by rw[yN,sizeLine_eq];have:=o.hm;omega)
   rw[show hsD s.hs++[D.int (k:Int)]=hsD (s.hs++[k]) by unfold hsD;rw[Dm];rfl]at this
   exact this
  refine⟨f3,nR s.hs.length,hR (p :: r),(aF e1).trans ((aF e2).trans ((cM (e3 (p :: r))).trans ?_))⟩
  rw[cl];exact(aF g1).trans ((aF g2).trans ((aF g3).trans g4))
end Hm
namespace Hm
open PySem L2 Mir Sm
theorem zG {α:Type}{tg:Tg}{b:FB}{fr:Bool}{ρ:Mir.Env}{inj out:α->D}:∀ (xs:List α),(∀ x∈xs,∃ ρ1 k f,tg.bind fr (inj x) ρ=.ok ρ1/\b ρ1=.ok (some ⟨k,f,out x⟩)/\k≠.own)->∃ f',iT tg b fr ρ (xs.map inj)=.ok (f',xs.map out)
 | [],_=>⟨true,rfl⟩
 | x :: r,h=>by
  obtain⟨ρ1,k,f,h1,h2,h3⟩:=h x Ad;obtain⟨f',ih⟩:=zG r fun y hy=>h y (Ae _ hy);refine⟨f&&f',?_⟩
  simp only[Aj,iT,h1,R.ok_bind,h2,Res.give,if_neg h3,ih]
theorem qQ {α:Type}{it:FI}{tg:Tg}{b:FB}{fr st:Bool}{ρ:Mir.Env}{k:Nat}{fs:List Nat}{inj out:α->D}{xs:List α}(hi:it ρ=.ok ⟨st,fr,xs.map inj⟩)
 (h:∀ x∈xs,∃ ρ1 k' f,tg.bind fr (inj x) (eW k fs ρ)=.ok ρ1/\b ρ1=.ok (some ⟨k',f,out x⟩)/\k'≠.own) (hz:xs.length<=sizeLine):∃ f',aS it k fs tg b ρ=.ok ⟨.tmp,f',.lst (xs.map out)⟩:=by
 obtain⟨f',e⟩:=zG xs h;refine⟨f',?_⟩
 simp only[aS,hi,R.ok_bind,e,Ab,if_pos hz]
theorem aSh {f g h:FE}{ρ:Mir.Env}{k1 k2 k3:Kd}{f1 f2 f3:Bool}{a b c:D}(h1:f ρ=.ok ⟨k1,f1,a⟩)(h2:g ρ=.ok ⟨k2,f2,b⟩)(h3:h ρ=.ok ⟨k3,f3,c⟩)(n1:k1≠.own)(n2:k2≠.own)(n3:k3≠.own):nI 1 [f,g,h] ρ=.ok ⟨.shr,f1&&(f2&&(f3&&true)),.obj 1 [a,b,c]⟩:=by
 have ev:=aB h1 (aB h2 (aB h3 (aY (ρ:=ρ))));simp only[nI,ev,R.ok_bind,gives,Res.give,if_neg n1,if_neg n2,if_neg n3];rfl
def clr (t:List (List Int))(n:Nat):Cs:=(Bf n).foldl eG ⟨t,[],1⟩
def nH (t:List (List Int)):List (List Int):=t.map fun r=>r.map fun x=>-x
def dA (t:List (List Int))(n:Nat):Cs:=if (clr t n).b<0 then ⟨nH (clr t n).t,(clr t n).hs,-(clr t n).b⟩ else clr t n
abbrev hW (s:Cs):D:=.obj 1 [.int s.b,.lst (hsD s.hs),.lst (lil s.t)]
theorem eA {tg:Tg}{b:FS}{fr:Bool}{d:D}{r:List D}{ρ ρ1 ρ2:Mir.Env}(h:tg.bind fr d ρ=.ok ρ1)(h2:b ρ1=.nx ρ2):fZ tg b fr (d :: r) ρ=fZ tg b fr r ρ2:=by
 simp only[fZ,h,R.at,h2]
theorem aJ0 {φ:Φ}(hφ:qV φ){n m L N:Nat}{t0:List (List Int)}(hL:L<=1000)(hm:m<=1000)(hN:0<N)(hn:n<=L)(h9:nb N (n-1)<=9000)(j:Nat):∀ (k:Nat) (s:Cs) (fr:Bool) (x5 x6 x7:Option Res),Ok m L N k s->k+j=n ->
 Ok m L N n ((Bv k j).foldl eG s)/\∃ fr' y5 y6 y7,fZ (.nm 5) (wC φ) true ((Bv k j).map fun (i:Nat)=>D.int (i:Int)) (kE n t0 (tR fr s.t) (hR s.hs) (nR s.b) x5 x6 x7)=.nx (kE n t0 (tR fr' ((Bv k j).foldl eG s).t) (hR ((Bv k j).foldl eG s).hs) (nR ((Bv k j).foldl eG s).b) y5 y6 y7):=by
 induction j with
 | zero =>
  intro k s fr x5 x6 x7 o h;have kn:k=n:=by omega
  subst kn;exact⟨o,fr,x5,x6,x7,rfl⟩
 | succ j ih =>
  intro k s fr x5 x6 x7 o h;have kn:k<n:=by omega
  have bound:nb N s.hs.length<=9000:=by
   have:=pM N (show s.hs.length<=n-1 by have:=o.hk;omega)
   omega
  obtain⟨f1,y6,y7,e⟩:=aJ1 hφ (n:=n) (t0:=t0) o (by omega) hL hm hN bound fr x6 x7
  obtain⟨o2,f2,z5,z6,z7,e2⟩:=ih (k+1) (eG s k) f1 (nR k) y6 y7 (o.step (by omega)) (by omega)
  rw[Dc,Ea,Aj];refine⟨o2,f2,z5,z6,z7,?_⟩
  have bd:Tg.bind true (.nm 5) (.int (k:Int)) (kE n t0 (tR fr s.t) (hR s.hs) (nR s.b) x5 x6 x7)=.ok (kE n t0 (tR fr s.t) (hR s.hs) (nR s.b) (nR k) x6 x7):=rfl;have st:fZ (.nm 5) (wC φ) true (.int (k:Int) :: (Bv (k+1) j).map fun (i:Nat)=>D.int (i:Int)) (kE n t0 (tR fr s.t) (hR s.hs) (nR s.b) x5 x6 x7)=fZ (.nm 5) (wC φ) true ((Bv (k+1) j).map fun (i:Nat)=>D.int (i:Int)) (kE n t0 (tR f1 (eG s k).t) (hR (eG s k).hs) (nR (eG s k).b) (nR k) y6 y7):=eA bd e;exact st.trans e2
abbrev aC8:FE:=aS (bV (vE 2)) 1 [] (.nm 0) (bE (aS (bV (vE 0)) 1 [] (.nm 0) (bE (dB (vE 0)))))
abbrev iU (φ:Φ):FS:=aI (aC 2 (aS (bV (vE 1)) 1 [] (.nm 0) (bE (tH (vE 0))))) (aI (aC 3 (cF [])) (aI (aC 4 (cE (.int 1))) (aI (dY (dW (vE 0)) (.nm 5) (wC φ)) (aI (ifS (bT (ltE (vE 4) (cE (.int 0)))) (cN 3 (bS (nI 1 [dB (vE 4),vE 3,aC8]))) cG) (cN 2 (cN 3 (bS (nI 1 [vE 4,vE 3,vE 2]))))))))
theorem aSb {ρ:Mir.Env}{fr:Bool}{t:List (List Int)}(h:ρ[2]?=some (tR fr t))(hl:∀ r∈t,r.length<=1000)(ht:t.length<=1000):aC8 ρ=.ok ⟨.tmp,true,.lst (lil (nH t))⟩:=by
 refine(cB (fr:=fr) (st:=false) (inj:=fun r:List Int=>.lst (li r)) (out:=fun r=>.lst (li (r.map fun x=>-x))) (xs:=t) ((fA (vT h)).trans rfl) (fun r hr=>?_) (by rw[sizeLine_eq];omega)).trans ?_
 · refine⟨[some ⟨.shr,fr,.lst (li r)⟩],.tmp,rfl,dZ ?_,by decide⟩
   refine(cB (fr:=fr||D.imm (.lst (li r))) (st:=true) (inj:=D.int) (out:=fun x=>.int (-x)) (xs:=r) rfl (fun x _=>?_) (by have:=hl r hr;rw[sizeLine_eq];omega)).trans ?_
   · exact⟨[some ⟨.shr,fr||D.imm (.lst (li r)),.int x⟩],.shr,rfl,dZ rfl,by decide⟩
   · unfold li;rw[Cn];rfl
 · unfold lil nH;rw[Cn];rfl
theorem aFu {φ:Φ}(hφ:qV φ){n L N:Nat}{t:List (List Int)}(hr:∀ r∈t,r.length=L)(hn:n<=L)(hL:L<=1000)(ht:t.length<=1000)(hN:0<N)(h9:nb N (n-1)<=9000)(hB:BN N t) :
 Ok t.length L N n (clr t n)/\∃ fr,bY 2 8 (iU φ) [.int n,.lst (lil t)]=.ok ⟨.shr,fr,hW (dA t n)⟩:=by
 have o0:Ok t.length L N 0 ⟨t,[],1⟩:=⟨rfl,hr,Ah _,De _,fun h q=>absurd q (by simp),(show (1:Int)≠0 by decide),by
  show (1:Nat)<2^N
  exact Af (by decide) (iA (show 1<=N from hN)),hB⟩
 obtain⟨f0,c0⟩:=qQ (it:=bV (vE 1)) (tg:=.nm 0) (b:=bE (tH (vE 0))) (ρ:=kE n t none none none none none none) (k:=1) (fs:=[]) (st:=true) (fr:=false) (inj:=fun r:List Int=>.lst (li r)) (out:=fun r=>.lst (li r)) (xs:=t) rfl (fun r _=>⟨[some ⟨.shr,false,.lst (li r)⟩],.tmp,_,rfl,dZ rfl,by decide⟩) (by rw[sizeLine_eq];omega)
 have e1:aC 2 (aS (bV (vE 1)) 1 [] (.nm 0) (bE (tH (vE 0)))) (kE n t none none none none none none)=.nx (kE n t (tR f0 t) none none none none none):=cS c0;have e2:aC 3 (cF []) (kE n t (tR f0 t) none none none none none)=.nx (kE n t (tR f0 t) (hR []) none none none none):=rfl;have e3:aC 4 (cE (.int 1)) (kE n t (tR f0 t) (hR []) none none none none)=.nx (kE n t (tR f0 t) (hR []) (nR 1) none none none):=rfl;obtain⟨o,f1,y5,y6,y7,el⟩:=aJ0 hφ (n:=n) (t0:=t) hL ht hN hn h9 n 0 ⟨t,[],1⟩ f0 none none none o0 (by omega)
 rw[←Ee]at o el;have o:Ok t.length L N n (clr t n):=o
 have e4:dY (dW (vE 0)) (.nm 5) (wC φ) (kE n t (tR f0 t) (hR []) (nR 1) none none none)=.nx (kE n t (tR f1 (clr t n).t) (hR (clr t n).hs) (nR (clr t n).b) y5 y6 y7) :=
  (gA (kZ (k:=.shr) (fr:=true) (n:=n) rfl (by omega))).trans el
 refine⟨o,?_⟩
 have row:=o.row;have len:=o.len;have e5:bT (ltE (vE 4) (cE (.int 0))) (kE n t (tR f1 (clr t n).t) (hR (clr t n).hs) (nR (clr t n).b) y5 y6 y7)=.ok (decide ((clr t n).b<0)):=dH (cW (G:=fun i j=>decide (i<j)) (k:=.shr) (fr:=true) (i:=(clr t n).b) rfl (k':=.shr) (fr':=true) (j:=0) rfl);have fin:∀ {fr:Bool} {d:D},d.imm=false->(R.ok ⟨.shr,fr||d.imm,d⟩:R Res)=.ok ⟨.shr,fr,d⟩:=fun {fr d} h=>by rw[h,Hu]
 by_cases z:(clr t n).b<0
 · have v3:vE 3 (kE n t (tR f1 (clr t n).t) (some ⟨.shr,true,.lst (hsD (clr t n).hs)⟩) (nR (clr t n).b) y5 y6 y7)=.ok ⟨.shr,true,.lst (hsD (clr t n).hs)⟩:=rfl
   have v4:dB (vE 4) (kE n t (tR f1 (clr t n).t) (some ⟨.shr,true,.lst (hsD (clr t n).hs)⟩) (nR (clr t n).b) y5 y6 y7)=.ok ⟨.shr,true,.int (-(clr t n).b)⟩:=rfl;have nw:=aSh v4 v3 (aSb (ρ:=kE n t (tR f1 (clr t n).t) (some ⟨.shr,true,.lst (hsD (clr t n).hs)⟩) (nR (clr t n).b) y5 y6 y7) (fr:=f1) (t:=(clr t n).t) rfl (fun r hr=>by rw[o.row r hr];exact hL) (by rw[o.len];exact ht)) (by decide) (by decide) (by decide)
   have e6:ifS (bT (ltE (vE 4) (cE (.int 0)))) (cN 3 (bS (nI 1 [dB (vE 4),vE 3,aC8]))) cG (kE n t (tR f1 (clr t n).t) (hR (clr t n).hs) (nR (clr t n).b) y5 y6 y7)=.rt ⟨.shr,true,hW (dA t n)⟩:=by
    refine(cM e5).trans ?_
    rw[decide_eq_true z,if_pos rfl];refine(tU (e:=⟨.own,true,.lst (hsD (clr t n).hs)⟩) rfl).trans ((jQ nw).trans ?_)
    unfold dA;rw[if_pos z];rfl
   exact⟨true,(dG (np:=2) (n:=8) (s:=iU φ) (ds:=[.int n,.lst (lil t)]) rfl ((aF e1).trans ((aF e2).trans ((aF e3).trans ((aF e4).trans (aG4 e6)))))).trans (fin rfl)⟩
 · have e6:ifS (bT (ltE (vE 4) (cE (.int 0)))) (cN 3 (bS (nI 1 [dB (vE 4),vE 3,aC8]))) cG (kE n t (tR f1 (clr t n).t) (hR (clr t n).hs) (nR (clr t n).b) y5 y6 y7)=.nx (kE n t (tR f1 (clr t n).t) (hR (clr t n).hs) (nR (clr t n).b) y5 y6 y7):=by
    refine(cM e5).trans ?_
    rw[decide_eq_false z];rfl
   have v2:vE 2 (kE n t (some ⟨.shr,f1,.lst (lil (clr t n).t)⟩) (some ⟨.shr,true,.lst (hsD (clr t n).hs)⟩) (nR (clr t n).b) y5 y6 y7)=.ok ⟨.shr,f1||D.imm (.lst (lil (clr t n).t)),.lst (lil (clr t n).t)⟩:=rfl;have v3:vE 3 (kE n t (some ⟨.shr,f1,.lst (lil (clr t n).t)⟩) (some ⟨.shr,true,.lst (hsD (clr t n).hs)⟩) (nR (clr t n).b) y5 y6 y7)=.ok ⟨.shr,true,.lst (hsD (clr t n).hs)⟩:=rfl;have v4:vE 4 (kE n t (some ⟨.shr,f1,.lst (lil (clr t n).t)⟩) (some ⟨.shr,true,.lst (hsD (clr t n).hs)⟩) (nR (clr t n).b) y5 y6 y7)=.ok ⟨.shr,true,.int (clr t n).b⟩:=rfl;have nw:=jQ (aSh v4 v3 v2 (by decide) (by decide) (by decide))
   have e7:cN 2 (cN 3 (bS (nI 1 [vE 4,vE 3,vE 2]))) (kE n t (tR f1 (clr t n).t) (hR (clr t n).hs) (nR (clr t n).b) y5 y6 y7)=.rt ⟨.shr,true&&(true&&((f1||D.imm (.lst (lil (clr t n).t)))&&true)),hW (dA t n)⟩:=by
    refine(tU (e:=⟨.own,f1,.lst (lil (clr t n).t)⟩) rfl).trans ((tU (e:=⟨.own,true,.lst (hsD (clr t n).hs)⟩) rfl).trans (nw.trans ?_))
    unfold dA;rw[if_neg z]
   exact⟨_,(dG (np:=2) (n:=8) (s:=iU φ) (ds:=[.int n,.lst (lil t)]) rfl ((aF e1).trans ((aF e2).trans ((aF e3).trans ((aF e4).trans ((aF e6).trans e7)))))).trans (fin rfl)⟩
end Hm
namespace Hm
open PySem L2 Mir
def iQ (n:Nat):List (List Int):=(Bf n).map fun p=>(Bf n).map fun w=>if w=p then 1 else 0
abbrev nX:FS:=(bS (aS (dW (vE 0)) 1 [0] (.nm 0) (bE (aS (dW (vE 1)) 1 [0] (.nm 0) (bE (ifE (bT (eqE (vE 0) (vE 1))) (cE (.int 1)) (cE (.int 0))))))))
theorem aLs {n:Nat}(hn:n<=1000):bY 1 1 nX [.int n]=.ok ⟨.tmp,true,.lst (lil (iQ n))⟩:=by
 have c:aS (dW (vE 0)) 1 [0] (.nm 0) (bE (aS (dW (vE 1)) 1 [0] (.nm 0) (bE (ifE (bT (eqE (vE 0) (vE 1))) (cE (.int 1)) (cE (.int 0)))))) [some ⟨.shr,false,.int n⟩]=.ok ⟨.tmp,true,.lst ((Bf n).map fun p=>.lst ((Bf n).map fun w=>.int (if w=p then 1 else 0)))⟩:=by
  refine cB (inj:=fun (p:Nat)=>.int (p:Int)) (xs:=Bf n) (kZ (k:=.shr) (fr:=true) (n:=n) rfl (by omega)) (fun p _=>⟨[nR p,some ⟨.shr,false,.int n⟩],.tmp,rfl,dZ ?_,by decide⟩) (by rw[Df,sizeLine_eq];omega)
  refine cB (inj:=fun (w:Nat)=>.int (w:Int)) (xs:=Bf n) (kZ (k:=.shr) (fr:=true) (n:=n) rfl (by omega)) (fun w _=>⟨[nR w,nR p],.shr,rfl,dZ ?_,by decide⟩) (by rw[Df,sizeLine_eq];omega)
  have t:bT (eqE (vE 0) (vE 1)) [nR w,nR p]=.ok (decide ((w:Int)=(p:Int))):=dH (jS (k:=.shr) (fr:=true) (i:=(w:Int)) (k':=.shr) (fr':=true) (j:=(p:Int)) rfl rfl);simp only[ifE,t,R.ok_bind];by_cases z:w=p
  · rw[decide_eq_true (by omega),if_pos z];rfl
  · rw[decide_eq_false (by omega),if_neg z];rfl
 have e:nX [some ⟨.shr,false,.int n⟩]=.rt ⟨.tmp,true,.lst (lil (iQ n))⟩:=by
  refine(nP c).trans ?_
  simp[iQ,lil,li,Function.comp_def]
 exact(dG (np:=1) (n:=1) (s:=nX) (ds:=[.int n]) rfl e).trans rfl
end Hm
namespace Sm
open PySem L2 Mir Srt
theorem aPa {f g:FE}{ρ:Mir.Env}{k k':Kd}{fr fr':Bool}{b c:Bool}(h1:f ρ=.ok ⟨k,fr,.bl b⟩)(h2:g ρ=.ok ⟨k',fr',.bl c⟩):orT (bT f) (bT g) ρ=.ok (b||c):=by
 refine(yI (dH h1) fun _=>dH h2).trans ?_
 cases b<;>rfl
theorem aSg (m:Int):orT (bT (ltE (vE 0) (cE (.int 1)))) (bT (gtE (vE 0) (cE (.int 5)))) [some ⟨.shr,false,.int m⟩]=.ok (decide (m<1)||decide (5<m)) :=
 aPa (cW (G:=fun i j=>decide (i<j)) (k:=.shr) (fr:=true) (i:=m) (k':=.shr) (fr':=true) (j:=1) rfl rfl) (cW (G:=fun i j=>decide (j<i)) (k:=.shr) (fr:=true) (i:=m) (k':=.shr) (fr':=true) (j:=5) rfl rfl)
end Sm
namespace Hm
open PySem L2 Mir Sm
theorem aAf {φ:Φ}{fs:FEs}{ρ:Mir.Env}{rs:List Res}{k:Kd}{fr:Bool}{d:D}{y:Bool×List D}(h:evs fs ρ=.ok rs)(hφ:φ (rs.map (·.d))=.ok ⟨k,fr,d⟩)(hg:gives rs=.ok y):∃ f',aL φ fs ρ=.ok ⟨if k=.shr then .shr else .tmp,f',d⟩:=by
 cases fr with
 | true=>exact⟨true,qT h hφ⟩
 | false=>exact⟨_,kA h hφ hg⟩
structure Cl (k L n M:Nat)(s:Cs):Prop where
 len:s.t.length=k
 row:∀ r∈s.t,r.length=L
 hm:s.hs.length<=k
 lt:∀ h∈s.hs,h<n
 b0:0<s.b
 bn:s.b.natAbs<2^M
 tn:BN M s.t
theorem xP {t:List (List Int)}{r:List Int}(h:r∈nH t):∃ q∈t,r=q.map fun x=>-x:=by
 obtain⟨q,h1,h2⟩:=Ai.mp h;exact⟨q,h1,h2.symm⟩
theorem aMw {k L n N M:Nat}{t:List (List Int)}(o:Ok k L N n (clr t n))(hM:nb N n<=M):Cl k L n M (dA t n):=by
 have up:2^nb N (clr t n).hs.length<=2^M:=iA (Bp (pM N o.hk) hM);have b0:=o.b0;have bn:=o.bn;unfold dA;split
 · refine⟨by show (nH _).length=k;unfold nH;rw[Ab];exact o.len,fun r hr=>?_,o.hm,o.lt,by show 0 < -_;omega,?_,fun r hr x hx=>?_⟩
   · obtain⟨q,hq,rfl⟩:=xP hr
     rw[Ab];exact o.row q hq
   · show (-(clr t n).b).natAbs<2^M
     rw[Iv];omega
   · obtain⟨q,hq,rfl⟩:=xP hr
     obtain⟨y,hy,rfl⟩:=Ai.mp hx;rw[Iv];exact Af (o.tn q hq y hy) up
 · exact⟨o.len,o.row,o.hm,o.lt,by omega,by omega,fun r hr x hx=>Af (o.tn r hr x hx) up⟩
section
variable {m N:Nat}{rows:List (List Int)}{ends:List Int}
def aG5 (φ:Φ):Prop:=∀ {n L N:Nat} {t:List (List Int)},(∀ r∈t,r.length=L)->n<=L->L<=1000->t.length<=1000->0<N->nb N (n-1)<=9000->BN N t->Ok t.length L N n (clr t n)/\∃ fr,φ [.int n,.lst (lil t)]=.ok ⟨.shr,fr,hW (dA t n)⟩
end
end Hm
namespace Hm
open PySem L2 Mir Sm
theorem tY {c r:List Int}{w:Nat}{b:Int}(h:r.length=c.length)(j:Nat):(swr c r w b).getD j 0=(c.getD w 0*r.getD j 0-r.getD w 0*c.getD j 0).fdiv b:=by
 unfold swr;by_cases z:j<r.length
 · have z':j<c.length:=by omega
   simp[Aa,Ax,List.getElem?_zip_eq_some,z,z',List.zip,Fz]
 · have z':¬ j<c.length:=by omega
   simp[Aa,Ax,z,z',List.zip,Fz]
theorem aMq {w:Nat}{b:Int}(A:List (List Int))(x:List Int)(R:List (List Int)):swp (A++x :: R) A.length w b=A.map (fun r=>swr x r w b)++x :: R.map (fun r=>swr x r w b):=by
 have g:(A++x :: R).getD A.length []=x:=by simp[Aa]
 unfold swp;rw[g,List.zipIdx_append,Dm,Dp,Hr,Aj,if_pos rfl];congr 1
 · have:∀ (l:List (List Int)) (k:Nat),k+l.length<=A.length->(l.zipIdx k).map (fun p=>if p.2=A.length then x else swr x p.1 w b)=l.map fun r=>swr x r w b:=by
    intro l;induction l with
    | nil=>intro k _;rfl
    | cons r l ih =>
     intro k hk;rw[Aq]at hk;rw[Hr,Aj,Aj,if_neg (by show k≠_;omega),ih (k+1) (by omega)]
   exact this A 0 (by omega)
 · congr 1
   have:∀ (l:List (List Int)) (k:Nat),A.length<k->(l.zipIdx k).map (fun p=>if p.2=A.length then x else swr x p.1 w b)=l.map fun r=>swr x r w b:=by
    intro l;induction l with
    | nil=>intro k _;rfl
    | cons r l ih =>
     intro k hk;rw[Hr,Aj,Aj,if_neg (by show k≠_;omega),ih (k+1) (by omega)]
   exact this R _ (by omega)
theorem aKo (A B1:List (List Int))(x:List Int)(B2:List (List Int)):mvd (A++(B1++x :: B2)) A.length (A.length+B1.length)=A++x :: (B1++B2):=by
 have g:(A++(B1++x :: B2)).getD (A.length+B1.length) []=x:=by
  rw[Aa,Bb (by omega),show A.length+B1.length-A.length=B1.length by omega,Bb (Ah _)]
  simp
 unfold mvd;rw[g,List.take_left]
 have t1:((A++(B1++x :: B2)).take (A.length+B1.length)).drop A.length=B1:=by
  rw[List.take_append,Hh (by omega),show A.length+B1.length-A.length=B1.length by omega,List.take_left,List.drop_left]
 have t2:(A++(B1++x :: B2)).drop (A.length+B1.length+1)=B2:=by
  rw[Ji,Hj (by omega),show A.length+B1.length+1-A.length=B1.length+1 by omega,Dz,Ji,Hj (by omega),show B1.length+1-B1.length=1 by omega]
  rfl
 rw[t1,t2];simp
theorem jJ (s:Cs)(w:Nat)(A B:List (List Int))(ht:s.t=A++B)(hA:A.length=s.hs.length):((∀ r∈B,r.getD w 0=0)/\eG s w=s) \/
 ∃ B1 x B2,B=B1++x :: B2/\x.getD w 0≠0/\eG s w=⟨A.map (fun r=>swr x r w s.b)++x :: (B1++B2).map (fun r=>swr x r w s.b),s.hs++[w],x.getD w 0⟩:=by
 unfold eG;cases e:fnd s.t s.hs.length w with
 | nil =>
  refine .inl ⟨fun r hr=>?_,rfl⟩
  obtain⟨i,hi,rfl⟩:=Bg.mp hr;by_cases z:B[i].getD w 0=0
  · exact z
  · exfalso
    have:A.length+i∈fnd s.t s.hs.length w:=by
     refine Ew.mpr ⟨Jd.mpr ⟨by omega,by rw[ht,Al];omega⟩,?_⟩
     have q:s.t.getD (A.length+i) []=B[i]:=by
      rw[ht,Aa,Bb (Dq _ _),Nat.add_sub_cancel_left,Ac hi];rfl
     rw[q];simpa using z
    rw[e]at this;cases this
 | cons p r =>
  obtain⟨h1,h2,h3⟩:=wF e;refine .inr ⟨B.take (p-A.length),s.t.getD p [],B.drop (p-A.length+1),?_,h3,?_⟩
  · have hl:p-A.length<B.length:=by rw[ht,Al]at h2;omega
    have:s.t.getD p []=B[p-A.length]:=by
     rw[ht,Aa,Bb (by omega),Ac hl];rfl
    rw[this,List.getElem_cons_drop,En]
  · have hl:p-A.length<B.length:=by rw[ht,Al]at h2;omega
    have hx:s.t.getD p []=B[p-A.length]:=by
     rw[ht,Aa,Bb (by omega),Ac hl];rfl
    have hB:B=B.take (p-A.length)++s.t.getD p [] :: B.drop (p-A.length+1):=by
     rw[hx,List.getElem_cons_drop,En]
    have lt:(B.take (p-A.length)).length=p-A.length:=by rw[Bj];omega
    have mv:mvd s.t s.hs.length p=A++s.t.getD p [] :: (B.take (p-A.length)++B.drop (p-A.length+1)):=by
     have:=aKo A (B.take (p-A.length)) (s.t.getD p []) (B.drop (p-A.length+1))
     rw[←hB,←ht,lt,hA,show s.hs.length+(p-s.hs.length)=p by omega]at this
     rw[←hA]at this ⊢;exact this
    show (⟨swp (mvd s.t s.hs.length p) s.hs.length w s.b,s.hs++[w],(s.t.getD p []).getD w 0⟩:Cs)=_
    rw[mv,←hA,aMq,Dm]
def aIn (c L:Nat)(s:Cs):Prop:=∃ A B:List (List Int×Nat),s.t=A.map (·.1)++B.map (·.1)/\A.length=s.hs.length/\(∀ x∈A,∀ y∈B,x.1.getD (c+y.2) 0=0)/\B.Pairwise (fun x y=>x.1.getD (c+y.2) 0=0/\y.1.getD (c+x.2) 0=0)/\(∀ y∈B,y.1.getD (c+y.2) 0=s.b)/\s.b≠0
theorem lX (a b:Int)(h:b≠0):(a*b).fdiv b=a:=by
 rw[Int.fdiv_eq_ediv_of_dvd (Int.dvd_mul_left a b),Int.mul_ediv_cancel a h]
theorem aIn.step {c L w:Nat}{s:Cs}(M:aIn c L s)(hr:∀ r∈s.t,r.length=L):aIn c L (eG s w):=by
 obtain⟨A,B,ht,hA,m1,m2,m3,b0⟩:=M;rcases jJ s w (A.map (·.1)) (B.map (·.1)) ht (by rw[Ab];exact hA) with ⟨_,e⟩ | ⟨B1',x',B2',hB,h0,e⟩
 · rw[e];exact⟨A,B,ht,hA,m1,m2,m3,b0⟩
 · obtain⟨B1,B3,rfl,e1,e3⟩:=List.map_eq_append_iff.mp hB
   obtain⟨x,B2,rfl,ex,e2⟩:=List.map_eq_cons_iff.mp e3;subst e1;subst ex;subst e2;have lx:x.1.length=L:=hr _ (by rw[ht];simp)
   have lr:∀ y:List Int×Nat,y∈A\/y∈B1\/y∈B2->y.1.length=x.1.length:=fun y hy=>by
    rw[lx];refine hr _ ?_
    rw[ht,←Dm];refine Ex ?_
    simp only[An,Ag];rcases hy with h | h | h
    · exact .inl h
    · exact .inr (.inl h)
    · exact .inr (.inr (.inr h))
   rw[Hx,Fc]at m2;obtain⟨p1,⟨p2,p3⟩,p4⟩:=m2
   have xz:∀ y,y∈B1++B2->x.1.getD (c+y.2) 0=0:=fun y hy=>by
    rcases An.mp hy with h | h
    · exact(p4 y h x Ad).2
    · exact(p2 y h).1
   have pw:(B1++B2).Pairwise (fun x y=>x.1.getD (c+y.2) 0=0/\y.1.getD (c+x.2) 0=0):=Hx.mpr ⟨p1,p3,fun a ha b hb=>p4 a ha b (Ae _ hb)⟩;let sw:List Int×Nat->List Int×Nat:=fun r=>(swr x.1 r.1 w s.b,r.2)
   have sz:∀ r:List Int×Nat,r.1.length=x.1.length->∀ j:Nat,r.1.getD (c+j) 0=0->x.1.getD (c+j) 0=0->(sw r).1.getD (c+j) 0=0:=fun r l j q1 q2=>by
    show (swr x.1 r.1 w s.b).getD (c+j) 0=0
    rw[tY l,q1,q2];simp
   have mem12:∀ y,y∈B1++B2->y∈B1++x :: B2:=fun y hy=>by
    simp only[An,Ag]at hy ⊢;rcases hy with h | h
    · exact .inl h
    · exact .inr (.inr h)
   rw[e];refine⟨A.map sw++[x],(B1++B2).map sw,?_,by rw[Al,Ab,Bn];show A.length+1=(s.hs++[w]).length;rw[Al,Bn,hA],fun a ha y hy=>?_,?_,fun y hy=>?_,h0⟩
   · simp[Cn,Function.comp_def,sw]
   · obtain⟨y,hy',rfl⟩:=Ai.mp hy
     rcases An.mp ha with h | h
     · obtain⟨a,h',rfl⟩:=Ai.mp h
       exact sz a (lr a (.inl h')) y.2 (m1 a h' y (mem12 y hy')) (xz y hy')
     · rw[Ap.mp h];exact xz y hy'
   · rw[Dt]
     refine(List.Pairwise.and_mem.mp pw).imp fun {y z} ⟨hy,hz,q1,q2⟩=>?_
     have ly:=lr y (.inr (An.mp hy));have lz:=lr z (.inr (An.mp hz));exact⟨sz y ly z.2 q1 (xz z hz),sz z lz y.2 q2 (xz y hy)⟩
   · obtain⟨y,hy',rfl⟩:=Ai.mp hy
     show (swr x.1 y.1 w s.b).getD (c+y.2) 0=x.1.getD w 0
     rw[tY (lr y (.inr (An.mp hy'))),m3 y (mem12 y hy'),xz y hy',Eg,Jm,lX _ _ b0]
theorem aDk {m L N:Nat}:∀ (j k:Nat) (s:Cs),Ok m L N k s->k+j<=L->Ok m L N (k+j) ((Bv k j).foldl eG s)
 | 0,_,_,o,_=>o
 | j+1,k,s,o,h=>by
  rw[Dc,Ea,show k+(j+1)=k+1+j by omega]
  exact aDk j (k+1) _ (o.step (by omega)) (by omega)
end Hm
namespace Dr
open PySem L2 Mir Sm Hm
def p50:Int:=10^50
abbrev nb1:FS:=(aI (aC 6 (cR (bP (vE 5) (vE 5)) (bP (cE (.int 3)) (vE 5))))
 (aI (ifS (bT (ltE (vE 5) (bJ (vE 0))))
  (aC 6 (aT (vE 0) (vE 5)))
  cG)
 (aI (aC 7 (fR (bW (vE 6) (cR (bP (cE (.int 2)) (vE 3)) (cE (.int 1)))) (vE 3)))
 (aI (ifS (bT (eqE (bW (cH (vE 6) (cR (bP (cE (.int 2)) (vE 3)) (cE (.int 1)))) (cE (.int 3))) (cE (.int 0))))
  (aC 7 (cE (.int 0)))
  cG)
 (jY 4 (vE 7))))))
abbrev aKg:FS:=(aI (aC 4 (cF []))
 (aI (dY (gY (vE 1) (cR (vE 1) (vE 2))) (.nm 5) nb1)
 (bS (vE 4))))
abbrev nE (ns:List Int)(b c:Option Res)(z:Int)(acc:List Int)(x5 x6 x7:Option Res):Mir.Env:=[some ⟨.shr,false,.lst (li ns)⟩,b,c,some ⟨.shr,false,.int z⟩,some ⟨.own,true,.lst (li acc)⟩,x5,x6,x7]
theorem aKu (ns:List Int)(b c x6 x7:Option Res){z:Int}(z0:0<=z)(z1:z.natAbs<2^240)(acc:List Int)(k:Nat)(hk:k<=1000)(ha:acc.length<=1000):∃ (v:Int) (y6 y7:Option Res),v.natAbs<=z.natAbs/\nb1 (nE ns b c z acc (nR k) x6 x7)=.nx (nE ns b c z (acc++[v]) (nR k) y6 y7):=by
 have p240:(2:Nat)^240<=2^1000:=Cp (by decide) (by decide)
 have e1:aC 6 (cR (bP (vE 5) (vE 5)) (bP (cE (.int 3)) (vE 5))) (nE ns b c z acc (nR k) x6 x7)=.nx (nE ns b c z acc (nR k) (nR ((k:Int)*k+3*k)) x7) :=
  set_shr (aV (C:=C0) (aV (C:=CM) (k:=.shr) (fr:=true) (i:=(k:Int)) (k':=.shr) (fr':=true) (j:=k) rfl rfl (kH (sm9 (by omega)) (sm9 (by omega)))) (aV (C:=CM) (k:=.shr) (fr:=true) (i:=3) (k':=.shr) (fr':=true) (j:=k) rfl rfl (kH (sm9 (by decide)) (sm9 (by omega)))) rfl)
 obtain⟨r,e2⟩:∃ r:Int,ifS (bT (ltE (vE 5) (bJ (vE 0)))) (aC 6 (aT (vE 0) (vE 5))) cG (nE ns b c z acc (nR k) (nR ((k:Int)*k+3*k)) x7)=.nx (nE ns b c z acc (nR k) (nR r) x7):=by
  have t:bT (ltE (vE 5) (bJ (vE 0))) (nE ns b c z acc (nR k) (nR ((k:Int)*k+3*k)) x7)=.ok (decide ((k:Int)<((li ns).length:Int))):=dH (cW (G:=fun i j=>decide (i<j)) (k:=.shr) (fr:=true) (i:=(k:Int)) rfl (eF (k:=.shr) (fr:=false||(D.lst (li ns)).imm) (ds:=li ns) rfl));by_cases h:k<ns.length
  · rw[decide_eq_true (by rw[Ab];omega)]at t
    exact⟨ns.getD k 0,(cM t).trans (set_shr (eU (k:=.shr) (fr:=false||(D.lst (li ns)).imm) (ds:=li ns) rfl (k':=.shr) (fr':=true) (i:=k) rfl (gT h)))⟩
  · rw[decide_eq_false (by rw[Ab];omega)]at t
    exact⟨_,(cM t).trans rfl⟩
 generalize hw:2*z+1=w
 have w0:0<w:=by omega
 have w1:w.natAbs<2^250:=by
  have:(2:Nat)^250=1024*2^240:=by decide
  omega
 have md:∀ x6 x7,cR (bP (cE (.int 2)) (vE 3)) (cE (.int 1)) (nE ns b c z acc (nR k) x6 x7)=.ok ⟨.shr,true,.int w⟩:=fun x6 x7=>by
  rw[←hw];exact aV (C:=C0) (G:=fun i j=>i+j) (aV (C:=CM) (G:=fun i j=>i*j) (f:=cE (.int 2)) (k:=.shr) (fr:=true) (i:=2) rfl (g:=vE 3) (k':=.shr) (fr':=true) (j:=z) rfl (kH (sm9 (by decide)) (by omega))) (g:=cE (.int 1)) (k':=.shr) (fr':=true) (j:=1) rfl rfl
 have e3:aC 7 (fR (bW (vE 6) (cR (bP (cE (.int 2)) (vE 3)) (cE (.int 1)))) (vE 3)) (nE ns b c z acc (nR k) (nR r) x7)=.nx (nE ns b c z acc (nR k) (nR r) (nR (r%w-z))) :=
  set_shr (aV (C:=C0) (G:=fun i j=>i-j) (aV (C:=CP) (G:=fun i j=>i%j) (f:=vE 6) (k:=.shr) (fr:=true) (i:=r) rfl (md _ _) (gC w0)) (g:=vE 3) (k':=.shr) (fr':=true) (j:=z) rfl rfl)
 obtain⟨v,hv,e4⟩:∃ v:Int,v.natAbs<=z.natAbs/\ifS (bT (eqE (bW (cH (vE 6) (cR (bP (cE (.int 2)) (vE 3)) (cE (.int 1)))) (cE (.int 3))) (cE (.int 0)))) (aC 7 (cE (.int 0))) cG (nE ns b c z acc (nR k) (nR r) (nR (r%w-z)))=.nx (nE ns b c z acc (nR k) (nR r) (nR v)):=by
  have t:bT (eqE (bW (cH (vE 6) (cR (bP (cE (.int 2)) (vE 3)) (cE (.int 1)))) (cE (.int 3))) (cE (.int 0))) (nE ns b c z acc (nR k) (nR r) (nR (r%w-z)))=.ok (decide (r/w%3=0)) :=
   dH (jS (aV (C:=CP) (G:=fun i j=>i%j) (aV (C:=CD) (G:=fun i j=>i/j) (f:=vE 6) (k:=.shr) (fr:=true) (i:=r) rfl (md _ _) (nO w0 w1)) (g:=cE (.int 3)) (k':=.shr) (fr':=true) (j:=3) rfl (gC (by decide))) (g:=cE (.int 0)) (k':=.shr) (fr':=true) (j:=0) rfl)
  by_cases h:r/w%3=0
  · rw[decide_eq_true h]at t
    exact⟨0,by show 0<=_;omega,(cM t).trans rfl⟩
  · rw[decide_eq_false h]at t
    have:=By r (show w≠0 by omega)
    have:=Bq r w0
    exact⟨r%w-z,by omega,(cM t).trans rfl⟩
 have e5:jY 4 (vE 7) (nE ns b c z acc (nR k) (nR r) (nR v))=.nx (nE ns b c z (acc++[v]) (nR k) (nR r) (nR v)):=by
  refine(tG (i:=4) (fr:=true) (ds:=li acc) (f:=vE 7) (k:=.shr) (fr':=true) (d:=.int v) rfl rfl (by decide) (by rw[Ab,sizeLine_eq];omega)).trans ?_
  show _=RS.nx [_,_,_,_,some (⟨.own,true,.lst (li (acc++[v]))⟩:Res),_,_,_]
  rw[show li (acc++[v])=li acc++[.int v] by simp[li]]
  rfl
 exact⟨v,_,_,hv,(aF e1).trans ((aF e2).trans ((aF e3).trans ((aF e4).trans e5)))⟩
theorem aC5 (ns:List Int)(b c:Option Res){z:Int}(z0:0<=z)(z1:z.natAbs<2^240):∀ (m k:Nat) (x5 x6 x7:Option Res) (acc:List Int),k+m<=1000->acc.length+m<=1000 ->
 ∃ (L:List Int) (y5 y6 y7:Option Res),L.length=m/\(∀ v∈L,v.natAbs<=z.natAbs)/\fZ (.nm 5) nb1 true ((Bv k m).map fun (i:Nat)=>.int (i:Int)) (nE ns b c z acc x5 x6 x7)=.nx (nE ns b c z (acc++L) y5 y6 y7)
 | 0,k,x5,x6,x7,acc,_,_=>⟨[],x5,x6,x7,rfl,fun _ h=>by simp at h,by rw[Cv];rfl⟩
 | m+1,k,x5,x6,x7,acc,hk,ha=>by
  obtain⟨v,y6,y7,hv,e⟩:=aKu ns b c x6 x7 z0 z1 acc k (by omega) (by omega)
  obtain⟨L,z5,z6,z7,l1,l2,e2⟩:=aC5 ns b c z0 z1 m (k+1) (nR k) y6 y7 (acc++[v]) (by omega) (by simp;omega)
  have bd:Tg.bind true (.nm 5) (.int (k:Int)) (nE ns b c z acc x5 x6 x7)=.ok (nE ns b c z acc (nR k) x6 x7):=rfl;refine⟨v :: L,z5,z6,z7,by simp[l1],fun u hu=>?_,?_⟩
  · rcases Ag.mp hu with z | z
    · rw[z];exact hv
    · exact l2 u z
  · rw[Dc,Aj]
    refine(eA bd e).trans (e2.trans ?_)
    rw[Co];rfl
theorem aOu (ns:List Int)(st m:Nat)(h:st+m<=1000){z:Int}(z0:0<=z)(z1:z.natAbs<2^240):∃ L:List Int,L.length=m/\(∀ v∈L,v.natAbs<=z.natAbs)/\bY 4 8 aKg [.lst (li ns),.int st,.int m,.int z]=.ok ⟨.tmp,true,.lst (li L)⟩:=by
 obtain⟨L,y5,y6,y7,l1,l2,e⟩:=aC5 ns (some ⟨.shr,false,.int st⟩) (some ⟨.shr,false,.int m⟩) z0 z1 m st none none none [] (by omega) (by simp;omega)
 refine⟨L,l1,l2,?_⟩
 have e1:aC 4 (cF []) [some ⟨.shr,false,.lst (li ns)⟩,some ⟨.shr,false,.int st⟩,some ⟨.shr,false,.int m⟩,some ⟨.shr,false,.int z⟩,none,none,none,none]=.nx (nE ns (some ⟨.shr,false,.int st⟩) (some ⟨.shr,false,.int m⟩) z [] none none none):=rfl;have a:cR (vE 1) (vE 2) (nE ns (some ⟨.shr,false,.int st⟩) (some ⟨.shr,false,.int m⟩) z [] none none none)=.ok (sc (.int ((st:Int)+(m:Int)))):=aV (C:=C0) (G:=fun i j=>i+j) (k:=.shr) (fr:=true) (i:=(st:Int)) (k':=.shr) (fr':=true) (j:=(m:Int)) rfl rfl rfl;have it:=wH (a:=vE 1) (x:=⟨.shr,true,.int (st:Nat)⟩) (lo:=(st:Int)) (m:=m) (ρ:=nE ns (some ⟨.shr,false,.int st⟩) (some ⟨.shr,false,.int m⟩) z [] none none none) rfl rfl a rfl (by omega) (by omega)
 rw[aBu]at it;have e2:=(gA (tg:=.nm 5) (b:=nb1) it).trans e;rw[Dz]at e2;exact(dG (np:=4) (n:=8) (s:=aKg) (ds:=[.lst (li ns),.int st,.int m,.int z]) rfl ((aF e1).trans ((aF e2).trans (lH (f:=vE 4) (fr:=true) rfl)))).trans rfl
end Dr
namespace Dr
open PySem L2 Mir Sm Hm
abbrev aCy:FE:=aS (dW (vE 4)) 1 [6,2] (.nm 0) (bE (fH (vE 1) (soO (bP (vE 0) (vE 2))) (soO (cR (bP (vE 0) (vE 2)) (vE 2)))))
abbrev I_1:FS:=ifS (iB (bT (eqE (vE 8) (cE (.int 1)))) (bT (gtE (vE 4) (cE (.int 2)))))
 (gH 7 (bW (cH (vE 3) (cE (.int 40000))) (vE 4)) (aS (mI (aT (vE 7) (cE (.int 0))) (aT (vE 7) (dB (cE (.int 1))))) 2 [] (.tp [.nm 0,.nm 1]) (bE (fR (bP (cE (.int 2)) (vE 0)) (bP (cE (.int 3)) (vE 1))))))
 cG
abbrev I_2:FS:=ifS (bT (eqE (vE 8) (cE (.int 2))))
 (aC 7 (aS (mU (vE 7)) 2 [] (.tp [.nm 0,.nm 1]) (bE (aS (bV (vE 1)) 1 [0] (.nm 0) (bE (bP (vE 0) (cR (cE (.int 1)) (bW (vE 1) (cE (.int 3))))))))))
 cG
abbrev I_3:FS:=ifS (iB (bT (eqE (vE 8) (cE (.int 3)))) (bT (gtE (vE 4) (cE (.int 0)))))
 (gH 7 (bW (cH (vE 3) (cE (.int 40000))) (vE 4)) (aS (dW (vE 2)) 1 [] (.nm 0) (bE (cE (.int 0)))))
 cG
abbrev I_4:FS:=ifS (iB (bT (eqE (vE 8) (cE (.int 4)))) (bT (gtE (vE 4) (cE (.int 1)))))
 (gH 7 (cE (.int 0)) (aS (bV (aT (vE 7) (dB (cE (.int 1))))) 1 [] (.nm 0) (bE (bP (cE (.int 2)) (vE 0)))))
 cG
abbrev I_a:FS:=ifS (bT (eqE (bW (cH (vE 3) (cE (.int 40))) (cE (.int 16))) (cE (.int 7))))
 (aI (aC 4 (cR (cE (.int 6)) (bW (cH (vE 3) (cE (.int 640))) (cE (.int 7)))))
 (aC 5 (uI (vE 5) (cE (.int 9)))))
 cG
abbrev I_b:FS:=ifS (iB (bT (gtE (vE 5) (iM (cE (.int 10)) (cE (.int 9))))) (orT (bT (gtE (vE 2) (cE (.int 3)))) (bT (gtE (vE 4) (cE (.int 3))))))
 (aC 5 (iM (cE (.int 10)) (cE (.int 9))))
 cG
abbrev aOj:FE:=aT (cF [cE (.int 3),cE (.int 1),cE (.int 9),cE (.int 2),iM (cE (.int 10)) (cE (.int 9)),cE (.int 3),iM (cE (.int 10)) (cE (.int 50)),cE (.int 5)]) (bW (cH (vE 3) (cE (.int 5))) (cE (.int 8)))
abbrev aD8 (φc φn:Φ):FS :=
 (aI (aC 3 (aL φc [vE 0,vE 1]))
 (aI (aC 4 (bW (vE 3) (cE (.int 5))))
 (aI (aC 5 aOj)
 (aI I_a
 (aI I_b
 (aI (aC 6 (aL φn [vE 0,cR (vE 1) (cE (.int 1)),bP (vE 4) (vE 2),vE 5]))
 (aI (aC 7 aCy)
 (aI (aC 8 (bW (cH (vE 3) (cE (.int 7680))) (cE (.int 5))))
 (aI I_1
 (aI I_2
 (aI I_3
 (aI I_4
 (bS (vE 7))))))))))))))
abbrev dE (ns:List Int)(st n:Nat)(x3 x4 x5 x6 x7 x8:Option Res):Mir.Env:=[some ⟨.shr,false,.lst (li ns)⟩,some ⟨.shr,false,.int st⟩,some ⟨.shr,false,.int n⟩,x3,x4,x5,x6,x7,x8]
theorem pw9 (ρ:Mir.Env):iM (cE (.int 10)) (cE (.int 9)) ρ=.ok (sc (.int 1000000000)):=(aV (C:=CW) (G:=fun i j=>i^j.toNat) (i:=10) (j:=9) rfl rfl (by decide +kernel)).trans rfl
theorem aUu (ρ:Mir.Env):iM (cE (.int 10)) (cE (.int 50)) ρ=.ok (sc (.int p50)):=aV (C:=CW) (G:=fun i j=>i^j.toNat) (i:=10) (j:=50) rfl rfl (by decide +kernel)
theorem aA0 {f:FE}{ρ:Mir.Env}{k:Kd}{fr:Bool}{ds:List D}{d:D}(h:f ρ=.ok ⟨k,fr,.lst ds⟩)(hd:ds[ds.length-1]?=some d):aT f (dB (cE (.int 1))) ρ=.ok ⟨.shr,fr||d.imm,d⟩:=by
 have v:dB (cE (.int 1)) ρ=.ok (sc (.int (-1))):=rfl;have l:=(Aw.mp hd).1
 have e:atI ds (-1)=some d:=by
  unfold atI ixN;rw[if_neg (by decide),if_pos (by omega)]
  show ds[((-1:Int)+ds.length).toNat]?=some d
  rw[show ((-1:Int)+ds.length).toNat=ds.length-1 by omega];exact hd
 simp only[aT,h,v,Mir.R.ok_bind,sc,asS,asI,e]
theorem aJ9 {n:Nat}{z:Int}(h0:0<=z)(h1:z<n):L2.ixN n z=some z.toNat:=by
 unfold ixN;rw[if_pos h0,if_pos h1]
structure Rs (n m B:Nat)(R:List (List Int)):Prop where
 len:R.length=m
 row:∀ r∈R,r.length=n
 bd:∀ r∈R,∀ x∈r,x.natAbs<=B
theorem Rs.set {n m B B':Nat}{R:List (List Int)}(h:Rs n m B R){r:List Int}(hr:r.length=n)(hb:∀ x∈r,x.natAbs<=B')(hB:B<=B')(i:Nat):Rs n m B' (R.set i r):=by
 refine⟨by rw[Ar];exact h.len,fun q hq=>?_,fun q hq x hx=>?_⟩<;>rcases Bt hq with z | z
 · exact h.row q z
 · rw[z];exact hr
 · exact Bp (h.bd q z x hx) hB
 · rw[z]at hx;exact hb x hx
theorem Rs.up {n m B B':Nat}{R:List (List Int)}(h:Rs n m B R)(hB:B<=B'):Rs n m B' R:=⟨h.len,h.row,fun r hr x hx=>Bp (h.bd r hr x hx) hB⟩
section
variable {ns:List Int}{st n:Nat}{x6 x5:Option Res}{c w:Int}{m B:Nat}{R:List (List Int)}
abbrev gE (ns:List Int)(st n:Nat)(x5 x6:Option Res)(c w:Int)(m:Nat)(f:Bool)(R:List (List Int)):Mir.Env:=dE ns st n (nR c) (nR m) x5 x6 (tR f R) (nR w)
theorem zJ {f1 f2:FE}{ρ:Mir.Env}{k k':Kd}{fr fr':Bool}{a b:Bool}(h1:f1 ρ=.ok ⟨k,fr,.bl a⟩)(h2:f2 ρ=.ok ⟨k',fr',.bl b⟩):iB (bT f1) (bT f2) ρ=.ok (a&&b):=by
 rw[aEa (dH h1) fun _=>dH h2];cases a<;>rfl
theorem aQd {f:Bool}{e j:FE}{z:Int}{r:List Int}{k k':Kd}{f' f'':Bool}(hf:e (gE ns st n x5 x6 c w m f R)=.ok ⟨k,f',.lst (li r)⟩)(hk:k≠.own)(hj:j (gE ns st n x5 x6 c w m f R)=.ok ⟨k',f'',.int z⟩)(z0:0<=z)(z1:z<R.length):∃ g,gH 7 j e (gE ns st n x5 x6 c w m f R)=.nx (gE ns st n x5 x6 c w m g (R.set z.toNat r)):=by
 refine⟨f&&f',(aCj (i:=7) (fr:=f) (ds:=lil R) hf hk rfl hj (aJ9 z0 (by rw[Ab];exact z1))).trans ?_⟩
 rw[show (lil R).set z.toNat (.lst (li r))=lil (R.set z.toNat r) by simp[lil,List.map_set]]
 rfl
theorem md4 {f:Bool}(hm:0<m):∃ z:Int,0<=z/\z<m/\bW (cH (vE 3) (cE (.int 40000))) (vE 4) (gE ns st n x5 x6 c w m f R)=.ok (sc (.int z)) :=
 ⟨_,By _ (by omega),Bq _ (by omega),aV (C:=CP) (G:=fun i j=>i%j) (aV (C:=CD) (G:=fun i j=>i/j) (f:=vE 3) (k:=.shr) (fr:=true) (i:=c) rfl (g:=cE (.int 40000)) (k':=.shr) (fr':=true) (j:=40000) rfl (nO (by decide) (by decide))) (g:=vE 4) (k':=.shr) (fr':=true) (j:=(m:Int)) rfl (gC (by omega))⟩
theorem aB9 (h:Rs n m B R){i:Nat}(hi:i<m):(R.getD i []).length=n/\∀ x∈R.getD i [],x.natAbs<=B:=by
 have:R.getD i []∈R:=Mir.bA (by rw[h.len];exact hi)
 exact⟨h.row _ this,h.bd _ this⟩
theorem aS3 (f:Bool)(hn:n<=5)(hB:B<2^200)(h:Rs n m B R):∃ g R',Rs n m (5*B) R'/\I_1 (gE ns st n x5 x6 c w m f R)=.nx (gE ns st n x5 x6 c w m g R'):=by
 have t:=zJ (f1:=eqE (vE 8) (cE (.int 1))) (f2:=gtE (vE 4) (cE (.int 2))) (ρ:=gE ns st n x5 x6 c w m f R) (jS (k:=.shr) (fr:=true) (i:=w) rfl (k':=.shr) (fr':=true) (j:=1) rfl) (cW (G:=fun i j=>decide (j<i)) (k:=.shr) (fr:=true) (i:=(m:Int)) rfl (k':=.shr) (fr':=true) (j:=2) rfl);by_cases hc:(decide (w=1)&&decide ((2:Int)<m))=true
 · rw[hc]at t
   have m0:2<m:=by simp at hc;omega
   obtain⟨a1,a2⟩:=aB9 h (show 0<m by omega)
   obtain⟨b1,b2⟩:=aB9 h (show m-1<m by omega)
   have p200:(2:Nat)^200<=2^1000:=Cp (by decide) (by decide)
   have v0:=fT (f:=vE 7) (g:=cE (.int 0)) (ρ:=gE ns st n x5 x6 c w m f R) (k:=.own) (fr:=f||(D.lst (lil R)).imm) (ds:=lil R) (k':=.shr) (fr':=true) (i:=0) rfl rfl (hV (by rw[h.len];omega))
   have v1:=aA0 (f:=vE 7) (ρ:=gE ns st n x5 x6 c w m f R) (k:=.own) (fr:=f||(D.lst (lil R)).imm) (ds:=lil R) rfl (by rw[Ab,h.len];exact hV (by rw[h.len];omega))
   have e:=cB (k:=2) (fs:=[]) (tg:=.tp [.nm 0,.nm 1]) (b:=bE (fR (bP (cE (.int 2)) (vE 0)) (bP (cE (.int 3)) (vE 1)))) (out:=fun p:Int×Int=>D.int (2*p.1-3*p.2)) (pB v0 v1) (fun p hp=>by
    obtain⟨q1,q2⟩:=Bx (a:=p.1) (b:=p.2) hp;have b1:=a2 _ q1;have b2:=b2 _ q2;refine⟨[some ⟨.shr,_,.int p.1⟩,some ⟨.shr,_,.int p.2⟩],.shr,rfl,dZ ?_,by decide⟩
    exact aV (C:=C0) (G:=fun i j=>i-j) (aV (C:=CM) (G:=fun i j=>i*j) (f:=cE (.int 2)) (k:=.shr) (fr:=true) (i:=2) rfl (g:=vE 0) (k':=.shr) (j:=p.1) rfl (kH (sm9 (by decide)) (by omega))) (aV (C:=CM) (G:=fun i j=>i*j) (f:=cE (.int 3)) (k:=.shr) (fr:=true) (i:=3) rfl (g:=vE 1) (k':=.shr) (j:=p.2) rfl (kH (sm9 (by decide)) (by omega))) rfl) (by rw[Cu,sizeLine_eq];omega)
   rw[show (((R.getD 0 []).zip (R.getD (m-1) [])).map fun p:Int×Int=>D.int (2*p.1-3*p.2))=li (((R.getD 0 []).zip (R.getD (m-1) [])).map fun p=>2*p.1-3*p.2) by simp[li]]at e
   obtain⟨z,z0,z1,ez⟩:=md4 (ns:=ns) (st:=st) (n:=n) (x5:=x5) (x6:=x6) (c:=c) (w:=w) (R:=R) (f:=f) (show 0<m by omega)
   obtain⟨g,eg⟩:=aQd e (by decide) ez z0 (by rw[h.len];exact z1)
   refine⟨g,_,h.set (B':=5*B) (by rw[Ab,Cu];omega) (fun x hx=>?_) (by omega) _,(cM t).trans eg⟩
   obtain⟨p,hp,rfl⟩:=Ai.mp hx;obtain⟨q1,q2⟩:=Bx (a:=p.1) (b:=p.2) hp;have:=a2 _ q1
   have:=b2 _ q2
   omega
 · rw[Et.mpr hc]at t
   exact⟨f,R,h.up (by omega),(cM t).trans rfl⟩
theorem aQ3 (f:Bool)(hn:n<=5)(hm:m<=12)(hB:B<2^200)(h:Rs n m B R):∃ g R',Rs n m (3*B) R'/\I_2 (gE ns st n x5 x6 c w m f R)=.nx (gE ns st n x5 x6 c w m g R'):=by
 have t:=dH (jS (f:=vE 8) (g:=cE (.int 2)) (ρ:=gE ns st n x5 x6 c w m f R) (k:=.shr) (fr:=true) (i:=w) rfl (k':=.shr) (fr':=true) (j:=2) rfl);by_cases hc:w=2
 · rw[decide_eq_true hc]at t
   have p200:(2:Nat)^200<=2^1000:=Cp (by decide) (by decide)
   have it:mU (vE 7) (gE ns st n x5 x6 c w m f R)=.ok ⟨false,f||(D.lst (lil R)).imm,R.zipIdx.map fun p=>.tup [.int p.2,.lst (li p.1)]⟩:=by
    have v:vE 7 (gE ns st n x5 x6 c w m f R)=.ok ⟨.own,f||(D.lst (lil R)).imm,.lst (lil R)⟩:=rfl;simp only[mU,v,Mir.R.ok_bind,asL];rw[show rV (lil R)=R.zipIdx.map fun p=>.tup [.int p.2,.lst (li p.1)] from yG (fun xs=>.lst (li xs)) R]
    rfl
   have e:=cB (k:=2) (fs:=[]) (tg:=.tp [.nm 0,.nm 1]) (b:=bE (aS (bV (vE 1)) 1 [0] (.nm 0) (bE (bP (vE 0) (cR (cE (.int 1)) (bW (vE 1) (cE (.int 3)))))))) (out:=fun p:List Int×Nat=>D.lst (li (p.1.map fun x=>x*(1+(p.2:Int)%3)))) it (fun p hp=>by
    refine⟨[some ⟨.shr,f||(D.lst (lil R)).imm,.int p.2⟩,some ⟨.shr,f||(D.lst (lil R)).imm,.lst (li p.1)⟩],.tmp,rfl,dZ ?_,by decide⟩
    · have pm:p.1∈R:=(Gu hp).2.2▸Dd _
      have e:=cB (it:=bV (vE 1)) (ρ:=[some ⟨.shr,f||(D.lst (lil R)).imm,.int p.2⟩,some ⟨.shr,f||(D.lst (lil R)).imm,.lst (li p.1)⟩]) (k:=1) (fs:=[0]) (tg:=.nm 0) (b:=bE (bP (vE 0) (cR (cE (.int 1)) (bW (vE 1) (cE (.int 3)))))) (inj:=D.int) (out:=fun x=>D.int (x*(1+(p.2:Int)%3))) (xs:=p.1) (fA (f:=vE 1) (k:=.shr) (fr:=(f||(D.lst (lil R)).imm)||(D.lst (li p.1)).imm) (ds:=li p.1) rfl) (fun x hx=>by
       refine⟨[some ⟨.shr,_,.int x⟩,some ⟨.shr,_,.int p.2⟩],.shr,rfl,dZ ?_,by decide⟩
       have:=h.bd _ pm x hx
       have q0:=By (p.2:Int) (show (3:Int)≠0 by decide)
       have q1:=Bq (p.2:Int) (show (0:Int)<3 by decide)
       exact aV (C:=CM) (G:=fun i j=>i*j) (f:=vE 0) (k:=.shr) (i:=x) rfl (aV (C:=C0) (G:=fun i j=>i+j) (f:=cE (.int 1)) (k:=.shr) (fr:=true) (i:=1) rfl (aV (C:=CP) (G:=fun i j=>i%j) (f:=vE 1) (k:=.shr) (i:=(p.2:Int)) rfl (g:=cE (.int 3)) (k':=.shr) (fr':=true) (j:=3) rfl (gC (by decide))) rfl) (kH (by omega) (sm9 (by omega)))) (by rw[h.row _ pm,sizeLine_eq];omega)
      rw[show (p.1.map fun x=>D.int (x*(1+(p.2:Int)%3)))=li (p.1.map fun x=>x*(1+(p.2:Int)%3)) by simp[li]]at e
      exact e) (by rw[Gv,h.len,sizeLine_eq];omega)
   rw[show (R.zipIdx.map fun p:List Int×Nat=>D.lst (li (p.1.map fun x=>x*(1+(p.2:Int)%3))))=lil (R.zipIdx.map fun p=>p.1.map fun x=>x*(1+(p.2:Int)%3)) by simp[lil]]at e
   refine⟨true,_,⟨by rw[Ab,Gv];exact h.len,fun r hr=>?_,fun r hr x hx=>?_⟩,(cM t).trans (cS e)⟩
   · obtain⟨p,hp,rfl⟩:=Ai.mp hr
     have pm:p.1∈R:=(Gu hp).2.2▸Dd _;rw[Ab];exact h.row _ pm
   · obtain⟨p,hp,rfl⟩:=Ai.mp hr
     obtain⟨y,hy,rfl⟩:=Ai.mp hx;have pm:p.1∈R:=(Gu hp).2.2▸Dd _;have:=h.bd _ pm y hy
     have q0:=By (p.2:Int) (show (3:Int)≠0 by decide)
     have q1:=Bq (p.2:Int) (show (0:Int)<3 by decide)
     rw[Eh,Ey];exact Hd (by omega) this
 · rw[decide_eq_false hc]at t
   exact⟨f,R,h.up (by omega),(cM t).trans rfl⟩
theorem aSv (f:Bool)(hn:n<=5)(h:Rs n m B R):∃ g R',Rs n m B R'/\I_3 (gE ns st n x5 x6 c w m f R)=.nx (gE ns st n x5 x6 c w m g R'):=by
 have t:=zJ (f1:=eqE (vE 8) (cE (.int 3))) (f2:=gtE (vE 4) (cE (.int 0))) (ρ:=gE ns st n x5 x6 c w m f R) (jS (k:=.shr) (fr:=true) (i:=w) rfl (k':=.shr) (fr':=true) (j:=3) rfl) (cW (G:=fun i j=>decide (j<i)) (k:=.shr) (fr:=true) (i:=(m:Int)) rfl (k':=.shr) (fr':=true) (j:=0) rfl);by_cases hc:(decide (w=3)&&decide ((0:Int)<m))=true
 · rw[hc]at t
   have m0:0<m:=by simp at hc;omega
   have e:=cB (it:=dW (vE 2)) (ρ:=gE ns st n x5 x6 c w m f R) (k:=1) (fs:=[]) (tg:=.nm 0) (b:=bE (cE (.int 0))) (inj:=fun i:Nat=>D.int (i:Int)) (out:=fun _=>D.int 0) (kZ (k:=.shr) (fr:=true) (n:=n) rfl (by omega)) (fun p _=>⟨[some ⟨.shr,true,.int p⟩],.shr,rfl,rfl,by decide⟩) (by rw[Df,sizeLine_eq];omega)
   rw[show ((Bf n).map fun _=>D.int 0)=li ((Bf n).map fun _=>0) by simp[li]]at e
   obtain⟨z,z0,z1,ez⟩:=md4 (ns:=ns) (st:=st) (n:=n) (x5:=x5) (x6:=x6) (c:=c) (w:=w) (R:=R) (f:=f) m0;obtain⟨g,eg⟩:=aQd e (by decide) ez z0 (by rw[h.len];exact z1)
   refine⟨g,_,h.set (B':=B) (by simp) (fun x hx=>?_) (Ah _) _,(cM t).trans eg⟩
   obtain⟨p,hp,rfl⟩:=Ai.mp hx;exact De _
 · rw[Et.mpr hc]at t
   exact⟨f,R,h,(cM t).trans rfl⟩
theorem aSr (f:Bool)(hn:n<=5)(hB:B<2^200)(h:Rs n m B R):∃ g R',Rs n m (2*B) R'/\I_4 (gE ns st n x5 x6 c w m f R)=.nx (gE ns st n x5 x6 c w m g R'):=by
 have t:=zJ (f1:=eqE (vE 8) (cE (.int 4))) (f2:=gtE (vE 4) (cE (.int 1))) (ρ:=gE ns st n x5 x6 c w m f R) (jS (k:=.shr) (fr:=true) (i:=w) rfl (k':=.shr) (fr':=true) (j:=4) rfl) (cW (G:=fun i j=>decide (j<i)) (k:=.shr) (fr:=true) (i:=(m:Int)) rfl (k':=.shr) (fr':=true) (j:=1) rfl);by_cases hc:(decide (w=4)&&decide ((1:Int)<m))=true
 · rw[hc]at t
   have m0:1<m:=by simp at hc;omega
   obtain⟨b1,b2⟩:=aB9 h (show m-1<m by omega)
   have p200:(2:Nat)^200<=2^1000:=Cp (by decide) (by decide)
   have v1:=aA0 (f:=vE 7) (ρ:=gE ns st n x5 x6 c w m f R) (k:=.own) (fr:=f||(D.lst (lil R)).imm) (ds:=lil R) rfl (by rw[Ab,h.len];exact hV (by rw[h.len];omega))
   have e:=cB (k:=1) (fs:=[]) (tg:=.nm 0) (b:=bE (bP (cE (.int 2)) (vE 0))) (inj:=D.int) (out:=fun x=>D.int (2*x)) (xs:=R.getD (m-1) []) (fA v1) (fun x hx=>by
    have:=b2 x hx
    exact⟨[some ⟨.shr,_,.int x⟩],.shr,rfl,dZ (aV (C:=CM) (G:=fun i j=>i*j) (f:=cE (.int 2)) (k:=.shr) (fr:=true) (i:=2) rfl (g:=vE 0) (k':=.shr) (j:=x) rfl (kH (sm9 (by decide)) (by omega))),by decide⟩) (by rw[b1,sizeLine_eq];omega)
   rw[show ((R.getD (m-1) []).map fun x=>D.int (2*x))=li ((R.getD (m-1) []).map fun x=>2*x) by simp[li]]at e
   obtain⟨g,eg⟩:=aQd (j:=cE (.int 0)) (z:=0) (k':=.shr) (f'':=true) e (by decide) rfl (by decide) (by rw[h.len];omega)
   refine⟨g,_,h.set (B':=2*B) (by rw[Ab];exact b1) (fun x hx=>?_) (by omega) _,(cM t).trans eg⟩
   obtain⟨y,hy,rfl⟩:=Ai.mp hx;have:=b2 y hy
   omega
 · rw[Et.mpr hc]at t
   exact⟨f,R,h.up (by omega),(cM t).trans rfl⟩
end
end Dr
namespace Dr
open PySem L2 Mir Sm Hm
def aEo (φ:Φ):Prop:=∀ (ns:List Int) (k:Nat),φ [.lst (li ns),.int k]=.ok (sc (.int (fD ns k)))
def aEn (φ:Φ):Prop:=∀ (ns:List Int) (st m:Nat) {z:Int},st+m<=1000->0<=z->z.natAbs<2^240->∃ L:List Int,L.length=m/\(∀ v∈L,v.natAbs<=z.natAbs)/\φ [.lst (li ns),.int st,.int m,.int z]=.ok ⟨.tmp,true,.lst (li L)⟩
structure Drw (n:Nat)(R:List (List Int)):Prop where
 len:R.length<=12
 row:∀ r∈R,r.length=n
 bd:BN 35 R\/(n<=3/\R.length<=3/\BN 172 R)
def aFf (L:List Int)(n m:Nat):List (List Int):=(Bf m).map fun k=>(L.take (k*n+n)).drop (k*n)
theorem aUe {ns:List Int}{st n m:Nat}{x3 x5 x7 x8:Option Res}{L:List Int}(n5:n<=5)(hm:m<=12)(hl:L.length=m*n) :
 ∃ f,aCy (dE ns st n x3 (nR m) x5 (some ⟨.own,true,.lst (li L)⟩) x7 x8)=.ok ⟨.tmp,f,.lst (lil (aFf L n m))⟩:=by
 have e:=qQ (it:=dW (vE 4)) (ρ:=dE ns st n x3 (nR m) x5 (some ⟨.own,true,.lst (li L)⟩) x7 x8) (k:=1) (fs:=[6,2]) (tg:=.nm 0) (b:=bE (fH (vE 1) (soO (bP (vE 0) (vE 2))) (soO (cR (bP (vE 0) (vE 2)) (vE 2))))) (inj:=fun i:Nat=>D.int (i:Int)) (out:=fun k=>D.lst (li ((L.take (k*n+n)).drop (k*n)))) (kZ (k:=.shr) (fr:=true) (n:=m) rfl (by omega)) (fun k hk=>by
  have hk:=Bo.mp hk;generalize hρ:([some ⟨.shr,true,.int k⟩,some ⟨.own,true,.lst (li L)⟩,some ⟨.shr,false,.int n⟩]:Mir.Env)=ρ
  have p:bP (vE 0) (vE 2) ρ=.ok (sc (.int ((k*n:Nat):Int))):=by
   subst hρ;exact(aV (C:=CM) (G:=fun i j=>i*j) (k:=.shr) (fr:=true) (i:=(k:Int)) (k':=.shr) (fr':=true) (j:=(n:Int)) rfl rfl (kH (sm9 (by omega)) (sm9 (by omega)))).trans (by rw[Ij])
  have p2:cR (bP (vE 0) (vE 2)) (vE 2) ρ=.ok (sc (.int ((k*n+n:Nat):Int))):=by
   have v:vE 2 ρ=.ok ⟨.shr,true,.int n⟩:=by subst hρ;rfl
   exact(aV (C:=C0) (G:=fun i j=>i+j) p v rfl).trans (by rw[Ik])
  have v1:vE 1 ρ=.ok ⟨.own,true||(D.lst (li L)).imm,.lst (li L)⟩:=by subst hρ;rfl
  have c:=kJ v1 (nY p) (nY p2)
  have le:k*n+n<=L.length:=by
   rw[hl,←Fs];exact Fk n hk
  rw[aN3 _ (by omega) (by rw[Ab];exact le),←Ht,←List.map_drop]at c
  refine⟨ρ,.tmp,_,?_,dZ c,by decide⟩
  subst hρ;rfl) (by rw[Df,sizeLine_eq];omega)
 obtain⟨f,e⟩:=e;refine⟨f,e.trans ?_⟩
 simp[aFf,lil,Function.comp_def]
theorem aKj {n m B:Nat}{L:List Int}(hl:L.length=m*n)(hb:∀ v∈L,v.natAbs<=B):Rs n m B (aFf L n m):=by
 refine⟨by simp[aFf],fun r hr=>?_,fun r hr x hx=>?_⟩
 · obtain⟨k,hk,rfl⟩:=Ai.mp hr
   have hk:=Bo.mp hk;have le:k*n+n<=L.length:=by rw[hl,←Fs];exact Fk n hk
   rw[Eo,Bj];omega
 · obtain⟨k,hk,rfl⟩:=Ai.mp hr
   exact hb x (Cf (Di hx))
theorem aH4 {ns:List Int}{st n:Nat}{c:Int}{x4 x5 x6 x7 x8:Option Res}:∃ z:Int,0<z/\z<=p50/\aOj (dE ns st n (nR c) x4 x5 x6 x7 x8)=.ok (sc (.int z)):=by
 generalize hρ:dE ns st n (nR c) x4 x5 x6 x7 x8=ρ
 have v:bW (cH (vE 3) (cE (.int 5))) (cE (.int 8)) ρ=.ok (sc (.int (c/5%8))):=by
  subst hρ;exact aV (C:=CP) (G:=fun i j=>i%j) (aV (C:=CD) (G:=fun i j=>i/j) (f:=vE 3) (k:=.shr) (fr:=true) (i:=c) rfl (g:=cE (.int 5)) (k':=.shr) (fr':=true) (j:=5) rfl (nO (by decide) (by decide))) (g:=cE (.int 8)) (k':=.shr) (fr':=true) (j:=8) rfl (gC (by decide))
 have l:cF [cE (.int 3),cE (.int 1),cE (.int 9),cE (.int 2),iM (cE (.int 10)) (cE (.int 9)),cE (.int 3),iM (cE (.int 10)) (cE (.int 50)),cE (.int 5)] ρ=.ok ⟨.tmp,true,.lst (li [3,1,9,2,1000000000,3,p50,5])⟩:=by
  have c:∀ z,cE (.int z) ρ=.ok ⟨.shr,true,.int z⟩:=fun z=>rfl;have ev:=aB (c 3) (aB (c 1) (aB (c 9) (aB (c 2) (aB (pw9 ρ) (aB (c 3) (aB (aUu ρ) (aB (c 5) aY)))))));simp only[cF,ev,Mir.R.ok_bind];rfl
 have h0:=By (c/5) (show (8:Int)≠0 by decide)
 have h1:=Bq (c/5) (show (0:Int)<8 by decide)
 obtain⟨i,hi⟩:=Dg h0;rw[hi]at v h1;have i8:i<8:=by omega
 have pp:(1000000000:Int)<=p50:=by decide +kernel
 have all:∀ z∈([3,1,9,2,1000000000,3,p50,5]:List Int),0<z/\z<=p50:=fun z hz=>by
  simp only[Ag,Bi,or_false]at hz;rcases hz with h | h | h | h | h | h | h | h<;>subst h<;>omega
 have m:([3,1,9,2,1000000000,3,p50,5]:List Int).getD i 0∈([3,1,9,2,1000000000,3,p50,5]:List Int):=Mir.bA i8;refine⟨_,(all _ m).1,(all _ m).2,eU l v (gT i8)⟩
theorem aLh {φc φn:Φ}(hc:aEo φc)(hφ:aEn φn)(ns:List Int)(st n:Nat)(hs:st<=900)(n1:1<=n)(n5:n<=5):∃ g R,Drw n R/\bY 3 9 (aD8 φc φn) [.lst (li ns),.int st,.int n]=.ok ⟨.tmp,g,.lst (lil R)⟩:=by
 obtain⟨c0,c1⟩:=aA9 ns st;generalize hcv:fD ns st=c at c0 c1
 have e1:aC 3 (aL φc [vE 0,vE 1]) (dE ns st n none none none none none none)=.nx (dE ns st n (nR c) none none none none none):=by
  have:=gF (φ:=φc) (fs:=[vE 0,vE 1]) (ρ:=dE ns st n none none none none none none) (aB rfl (aB rfl aY)) (hc ns st)
  rw[hcv]at this;exact set_shr this
 have h5:=By c (show (5:Int)≠0 by decide)
 have h5':=Bq c (show (0:Int)<5 by decide)
 obtain⟨m0,hm0⟩:=Dg h5;rw[hm0]at h5'
 have e2:aC 4 (bW (vE 3) (cE (.int 5))) (dE ns st n (nR c) none none none none none)=.nx (dE ns st n (nR c) (nR m0) none none none none):=by
  have:=aV (C:=CP) (G:=fun i j=>i%j) (f:=vE 3) (ρ:=dE ns st n (nR c) none none none none none) (k:=.shr) (fr:=true) (i:=c) rfl (g:=cE (.int 5)) (k':=.shr) (fr':=true) (j:=5) rfl (gC (by decide))
  rw[hm0]at this;exact set_shr this
 obtain⟨z0,z00,z01,ez⟩:=aH4 (ns:=ns) (st:=st) (n:=n) (c:=c) (x4:=nR m0) (x5:=none) (x6:=none) (x7:=none) (x8:=none);have e3:aC 5 aOj (dE ns st n (nR c) (nR m0) none none none none)=.nx (dE ns st n (nR c) (nR m0) (nR z0) none none none):=set_shr ez;have cd:∀ (j:Int) (x4 x5),0<j->j.natAbs<2^250->cH (vE 3) (cE (.int j)) (dE ns st n (nR c) x4 x5 none none none)=.ok (sc (.int (c/j))):=fun j x4 x5 h1 h2=>aV (C:=CD) (G:=fun i j=>i/j) (f:=vE 3) (k:=.shr) (fr:=true) (i:=c) rfl (g:=cE (.int j)) (k':=.shr) (fr':=true) (j:=j) rfl (nO h1 h2)
 obtain⟨m,z,e4,q1⟩:∃ (m:Nat) (z:Int),I_a (dE ns st n (nR c) (nR m0) (nR z0) none none none)=.nx (dE ns st n (nR c) (nR m) (nR z) none none none)/\m<=12/\0<z/\z<=p50:=by
  have t:=dH (jS (aV (C:=CP) (G:=fun i j=>i%j) (cd 40 (nR m0) (nR z0) (by decide) (by decide)) (g:=cE (.int 16)) (k':=.shr) (fr':=true) (j:=16) rfl (gC (by decide))) (g:=cE (.int 7)) (k':=.shr) (fr':=true) (j:=7) rfl)
  by_cases h:c/40%16=7
  · rw[decide_eq_true h]at t
    have k0:=By (c/640) (show (7:Int)≠0 by decide)
    have k1:=Bq (c/640) (show (0:Int)<7 by decide)
    obtain⟨j,hj⟩:=Dg k0;rw[hj]at k1
    have a:aC 4 (cR (cE (.int 6)) (bW (cH (vE 3) (cE (.int 640))) (cE (.int 7)))) (dE ns st n (nR c) (nR m0) (nR z0) none none none)=.nx (dE ns st n (nR c) (nR ((6+j:Nat):Int)) (nR z0) none none none):=by
     have:=aV (C:=C0) (G:=fun i j=>i+j) (f:=cE (.int 6)) (k:=.shr) (fr:=true) (i:=6) rfl (aV (C:=CP) (G:=fun i j=>i%j) (cd 640 (nR m0) (nR z0) (by decide) (by decide)) (g:=cE (.int 7)) (k':=.shr) (fr':=true) (j:=7) rfl (gC (by decide))) rfl
     rw[show 6+c/640%7=((6+j:Nat):Int) by rw[hj];omega]at this
     exact set_shr this
    have b:aC 5 (uI (vE 5) (cE (.int 9))) (dE ns st n (nR c) (nR ((6+j:Nat):Int)) (nR z0) none none none)=.nx (dE ns st n (nR c) (nR ((6+j:Nat):Int)) (nR (if 9<z0 then 9 else z0)) none none none):=by
     have:uI (vE 5) (cE (.int 9)) (dE ns st n (nR c) (nR ((6+j:Nat):Int)) (nR z0) none none none)=.ok (sc (.int (if 9<z0 then 9 else z0))):=by
      have v:vE 5 (dE ns st n (nR c) (nR ((6+j:Nat):Int)) (nR z0) none none none)=.ok (sc (.int z0)):=rfl;have v9:cE (.int 9) (dE ns st n (nR c) (nR ((6+j:Nat):Int)) (nR z0) none none none)=.ok (sc (.int 9)):=rfl;simp only[uI,v,v9,Mir.R.ok_bind,sc,asI]
     exact set_shr this
    refine⟨6+j,_,(cM t).trans ((aF a).trans b),by omega,?_,?_⟩
    · split<;>omega
    · split<;>omega
  · rw[decide_eq_false h]at t
    exact⟨m0,z0,(cM t).trans rfl,by omega,z00,z01⟩
 obtain⟨m12,z1,z2⟩:=q1
 obtain⟨z',e5,q2⟩:∃ z':Int,I_b (dE ns st n (nR c) (nR m) (nR z) none none none)=.nx (dE ns st n (nR c) (nR m) (nR z') none none none)/\0<z'/\z'<=p50/\(z'<=1000000000\/(n<=3/\m<=3)):=by
  have g1:bT (gtE (vE 5) (iM (cE (.int 10)) (cE (.int 9)))) (dE ns st n (nR c) (nR m) (nR z) none none none)=.ok (decide (1000000000<z)):=dH (cW (G:=fun i j=>decide (j<i)) (k:=.shr) (fr:=true) (i:=z) rfl (pw9 _))
  have g2:orT (bT (gtE (vE 2) (cE (.int 3)))) (bT (gtE (vE 4) (cE (.int 3)))) (dE ns st n (nR c) (nR m) (nR z) none none none)=.ok (decide ((3:Int)<n)||decide ((3:Int)<m)):=by
   have a1:bT (gtE (vE 2) (cE (.int 3))) (dE ns st n (nR c) (nR m) (nR z) none none none)=.ok (decide ((3:Int)<n)):=dH (cW (G:=fun i j=>decide (j<i)) (f:=vE 2) (g:=cE (.int 3)) (k:=.shr) (fr:=true) (i:=(n:Int)) rfl (k':=.shr) (fr':=true) (j:=3) rfl);have a2:bT (gtE (vE 4) (cE (.int 3))) (dE ns st n (nR c) (nR m) (nR z) none none none)=.ok (decide ((3:Int)<m)):=dH (cW (G:=fun i j=>decide (j<i)) (f:=vE 4) (g:=cE (.int 3)) (k:=.shr) (fr:=true) (i:=(m:Int)) rfl (k':=.shr) (fr':=true) (j:=3) rfl);rw[yI a1 fun _=>a2];cases decide ((3:Int)<n)<;>rfl
  have t:iB (bT (gtE (vE 5) (iM (cE (.int 10)) (cE (.int 9))))) (orT (bT (gtE (vE 2) (cE (.int 3)))) (bT (gtE (vE 4) (cE (.int 3))))) (dE ns st n (nR c) (nR m) (nR z) none none none)=.ok (decide (1000000000<z)&&(decide ((3:Int)<n)||decide ((3:Int)<m))):=by
   rw[aEa g1 fun _=>g2];cases decide (1000000000<z)<;>rfl
  by_cases h:(decide (1000000000<z)&&(decide ((3:Int)<n)||decide ((3:Int)<m)))=true
  · rw[h]at t
    exact⟨1000000000,(cM t).trans (set_shr (pw9 _)),by decide,by decide +kernel,.inl (by decide)⟩
  · rw[Et.mpr h]at t
    refine⟨z,(cM t).trans rfl,z1,z2,?_⟩
    by_cases hz:z<=1000000000
    · exact .inl hz
    · right
      simp at h
      omega
 obtain⟨y1,y2,y3⟩:=q2;have pz:p50.natAbs<2^167:=by decide +kernel
 have zb:z'.natAbs<2^167:=by omega
 have mn:m*n<=12*5:=Hd m12 n5;obtain⟨L,l1,l2,eL⟩:=hφ ns (st+1) (m*n) (z:=z') (by omega) (by omega) (Af zb (Cp (by decide) (by decide)))
 have e6:aC 6 (aL φn [vE 0,cR (vE 1) (cE (.int 1)),bP (vE 4) (vE 2),vE 5]) (dE ns st n (nR c) (nR m) (nR z') none none none)=.nx (dE ns st n (nR c) (nR m) (nR z') (some ⟨.own,true,.lst (li L)⟩) none none):=by
  have a:cR (vE 1) (cE (.int 1)) (dE ns st n (nR c) (nR m) (nR z') none none none)=.ok (sc (.int ((st+1:Nat):Int))):=(aV (C:=C0) (G:=fun i j=>i+j) (k:=.shr) (fr:=true) (i:=(st:Int)) rfl (k':=.shr) (fr':=true) (j:=1) rfl rfl).trans (by rw[Ik];rfl)
  have b:bP (vE 4) (vE 2) (dE ns st n (nR c) (nR m) (nR z') none none none)=.ok (sc (.int ((m*n:Nat):Int))):=(aV (C:=CM) (G:=fun i j=>i*j) (k:=.shr) (fr:=true) (i:=(m:Int)) rfl (k':=.shr) (fr':=true) (j:=(n:Int)) rfl (kH (sm9 (by omega)) (sm9 (by omega)))).trans (by rw[Ij])
  exact cS (cV (φ:=φn) (aB rfl (aB a (aB b (aB (f:=vE 5) (r:=⟨.shr,true,.int z'⟩) rfl aY)))) eL)
 obtain⟨f7,e7⟩:=aUe (ns:=ns) (st:=st) (x3:=nR c) (x5:=nR z') (x7:=none) (x8:=none) n5 m12 l1;have R0:=aKj (B:=z'.natAbs) l1 l2;have e7':aC 7 aCy (dE ns st n (nR c) (nR m) (nR z') (some ⟨.own,true,.lst (li L)⟩) none none)=.nx (dE ns st n (nR c) (nR m) (nR z') (some ⟨.own,true,.lst (li L)⟩) (tR f7 (aFf L n m)) none):=cS e7;generalize aFf L n m=R1 at R0 e7'
 generalize hw:c/7680%5=w
 have e8:aC 8 (bW (cH (vE 3) (cE (.int 7680))) (cE (.int 5))) (dE ns st n (nR c) (nR m) (nR z') (some ⟨.own,true,.lst (li L)⟩) (tR f7 R1) none)=.nx (gE ns st n (nR z') (some ⟨.own,true,.lst (li L)⟩) c w m f7 R1):=by
  have:=aV (C:=CP) (G:=fun i j=>i%j) (aV (C:=CD) (G:=fun i j=>i/j) (f:=vE 3) (ρ:=dE ns st n (nR c) (nR m) (nR z') (some ⟨.own,true,.lst (li L)⟩) (tR f7 R1) none) (k:=.shr) (fr:=true) (i:=c) rfl (g:=cE (.int 7680)) (k':=.shr) (fr':=true) (j:=7680) rfl (nO (by decide) (by decide))) (g:=cE (.int 5)) (k':=.shr) (fr':=true) (j:=5) rfl (gC (by decide))
  rw[hw]at this;exact set_shr this
 have p167:(2:Nat)^200=8589934592*2^167:=by decide
 obtain⟨f8,R2,h2,e9⟩:=aS3 (ns:=ns) (st:=st) (x5:=nR z') (x6:=some ⟨.own,true,.lst (li L)⟩) (c:=c) (w:=w) f7 n5 (by omega) R0
 obtain⟨f9,R3,h3,e10⟩:=aQ3 (ns:=ns) (st:=st) (x5:=nR z') (x6:=some ⟨.own,true,.lst (li L)⟩) (c:=c) (w:=w) f8 n5 m12 (by omega) h2
 obtain⟨f10,R4,h4,e11⟩:=aSv (ns:=ns) (st:=st) (x5:=nR z') (x6:=some ⟨.own,true,.lst (li L)⟩) (c:=c) (w:=w) f9 n5 h3;obtain⟨f11,R5,h5,e12⟩:=aSr (ns:=ns) (st:=st) (x5:=nR z') (x6:=some ⟨.own,true,.lst (li L)⟩) (c:=c) (w:=w) f10 n5 (by omega) h4
 have bd:BN 35 R5\/(n<=3/\R5.length<=3/\BN 172 R5):=by
  rcases y3 with h | h
  · refine .inl fun r hr x hx=>?_
    have:=h5.bd r hr x hx
    have:(2:Nat)^35=34359738368:=by decide
    omega
  · refine .inr ⟨h.1,by rw[h5.len];exact h.2,fun r hr x hx=>?_⟩
    have:=h5.bd r hr x hx
    have:(2:Nat)^172=32*2^167:=by decide
    omega
 exact⟨_,R5,⟨by rw[h5.len];exact m12,h5.row,bd⟩,dG (np:=3) (n:=9) (s:=aD8 φc φn) (ds:=[.lst (li ns),.int st,.int n]) rfl ((aF e1).trans ((aF e2).trans ((aF e3).trans ((aF e4).trans ((aF e5).trans ((aF e6).trans ((aF e7').trans ((aF e8).trans ((aF e9).trans ((aF e10).trans ((aF e11).trans ((aF e12).trans (lH (f:=vE 7) rfl))))))))))))) ⟩
end Dr
namespace Dr
open PySem L2 Mir Sm Hm
abbrev aN5:FS:=(aI (aC 1 (cE (.int 0)))
 (aI (dY (bV (vE 0)) (.nm 2)
  (dY (bV (vE 2)) (.nm 3)
   (aC 1 (uP (vE 1) (jZ (vE 3))))))
 (bS (vE 1))))
abbrev rE (R:List (List Int))(v:Int)(x2 x3:Option Res):Mir.Env:=[some ⟨.shr,false,.lst (lil R)⟩,nR v,x2,x3]
theorem aJf (R:List (List Int))(fr:Bool)(y2:Option Res):∀ (r:List Int) (v:Int) (x3:Option Res),∃ v' y3,v<=v'/\(∀ x∈r,(x.natAbs:Int)<=v')/\(v'=v\/∃ x∈r,v'=(x.natAbs:Int))/\fZ (.nm 3) (aC 1 (uP (vE 1) (jZ (vE 3)))) fr (li r) (rE R v y2 x3)=.nx (rE R v' y2 y3)
 | [],v,x3=>⟨v,x3,Int.le_refl _,fun x h=>absurd h (by simp),.inl rfl,rfl⟩
 | x :: r,v,x3=>by
  have bd:Tg.bind fr (.nm 3) (.int x) (rE R v y2 x3)=.ok (rE R v y2 (some ⟨.shr,fr,.int x⟩)):=rfl
  have e:aC 1 (uP (vE 1) (jZ (vE 3))) (rE R v y2 (some ⟨.shr,fr,.int x⟩))=.nx (rE R (if (x.natAbs:Int)>v then (x.natAbs:Int) else v) y2 (some ⟨.shr,fr,.int x⟩)):=by
   have a:jZ (vE 3) (rE R v y2 (some ⟨.shr,fr,.int x⟩))=.ok (sc (.int (x.natAbs:Int))):=by
    have q:jZ (vE 3) (rE R v y2 (some ⟨.shr,fr,.int x⟩))=.ok (sc (.int (if x<0 then -x else x))):=rfl
    rw[q,show (if x<0 then -x else x)=(x.natAbs:Int) by split<;>omega]
   have v1:vE 1 (rE R v y2 (some ⟨.shr,fr,.int x⟩))=.ok (sc (.int v)):=rfl
   have m:uP (vE 1) (jZ (vE 3)) (rE R v y2 (some ⟨.shr,fr,.int x⟩))=.ok (sc (.int (if (x.natAbs:Int)>v then (x.natAbs:Int) else v))):=by
    simp only[uP,v1,a,Mir.R.ok_bind,sc,asI]
   exact set_shr m
  obtain⟨v',y3,h1,h2,h3,h4⟩:=aJf R fr y2 r (if (x.natAbs:Int)>v then (x.natAbs:Int) else v) (some ⟨.shr,fr,.int x⟩)
  refine⟨v',y3,?_,fun y hy=>?_,?_,(eA bd e).trans h4⟩
  · split at h1<;>omega
  · rcases Ag.mp hy with z | z
    · rw[z];split at h1<;>omega
    · exact h2 y z
  · rcases h3 with h | ⟨y,hy,e⟩
    · split at h
      · exact .inr ⟨x,Ad,h⟩
      · exact .inl h
    · exact .inr ⟨y,Ae _ hy,e⟩
theorem aC3 (R:List (List Int)):∀ (S:List (List Int)) (v:Int) (x2 x3:Option Res),∃ v' y2 y3,v<=v'/\(∀ r∈S,∀ x∈r,(x.natAbs:Int)<=v')/\(v'=v\/∃ r∈S,∃ x∈r,v'=(x.natAbs:Int))/\fZ (.nm 2) (dY (bV (vE 2)) (.nm 3) (aC 1 (uP (vE 1) (jZ (vE 3))))) (false||(D.lst (lil R)).imm) (lil S) (rE R v x2 x3)=.nx (rE R v' y2 y3)
 | [],v,x2,x3=>⟨v,x2,x3,Int.le_refl _,fun x h=>absurd h (by simp),.inl rfl,rfl⟩
 | r :: S,v,x2,x3=>by
  have bd:Tg.bind (false||(D.lst (lil R)).imm) (.nm 2) (.lst (li r)) (rE R v x2 x3)=.ok (rE R v (some ⟨.shr,false||(D.lst (lil R)).imm,.lst (li r)⟩) x3):=rfl;obtain⟨v1,y3,h1,h2,h3,h4⟩:=aJf R ((false||(D.lst (lil R)).imm)||(D.lst (li r)).imm) (some ⟨.shr,false||(D.lst (lil R)).imm,.lst (li r)⟩) r v x3;have e:=(gA (tg:=.nm 3) (b:=aC 1 (uP (vE 1) (jZ (vE 3)))) (fA (f:=vE 2) (ρ:=rE R v (some ⟨.shr,false||(D.lst (lil R)).imm,.lst (li r)⟩) x3) (k:=.shr) (fr:=(false||(D.lst (lil R)).imm)||(D.lst (li r)).imm) (ds:=li r) rfl)).trans h4;obtain⟨v2,z2,z3,g1,g2,g3,g4⟩:=aC3 R S v1 (some ⟨.shr,false||(D.lst (lil R)).imm,.lst (li r)⟩) y3
  refine⟨v2,z2,z3,by omega,fun q hq x hx=>?_,?_,(eA bd e).trans g4⟩
  · rcases Ag.mp hq with z | z
    · rw[z]at hx;have:=h2 x hx;omega
    · exact g2 q z x hx
  · rcases g3 with h | ⟨q,hq,x,hx,e⟩
    · rcases h3 with h' | ⟨x,hx,e⟩
      · exact .inl (h.trans h')
      · exact .inr ⟨r,Ad,x,hx,h.trans e⟩
    · exact .inr ⟨q,Ae _ hq,x,hx,e⟩
theorem aS7 (R:List (List Int)):∃ v:Int,(∀ r∈R,∀ x∈r,(x.natAbs:Int)<=v)/\(v=0\/∃ r∈R,∃ x∈r,v=(x.natAbs:Int))/\bY 1 4 aN5 [.lst (lil R)]=.ok (sc (.int v)):=by
 obtain⟨v,y2,y3,h1,h2,h3,h4⟩:=aC3 R R 0 none none;refine⟨v,h2,h3,?_⟩
 have e1:aC 1 (cE (.int 0)) [some ⟨.shr,false,.lst (lil R)⟩,none,none,none]=.nx (rE R 0 none none):=rfl;have e2:=(gA (tg:=.nm 2) (b:=dY (bV (vE 2)) (.nm 3) (aC 1 (uP (vE 1) (jZ (vE 3))))) (fA (f:=vE 0) (ρ:=rE R 0 none none) (k:=.shr) (fr:=false||(D.lst (lil R)).imm) (ds:=lil R) rfl)).trans h4;exact(dG (np:=1) (n:=4) (s:=aN5) (ds:=[.lst (lil R)]) rfl ((aF e1).trans ((aF e2).trans (jQ (f:=vE 1) (fr:=true) (d:=.int v) rfl)))).trans rfl
end Dr
namespace Hm
open PySem L2 Mir
structure Bz2 (o p a:Nat)(x y:Int)(b:Nat)(u v:Int):Prop where
 ea:(a:Int)=x*o+y*p
 eb:(b:Int)=u*o+v*p
 g:Au a b=Au o p
 bd:∃ X U Y V:Nat,x.natAbs<=X/\u.natAbs<=U/\y.natAbs<=Y/\v.natAbs<=V/\X*b+U*a=p/\Y*b+V*a=o/\X<=p/\Y<=max o 1/\U<=p/\V<=max o 1
theorem Bz2.start {o p:Nat}(hp:0<p):Bz2 o p o 1 0 p 0 1 :=
 ⟨by omega,by omega,rfl,1,0,0,1,by decide,by decide,by decide,by decide,by omega,by omega,by omega,by omega,by omega,by omega⟩
theorem vD {a b c d:Nat}(h:a*b+c=d)(hb:0<b):a<=d:=by
 have:=Ce a hb
 omega
theorem Bz2.next {o p a b:Nat}{x y u v:Int}(h:Bz2 o p a x y b u v)(hb:0<b):Bz2 o p b u v (a%b) (x-((a/b:Nat):Int)*u) (y-((a/b:Nat):Int)*v):=by
 obtain⟨ea,eb,g,X,U,Y,V,h1,h2,h3,h4,h5,h6,h7,h8,h9,h10⟩:=h;have dm:=Jp a b
 have dz:((a%b:Nat):Int)=(a:Int)-((a/b:Nat):Int)*(b:Int):=by
  have:((b*(a/b)+a%b:Nat):Int)=(a:Int):=by rw[dm]
  rw[Ik,Ij,Bc]at this;omega
 have sz:∀ (X' U':Nat) (s t:Int),s.natAbs<=X'->t.natAbs<=U'->(s-((a/b:Nat):Int)*t).natAbs<=X'+a/b*U':=fun X' U' s t hs ht=>by
  have m:(((a/b:Nat):Int)*t).natAbs<=a/b*U':=by
   rw[Eh,Cr];exact Ce _ ht
  omega
 have keep:∀ X' U' d:Nat,X'*b+U'*a=d->U'*(a%b)+(X'+a/b*U')*b=d:=fun X' U' d hd=>by
  have:U'*a=U'*(a%b)+a/b*U'*b:=by
   conv=>lhs;rw[←dm]
   rw[Nat.mul_add,Hc,Ey b,←Gm,Ey U' (a/b)]
  rw[Nat.add_mul];omega
 have k1:=keep X U p h5;have k2:=keep Y V o h6;refine⟨eb,?_,?_,U,X+a/b*U,V,Y+a/b*V,h2,sz _ _ _ _ h1 h2,h4,sz _ _ _ _ h3 h4,k1,k2,h9,h10,vD (b:=b) (c:=U*(a%b)) (by omega) hb,?_⟩
 · rw[dz,ea,eb,Gc,Gc,Hw,Bm,Bm];omega
 · rw[←g,Nat.gcd_comm b,←Nat.gcd_rec,Nat.gcd_comm]
 · exact Bp (vD (b:=b) (c:=V*(a%b)) (d:=o) (by omega) hb) (by omega)
abbrev uS:FT:=bT (neE (aT (vE 3) (cE (.int 0))) (cE (.int 0)))
abbrev aIw:FE:=aS (mI (vE 2) (vE 3)) 2 [4] (.tp [.nm 0,.nm 1]) (bE (fR (vE 0) (bP (vE 2) (vE 1))))
abbrev zV:FS :=
 (aI (aC 4 (aBo (aT (vE 2) (cE (.int 0))) (aT (vE 3) (cE (.int 0)))))
 (aI (aC 5 aIw)
 (aI (cN 3 (aC 2 (vE 3)))
 (cN 5 (aC 3 (vE 5))))))
abbrev aJm:FS :=
 (aI (aC 2 (cF [vE 0,cE (.int 1),cE (.int 0)]))
 (aI (aC 3 (cF [vE 1,cE (.int 0),cE (.int 1)]))
 (aI (aRc uS zV)
 (aI (ifS (bT (ltE (aT (vE 2) (cE (.int 0))) (cE (.int 0))))
  (aC 2 (aS (bV (vE 2)) 1 [] (.nm 0) (bE (dB (vE 0)))))
  cG)
 (bS (vE 2))))))
abbrev aX (k:Kd)(a x y:Int):Option Res:=some ⟨k,true,.lst (li [a,x,y])⟩
abbrev zE (o p:Nat)(s2 s3 x4 x5:Option Res):Mir.Env:=[some ⟨.shr,false,.int o⟩,some ⟨.shr,false,.int p⟩,s2,s3,x4,x5]
section
variable {o p:Nat}
theorem aNx (s2:Option Res)(k:Kd)(b u v:Int)(x4 x5:Option Res):uS (zE o p s2 (aX k b u v) x4 x5)=.ok (!decide (b=0)) :=
 dH (rW (k:=.shr) (fr:=true) (i:=b) (k':=.shr) (fr':=true) (j:=0) rfl rfl)
theorem aC2 (n:Nat)(s2:Option Res)(k:Kd)(u v:Int)(x4 x5:Option Res):pU uS zV (n+1) (zE o p s2 (aX k 0 u v) x4 x5)=.nx (zE o p s2 (aX k 0 u v) x4 x5):=by
 have t:=aNx (o:=o) (p:=p) s2 k 0 u v x4 x5;simp only[pU,t,R.at];rfl
theorem aH5 (n:Nat){N a b:Nat}{x y u v:Int}(k2 k3:Kd)(x4 x5:Option Res)(hb:0<b)(hN:N<=9000)(h0:0<N)(ha:a<2^N)(hb2:b<2^N)(hu:u.natAbs<2^N)(hv:v.natAbs<2^N) :
 ∃ y4 y5,pU uS zV (n+1) (zE o p (aX k2 a x y) (aX k3 b u v) x4 x5)=pU uS zV n (zE o p (aX .shr b u v) (aX .shr ((a%b:Nat):Int) (x-((a/b:Nat):Int)*u) (y-((a/b:Nat):Int)*v)) y4 y5):=by
 have t:=aNx (o:=o) (p:=p) (aX k2 a x y) k3 b u v x4 x5;rw[decide_eq_false (by omega)]at t
 have fd:(a:Int).fdiv (b:Int)=((a/b:Nat):Int):=by
  rw[Fd _ (by omega)];rfl
 have e1:aC 4 (aBo (aT (vE 2) (cE (.int 0))) (aT (vE 3) (cE (.int 0)))) (zE o p (aX k2 a x y) (aX k3 b u v) x4 x5)=.nx (zE o p (aX k2 a x y) (aX k3 b u v) (nR ((a/b:Nat):Int)) x5):=by
  have:=aV (C:=CF) (G:=fun i j=>i.fdiv j) (f:=aT (vE 2) (cE (.int 0))) (g:=aT (vE 3) (cE (.int 0))) (ρ:=zE o p (aX k2 a x y) (aX k3 b u v) x4 x5) (k:=.shr) (fr:=true) (i:=(a:Int)) (k':=.shr) (fr':=true) (j:=(b:Int)) rfl rfl (aR8 (by omega) (N:=N) (by omega) h0 hN)
  rw[fd]at this;exact set_shr this
 have q2:a/b<2^N:=Cg (Fw _ _) ha;have cm:∀ w:Int,w.natAbs<2^N->CM ((a/b:Nat):Int) w=true:=fun w hw=>aFp (N:=N) (by rw[Cr];exact q2) hw h0 (by omega)
 have dz:((a%b:Nat):Int)=(a:Int)-((a/b:Nat):Int)*(b:Int):=by
  have:((b*(a/b)+a%b:Nat):Int)=(a:Int):=by rw[Jp a b]
  rw[Ik,Ij,Bc]at this;omega
 have e2:aC 5 aIw (zE o p (aX k2 a x y) (aX k3 b u v) (nR ((a/b:Nat):Int)) x5)=.nx (zE o p (aX k2 a x y) (aX k3 b u v) (nR ((a/b:Nat):Int)) (aX .own ((a%b:Nat):Int) (x-((a/b:Nat):Int)*u) (y-((a/b:Nat):Int)*v))):=by
  have c:=cB (ρ:=zE o p (aX k2 a x y) (aX k3 b u v) (nR ((a/b:Nat):Int)) x5) (k:=2) (fs:=[4]) (tg:=.tp [.nm 0,.nm 1]) (b:=bE (fR (vE 0) (bP (vE 2) (vE 1))))
   (out:=fun q:Int×Int=>.int (q.1-((a/b:Nat):Int)*q.2)) (pB (f:=vE 2) (g:=vE 3) (xs:=[(a:Int),x,y]) (ys:=[(b:Int),u,v]) (k:=k2.rd) (k':=k3.rd) (fr:=true) (fr':=true) rfl rfl) (fun q hq=>by
    refine⟨[some ⟨.shr,true,.int q.1⟩,some ⟨.shr,true,.int q.2⟩,nR ((a/b:Nat):Int)],.shr,rfl,dZ ?_,by decide⟩
    have hq2:q.2.natAbs<2^N:=by
     have:=(Bx hq).2
     simp only[Ag,Bi,or_false]at this;rcases this with e | e | e<;>rw[e]
     · omega
     · exact hu
     · exact hv
    exact aV (C:=C0) (G:=fun i j=>i-j) (k:=.shr) (fr:=true) (i:=q.1) (k':=.shr) (fr':=true) rfl (aV (C:=CM) (G:=fun i j=>i*j) (k:=.shr) (fr:=true) (i:=((a/b:Nat):Int)) (k':=.shr) (fr':=true) (j:=q.2) rfl rfl (cm _ hq2)) rfl) (by rw[sizeLine_eq];show 3<=_;decide)
  rw[dz];exact cS c
 have e3:cN 3 (aC 2 (vE 3)) (zE o p (aX k2 a x y) (aX k3 b u v) (nR ((a/b:Nat):Int)) (aX .own ((a%b:Nat):Int) (x-((a/b:Nat):Int)*u) (y-((a/b:Nat):Int)*v)))=.nx (zE o p (aX .shr b u v) (aX .shr b u v) (nR ((a/b:Nat):Int)) (aX .own ((a%b:Nat):Int) (x-((a/b:Nat):Int)*u) (y-((a/b:Nat):Int)*v))):=rfl;have e4:cN 5 (aC 3 (vE 5)) (zE o p (aX .shr b u v) (aX .shr b u v) (nR ((a/b:Nat):Int)) (aX .own ((a%b:Nat):Int) (x-((a/b:Nat):Int)*u) (y-((a/b:Nat):Int)*v)))=.nx (zE o p (aX .shr b u v) (aX .shr ((a%b:Nat):Int) (x-((a/b:Nat):Int)*u) (y-((a/b:Nat):Int)*v)) (nR ((a/b:Nat):Int)) (aX .shr ((a%b:Nat):Int) (x-((a/b:Nat):Int)*u) (y-((a/b:Nat):Int)*v))):=rfl
 have b':=(aF (t:=aI (aC 5 aIw) (aI (cN 3 (aC 2 (vE 3))) (cN 5 (aC 3 (vE 5))))) e1).trans ((aF e2).trans ((aF e3).trans e4));refine⟨nR ((a/b:Nat):Int),aX .shr ((a%b:Nat):Int) (x-((a/b:Nat):Int)*u) (y-((a/b:Nat):Int)*v),?_⟩
 simp only[pU,t,R.at,b'];rfl
theorem aDt {N:Nat}(hN:N<=9000)(h0:0<N)(ho:o<2^N)(hp:p<2^N):∀ (n f a b:Nat) (x y u v:Int) (k2 k3:Kd) (x4 x5:Option Res),Bz2 o p a x y b u v->a<2^N->b<2^N->b<2^n->2*n+1<=f ->
 ∃ a' x' y' u' v' k k' z4 z5,pU uS zV f (zE o p (aX k2 a x y) (aX k3 b u v) x4 x5)=.nx (zE o p (aX k (a':Nat) x' y') (aX k' 0 u' v') z4 z5)/\Bz2 o p a' x' y' 0 u' v'
 | n,0,_,_,_,_,_,_,_,_,_,_,_,_,_,_,hf=>absurd hf (by omega)
 | n,f+1,a,0,x,y,u,v,k2,k3,x4,x5,h,_,_,_,_=>⟨a,x,y,u,v,k2,k3,x4,x5,aC2 f _ k3 u v x4 x5,h⟩
 | 0,f+1,_,b+1,_,_,_,_,_,_,_,_,_,_,_,hb,_=>absurd hb (by simp)
 | n+1,f+1,a,b+1,x,y,u,v,k2,k3,x4,x5,h,ha,hb,hn,hf=>by
  have p1:1<=2^N:=Nat.one_le_two_pow
  have bnd:∀ {a b:Nat} {x y u v:Int},Bz2 o p a x y b u v->u.natAbs<2^N/\v.natAbs<2^N:=fun h=>by
   obtain⟨X,U,Y,V,h1,h2,h3,h4,h5,h6,h7,h8,h9,h10⟩:=h.bd
   have p2:2<=2^N:=by
    have:=iA (show 1<=N from h0)
    omega
   refine⟨by omega,?_⟩
   have:max o 1<2^N:=by omega
   omega
  obtain⟨y4,y5,e⟩:=aH5 (o:=o) (p:=p) f k2 k3 x4 x5 (x:=x) (y:=y) (Nat.succ_pos b) hN h0 ha hb (bnd h).1 (bnd h).2;rw[e];have h':=h.next (Nat.succ_pos b);have l1:=Nat.mod_lt a (Nat.succ_pos b);obtain⟨f',rfl⟩:∃ f',f=f'+1:=⟨f-1,by omega⟩
  by_cases z:a%(b+1)=0
  · rw[z]at h' ⊢
    exact⟨_,_,_,_,_,_,_,_,_,aC2 f' _ _ _ _ _ _,h'⟩
  · obtain⟨w4,w5,e'⟩:=aH5 (o:=o) (p:=p) f' .shr .shr y4 y5 (x:=u) (y:=v) (Ft z) hN h0 hb (Ez l1 hb) (bnd h').1 (bnd h').2
    rw[e']
    have half:2*((b+1)%(a%(b+1)))<b+1:=by
     have a1:=Nat.mod_lt (b+1) (Ft z);have b1:=Jp (b+1) (a%(b+1));have q:1<=(b+1)/(a%(b+1)):=Nat.div_pos (Gh l1) (Ft z);have m:=Ce (a%(b+1)) q;omega
    exact aDt hN h0 ho hp n f' _ _ _ _ _ _ _ _ _ _ (h'.next (Ft z)) (Ez l1 hb) (Ez (Nat.mod_lt _ (Ft z)) (Ez l1 hb)) (by rw[Ir]at hn;generalize (b+1)%(a%(b+1))=q at half;omega) (by omega)
end
structure Bez (o p:Nat)(x y:Int):Prop where
 e:((Au o p:Nat):Int)=x*o+y*p
 hx:x.natAbs<=p
 hy:y.natAbs<=max o 1
theorem aR6 {N o p:Nat}(hN:N<=9000)(h0:0<N)(ho:o<2^N)(hp:p<2^N)(pp:0<p) :
 ∃ x y k,Bez o p x y/\k≠Kd.own/\bY 2 6 aJm [.int o,.int p]=.ok ⟨k,true,.lst (li [((Au o p:Nat):Int),x,y])⟩:=by
 have e1:aC 2 (cF [vE 0,cE (.int 1),cE (.int 0)]) (stE 6 [.int o,.int p])=.nx (zE o p (aX .own o 1 0) none none none):=rfl;have e2:aC 3 (cF [vE 1,cE (.int 0),cE (.int 1)]) (zE o p (aX .own o 1 0) none none none)=.nx (zE o p (aX .own o 1 0) (aX .own p 0 1) none none):=rfl;obtain⟨a,x,y,u,v,k,k',z4,z5,e3,h⟩:=aDt hN h0 ho hp N (2^64) o p 1 0 0 1 .own .own none none (Bz2.start pp) ho hp hp (Bp (show 2*N+1<=18001 by omega) (by decide))
 have ga:a=Au o p:=by have:=h.g;rwa [Nat.gcd_zero_right]at this
 have e4:ifS (bT (ltE (aT (vE 2) (cE (.int 0))) (cE (.int 0)))) (aC 2 (aS (bV (vE 2)) 1 [] (.nm 0) (bE (dB (vE 0))))) cG (zE o p (aX k a x y) (aX k' 0 u v) z4 z5)=.nx (zE o p (aX k a x y) (aX k' 0 u v) z4 z5):=by
  have t:bT (ltE (aT (vE 2) (cE (.int 0))) (cE (.int 0))) (zE o p (aX k a x y) (aX k' 0 u v) z4 z5)=.ok (decide ((a:Int)<0)):=dH (cW (k:=.shr) (fr:=true) (i:=(a:Int)) (k':=.shr) (fr':=true) (j:=0) rfl rfl);rw[decide_eq_false (by omega)]at t
  exact cM t
 obtain⟨X,U,Y,V,h1,h2,h3,h4,h5,h6,h7,h8,h9,h10⟩:=h.bd;have ea:=h.ea;subst ga;refine⟨x,y,if k.rd=.shr then .shr else .tmp,⟨ea,by omega,by omega⟩,by split<;>decide,?_⟩
 have r:bS (vE 2) (zE o p (aX k ((Au o p:Nat):Int) x y) (aX k' 0 u v) z4 z5)=.rt ⟨if k.rd=.shr then .shr else .tmp,true,.lst (li [((Au o p:Nat):Int),x,y])⟩:=yF (k:=k.rd) (fr:=true) rfl
 exact(dG (np:=2) (n:=6) (s:=aJm) (ds:=[.int o,.int p]) rfl ((aF e1).trans ((aF e2).trans ((aF e3).trans ((aF e4).trans r))))).trans rfl
end Hm
namespace Hm
open PySem L2 Mir
abbrev aEm:FE:=aS (mI (vE 3) (vE 5)) 2 [4] (.tp [.nm 0,.nm 1]) (bE (cR (vE 0) (bP (vE 2) (vE 1))))
abbrev nN (φ:Φ):FS :=
 (aI (aC 3 (yO (cF [cE (.int 0)]) (vE 0)))
 (aI (cN 2 (cN 1 (dY (bV (aL φ [vE 1,vE 2])) (.tp [.nm 4,.nm 5]) (aC 3 aEm))))
 (bS (vE 3))))
def nD (φ:Φ):Prop:=∀ {xs ys:List D},xs.length=ys.length->φ [.lst xs,.lst ys]=.ok ⟨.tmp,false,.lst (mV xs ys)⟩
def oG (t:List Int)(p:Int×List Int):List Int:=(t.zip p.2).map fun q=>q.1+p.1*q.2
def jK (w:Nat)(cs:List Int)(rs:List (List Int)):List Int:=(cs.zip rs).foldl oG (Ao w 0)
abbrev mE (w:Nat)(d d':D)(t:List Int)(x4 x5:Option Res):Mir.Env:=[some ⟨.shr,false,.int w⟩,some ⟨.shr,false,d⟩,some ⟨.shr,false,d'⟩,some ⟨.own,true,.lst (li t)⟩,x4,x5]
theorem aAp {w N:Nat}{d d':D}(h0:0<N)(hN:N<=1000000)(hw:w<=1000)(fr:Bool):∀ (ps:List (Int×List Int)) (t:List Int) (x4 x5:Option Res),t.length=w->(∀ p∈ps,p.1.natAbs<2^N/\BR N p.2/\p.2.length=w) ->
 ∃ y4 y5,fZ (.tp [.nm 4,.nm 5]) (aC 3 aEm) fr (ps.map fun p=>.tup [.int p.1,.lst (li p.2)]) (mE w d d' t x4 x5)=.nx (mE w d d' (ps.foldl oG t) y4 y5)
 | [],t,x4,x5,_,_=>⟨x4,x5,rfl⟩
 | p :: ps,t,x4,x5,ht,h=>by
  obtain⟨h1,h2,h3⟩:=h p Ad;have bd:Tg.bind fr (.tp [.nm 4,.nm 5]) (.tup [.int p.1,.lst (li p.2)]) (mE w d d' t x4 x5)=.ok (mE w d d' t (some ⟨.shr,fr,.int p.1⟩) (some ⟨.shr,fr,.lst (li p.2)⟩)):=rfl
  have c:=cB (ρ:=mE w d d' t (some ⟨.shr,fr,.int p.1⟩) (some ⟨.shr,fr,.lst (li p.2)⟩)) (k:=2) (fs:=[4]) (tg:=.tp [.nm 0,.nm 1]) (b:=bE (cR (vE 0) (bP (vE 2) (vE 1))))
   (out:=fun q:Int×Int=>.int (q.1+p.1*q.2)) (pB (f:=vE 3) (g:=vE 5) (xs:=t) (ys:=p.2) (k:=.own) (k':=.shr) (fr:=true) (fr':=fr||(D.lst (li p.2)).imm) rfl rfl) (fun q hq=>by
    refine⟨[some ⟨.shr,true&&(fr||(D.lst (li p.2)).imm),.int q.1⟩,some ⟨.shr,true&&(fr||(D.lst (li p.2)).imm),.int q.2⟩,some ⟨.shr,fr,.int p.1⟩],.shr,rfl,dZ ?_,by decide⟩
    exact aV (C:=C0) (G:=fun i j=>i+j) (k:=.shr) (i:=q.1) (k':=.shr) (fr':=true) rfl (aV (C:=CM) (G:=fun i j=>i*j) (k:=.shr) (i:=p.1) (k':=.shr) (j:=q.2) rfl rfl (aFp (N:=N) h1 (h2 _ (Bx hq).2) h0 hN)) rfl) (by rw[sizeLine_eq,Cu];omega)
  have e:aC 3 aEm (mE w d d' t (some ⟨.shr,fr,.int p.1⟩) (some ⟨.shr,fr,.lst (li p.2)⟩))=.nx (mE w d d' (oG t p) (some ⟨.shr,fr,.int p.1⟩) (some ⟨.shr,fr,.lst (li p.2)⟩)):=by
   refine(cS c).trans ?_
   rw[show ((t.zip p.2).map fun q:Int×Int=>D.int (q.1+p.1*q.2))=li (oG t p) by simp[oG,li,Function.comp_def]]
   rfl
  obtain⟨y4,y5,e'⟩:=aAp h0 hN hw fr ps (oG t p) (some ⟨.shr,fr,.int p.1⟩) (some ⟨.shr,fr,.lst (li p.2)⟩) (by unfold oG;rw[Ab,Cu];omega) fun q hq=>h q (Ae _ hq)
  exact⟨y4,y5,(eA bd e).trans e'⟩
theorem aL4 {φ:Φ}(hφ:nD φ){w N:Nat}{cs:List Int}{rs:List (List Int)}(h0:0<N)(hN:N<=1000000)(hw:w<=1000)(hl:cs.length=rs.length)(hc:BR N cs)(hB:BN N rs)(hr:∀ r∈rs,r.length=w) :
 bY 3 6 (nN φ) [.int w,.lst (li cs),.lst (lil rs)]=.ok ⟨.tmp,true,.lst (li (jK w cs rs))⟩:=by
 have e1:aC 3 (yO (cF [cE (.int 0)]) (vE 0)) (stE 6 [.int w,.lst (li cs),.lst (lil rs)])=.nx (mE w (.lst (li cs)) (.lst (lil rs)) (Ao w 0) none none):=by
  have r:=aDh (f:=cF [cE (.int 0)]) (g:=vE 0) (ρ:=stE 6 [.int w,.lst (li cs),.lst (lil rs)]) (kd:=.tmp) (fr:=true) (ds:=[.int 0]) (kd':=.shr) (fr':=true) (k:=(w:Int)) rfl rfl ⟨by decide,by omega,by omega,by rw[sizeLine_eq,Du];show 1*w<=_;omega⟩
  refine(cS r).trans ?_
  rw[show (Ao (w:Int).toNat [D.int 0]).flatten=li (Ao w (0:Int)) by
   rw[Du];clear r hw hr;induction w with
   | zero=>rfl
   | succ w ih=>rw[Ck,Ck,Ek,ih];rfl]
  rfl
 have ev:=kA (φ:=φ) (fs:=[vE 1,vE 2]) (ρ:=mE w (.lst (li cs)) (.lst (lil rs)) (Ao w 0) none none) (aB rfl (aB rfl aY)) (hφ (xs:=li cs) (ys:=lil rs) (by rw[Ab,Ab];exact hl)) rfl
 obtain⟨y4,y5,e2⟩:=aAp (d:=.lst (li cs)) (d':=.lst (lil rs)) h0 hN hw _ (cs.zip rs) (Ao w 0) none none Bu fun p hp=>⟨hc _ (Bx hp).1,hB _ (Bx hp).2,hr _ (Bx hp).2⟩
 have e3:cN 2 (cN 1 (dY (bV (aL φ [vE 1,vE 2])) (.tp [.nm 4,.nm 5]) (aC 3 aEm))) (mE w (.lst (li cs)) (.lst (lil rs)) (Ao w 0) none none)=.nx (mE w (.lst (li cs)) (.lst (lil rs)) (jK w cs rs) y4 y5) :=
  (gA ((fA ev).trans (by rw[rK];rfl))).trans e2
 exact(dG (np:=3) (n:=6) (s:=nN φ) (ds:=[.int w,.lst (li cs),.lst (lil rs)]) rfl ((aF e1).trans ((aF e3).trans (lH (f:=vE 3) (fr:=true) rfl)))).trans rfl
theorem tJ {w:Nat}{t:List Int}{p:Int×List Int}(h1:t.length=w)(h2:p.2.length=w):(oG t p).length=w:=by unfold oG;rw[Ab,Cu];omega
theorem aJ7 {c:Int}:∀ (t r:List Int),t.length=r.length->∀ j,((t.zip r).map fun q=>q.1+c*q.2).getD j 0=t.getD j 0+c*r.getD j 0
 | [],[],_,j=>by simp
 | a :: t,b :: r,h,0=>by simp
 | a :: t,b :: r,h,j+1=>by simpa using aJ7 t r (by simpa using h) j
theorem wI {t:List Int}{p:Int×List Int}(h:t.length=p.2.length)(j:Nat):(oG t p).getD j 0=t.getD j 0+p.1*p.2.getD j 0:=aJ7 t p.2 h j
theorem iR {w:Nat}{cs:List Int}{rs:List (List Int)}(hr:∀ r∈rs,r.length=w):(jK w cs rs).length=w:=by
 have:∀ (ps:List (Int×List Int)) (t:List Int),t.length=w->(∀ p∈ps,p.2.length=w)->(ps.foldl oG t).length=w:=by
  intro ps;induction ps with
  | nil=>intro t ht _;exact ht
  | cons p ps ih=>intro t ht h;exact ih _ (tJ ht (h p Ad)) fun q hq=>h q (Ae _ hq)
 exact this _ _ Bu fun p hp=>hr _ (Bx hp).2
theorem yJ {w:Nat}{x y:Int}{a b:List Int}(ha:a.length=w)(hb:b.length=w)(j:Nat):(jK w [x,y] [a,b]).getD j 0=x*a.getD j 0+y*b.getD j 0:=by
 show (oG (oG (Ao w 0) (x,a)) (y,b)).getD j 0=_
 rw[wI (by rw[tJ Bu ha];exact hb.symm),wI (by rw[Bu];exact ha.symm)]
 have:(Ao w (0:Int)).getD j 0=0:=by
  simp only[Aa,Ci];split<;>rfl
 rw[this,Int.zero_add]
end Hm
namespace Hm
open PySem L2 Mir
def lZ (xs ys:List Int):List Int:=(xs.zip ys).map fun p=>p.1-p.2
def xT (φ:Φ):Prop:=∀ {N:Nat} {xs ys:List Int},0<N->N<=1000000->BR N xs->BR N ys->xs.length=ys.length->xs.length<=1000->φ [.lst (li xs),.lst (li ys)]=.ok (sc (.int (wt xs ys)))
def qX (φ:Φ):Prop:=∀ {xs ys:List Int},xs.length=ys.length->xs.length<=1000->φ [.lst (li xs),.lst (li ys)]=.ok ⟨.tmp,true,.lst (li (lZ xs ys))⟩
def pY (φ:Φ):Prop:=∀ {N:Nat} {xs:List Int} {k:Int},0<N->N<=1000000->BR N xs->k.natAbs<2^N->xs.length<=1000->φ [.lst (li xs),.int k]=.ok ⟨.tmp,true,.lst (li (xs.map (·*k)))⟩
def xC (φ:Φ):Prop:=∀ {N o p:Nat},N<=9000->0<N->o<2^N->p<2^N->0<p->∃ x y k,Bez o p x y/\k≠Kd.own/\φ [.int o,.int p]=.ok ⟨k,true,.lst (li [((Au o p:Nat):Int),x,y])⟩
def qO (φ:Φ):Prop:=∀ {w N:Nat} {cs:List Int} {rs:List (List Int)},0<N->N<=1000000->w<=1000->cs.length=rs.length->BR N cs->BN N rs->(∀ r∈rs,r.length=w)->φ [.int w,.lst (li cs),.lst (lil rs)]=.ok ⟨.tmp,true,.lst (li (jK w cs rs))⟩
theorem aJk {φ:Φ}(h:nD φ):xT (bY 2 2 (bS (aE8 (aAn φ CM fun i j=>i*j)))):=fun h0 hN hx hy hl hz =>
 aE1 (h (by rw[Ab,Ab];exact hl)) (fun x hx' y hy'=>aFp (hx x hx') (hy y hy') h0 hN) (by rw[sizeLine_eq];omega)
theorem aJv {φ:Φ}(h:nD φ):qX (bY 2 2 (bS (aAn φ C0 fun i j=>i-j))):=fun hl hz =>
 aTt (C:=C0) (G:=fun i j=>i-j) (h (by rw[Ab,Ab];exact hl)) (fun _ _ _ _=>rfl) (by rw[sizeLine_eq];omega)
theorem aIx:pY (bY 2 2 (bS (wG 1))):=fun h0 hN hx hk hz=>aKr (fun x h=>aFp (hx x h) hk h0 hN) (by rw[sizeLine_eq];omega)
theorem aJo:xC (bY 2 6 aJm):=fun hN h0 ho hp pp=>aR6 hN h0 ho hp pp
theorem aGe {φ:Φ}(h:nD φ):qO (bY 3 6 (nN φ)):=fun h0 hN hw hl hc hB hr=>aL4 h h0 hN hw hl hc hB hr
def wgt (s ws:List Int)(whole:Nat):Nat:=(wt s ws%(whole:Int)).toNat
def lQ (s m:List Int)(l o:Nat):List Int:=lZ (s.map (·*((l/Au o l:Nat):Int))) (m.map (·*((o/Au o l:Nat):Int)))
inductive Nar (n:Nat) (ws:List Int) (whole:Nat):List (List Int)->List (List Int)->Nat->List Int->Prop
 | nil:Nar n ws whole [] [] whole (Ao n 0)
 | cons {s:List Int} {ss told:List (List Int)} {l:Nat} {m:List Int} {x y:Int}:Nar n ws whole ss told l m->Bez (wgt s ws whole) l x y->Nar n ws whole (s :: ss) (lQ s m l (wgt s ws whole) :: told) (Au (wgt s ws whole) l) (jK n [x,y] [s,m])
section
variable {n whole B d:Nat}{ws:List Int}
theorem aGn {s:List Int}(h:0<whole):wgt s ws whole<whole:=by
 unfold wgt;have:=Bq (wt s ws) (show (0:Int)<whole by omega)
 have:=By (wt s ws) (show (whole:Int)≠0 by omega)
 omega
theorem aNh {s:List Int}(h:0<whole):((wgt s ws whole:Nat):Int)=wt s ws%(whole:Int):=by
 unfold wgt;have:=By (wt s ws) (show (whole:Int)≠0 by omega)
 omega
theorem vG {xs ys:List Int}(h:xs.length=ys.length):(lZ xs ys).length=xs.length:=by unfold lZ;rw[Ab,Cu];omega
theorem tD:∀ (xs ys:List Int),xs.length=ys.length->∀ j,(lZ xs ys).getD j 0=xs.getD j 0-ys.getD j 0
 | [],[],_,j=>by simp[lZ]
 | a :: t,b :: r,h,0=>by simp[lZ]
 | a :: t,b :: r,h,j+1=>by simpa[lZ] using tD t r (by simpa using h) j
theorem aBx (xs:List Int)(k:Int)(j:Nat):(xs.map (·*k)).getD j 0=xs.getD j 0*k:=by
 simp only[Aa,Ax];cases xs[j]? with
 | none=>simp
 | some a=>rfl
theorem nL {s m:List Int}{l o:Nat}(h:s.length=m.length)(j:Nat):(lQ s m l o).getD j 0=s.getD j 0*((l/Au o l:Nat):Int)-m.getD j 0*((o/Au o l:Nat):Int):=by
 unfold lQ;rw[tD _ _ (by rw[Ab,Ab];exact h),aBx,aBx]
theorem pH {N:Nat}{r:List Int}(h:BR N r)(j:Nat):(r.getD j 0).natAbs<2^N:=by
 by_cases hj:j<r.length
 · exact h _ (Mir.bA hj)
 · rw[Aa,Cc (by omega)];exact Dl N
theorem aEc {N:Nat}{r:List Int}(h:∀ j,j<r.length->(r.getD j 0).natAbs<2^N):BR N r:=fun x hx=>by
 rcases Bg.mp hx with ⟨j,hj,e⟩
 subst e;have:=h j hj
 rwa [Aa,Ac hj]at this
theorem BR.mono {N M:Nat}{r:List Int}(h:BR N r)(hm:N<=M):BR M r:=fun x hx=>Af (h x hx) (iA hm)
structure NarOk (n whole B d:Nat)(ss told:List (List Int))(l:Nat)(m:List Int):Prop where
 l0:0<l
 lw:l<=whole
 ml:m.length=n
 mb:BR ((B+1)*ss.length+d) m
 tl:told.length=ss.length
 tr:∀ r∈told,r.length=n
 tb:BN ((B+1)*(ss.length+1)+d) told
theorem Nar.ok (w0:0<whole)(wB:whole<2^B){ss told:List (List Int)}{l:Nat}{m:List Int}(h:Nar n ws whole ss told l m)(hs:∀ s∈ss,s.length=n)(hd:BN d ss):NarOk n whole B d ss told l m:=by
 induction h with
 | nil=>exact⟨w0,Ah _,Bu,fun x hx=>by rw[(List.mem_replicate.mp hx).2];exact Dl _,rfl,fun r h=>(nomatch h),fun r h=>(nomatch h)⟩
 | @cons s ss told l m x y _ b ih =>
  have o:=ih (fun s h=>hs s (Ae _ h)) fun s h=>hd s (Ae _ h);have sl:=hs s Ad;have sb:=hd s Ad;have wl:=aGn (ws:=ws) (s:=s) w0;have l0:=o.l0;have lw:=o.lw;generalize hc:wgt s ws whole=c at b wl
  have g0:0<Au c l:=Dv _ l0;have gl:Au c l<=l:=Hq _ l0;have xB:x.natAbs<2^B:=by have:=b.hx;omega
  have yB:y.natAbs<2^B:=by have:=b.hy;omega
  have q1:(((l/Au c l:Nat):Int)).natAbs<2^B:=by rw[Cr];exact Cg (Fw _ _) (by omega)
  have q2:(((c/Au c l:Nat):Int)).natAbs<2^B:=by rw[Cr];exact Cg (Fw _ _) (by omega)
  have e1:(B+1)*(ss.length+1)=(B+1)*ss.length+(B+1):=Gf _ _;have e2:(B+1)*(ss.length+1+1)=(B+1)*(ss.length+1)+(B+1):=Gf _ _;have big:BR ((B+1)*ss.length+d) s:=sb.mono (by omega)
  have rowB:BR ((B+1)*(ss.length+1)+d) (lQ s m l c):=aEc fun j _=>by
   rw[nL (by rw[sl,o.ml])]
   have:=aId (pF (pH big j) q1) (pF (pH o.mb j) q2)
   exact Af this (iA (by omega))
  refine⟨g0,by omega,iR fun r hr=>?_,aEc fun j _=>?_,by rw[Aq,Aq,o.tl],fun r hr=>?_,fun r hr=>?_⟩
  · simp only[Ag,Bi,or_false]at hr
    rcases hr with rfl | rfl
    · exact sl
    · exact o.ml
  · rw[yJ sl o.ml]
    have:=aTd (pF xB (pH big j)) (pF yB (pH o.mb j))
    rw[Aq];exact Af this (iA (by omega))
  · rcases Ag.mp hr with rfl | hr
    · unfold lQ;rw[vG (by rw[Ab,Ab,sl,o.ml]),Ab,sl]
    · exact o.tr r hr
  · rw[Aq]
    rcases Ag.mp hr with rfl | hr
    · exact rowB.mono (by omega)
    · exact(o.tb r hr).mono (by omega)
end
end Hm
namespace Hm
open PySem L2 Mir
abbrev aD5 (φw φb φl φt φm:Φ):FS :=
 (aI (aC 7 (bW (aL φw [vE 6,vE 1]) (vE 2)))
 (aI (aC 8 (aL φb [vE 7,vE 4]))
 (aI (aC 9 (aT (vE 8) (cE (.int 0))))
 (aI (aC 3 (kG (cF [aL φl [aL φt [vE 6,cH (vE 4) (vE 9)],aL φt [vE 5,cH (vE 7) (vE 9)]]]) (vE 3)))
 (aI (cN 5 (cN 6 (aC 5 (aL φm [bJ (vE 1),fH (vE 8) (soO (cE (.int 1))) (noO),cF [vE 6,vE 5]]))))
 (aC 4 (vE 9)))))))
abbrev aNd (φw φb φl φt φm:Φ):FS :=
 (aI (aC 3 (cF []))
 (aI (aC 4 (vE 2))
 (aI (aC 5 (yO (cF [cE (.int 0)]) (bJ (vE 1))))
 (aI (cN 0 (dY (aCx (vE 0)) (.nm 6) (aD5 φw φb φl φt φm)))
 (bS (vE 3))))))
abbrev wE (S:D)(ws:List Int)(whole:Nat)(told:List (List Int))(l:Nat)(m:List Int)(x6 x7 x8 x9:Option Res):Mir.Env :=
 [some ⟨.shr,false,S⟩,some ⟨.shr,false,.lst (li ws)⟩,some ⟨.shr,false,.int whole⟩,some ⟨.own,true,.lst (lil told)⟩,nR l,some ⟨.own,true,.lst (li m)⟩,x6,x7,x8,x9]
theorem aL0 {f:FE}{ρ:Mir.Env}{i:Nat}{k:Kd}{d:D}(h:f ρ=.ok ⟨if k=.shr then .shr else .tmp,true,d⟩):∃ k',aC i f ρ=.nx (ρ.set i (some ⟨k',true,d⟩)):=by
 by_cases z:k=.shr
 · rw[if_pos z]at h;exact⟨_,set_shr h⟩
 · rw[if_neg z]at h;exact⟨_,cS h⟩
theorem aT3 {f:FE}{ρ:Mir.Env}{fr:Bool}{d:D}(h:f ρ=.ok ⟨.tmp,fr,d⟩):cF [f] ρ=.ok ⟨.tmp,fr&&true,.lst [d]⟩:=by
 have ev:=aB h (aY (ρ:=ρ));simp only[cF,ev,R.ok_bind];rfl
theorem aSi {f g:FE}{ρ:Mir.Env}{fr fr':Bool}{a b:D}(h1:f ρ=.ok ⟨.shr,fr,a⟩)(h2:g ρ=.ok ⟨.shr,fr',b⟩):cF [f,g] ρ=.ok ⟨.tmp,fr&&(fr'&&true),.lst [a,b]⟩:=by
 have ev:=aB h1 (aB h2 (aY (ρ:=ρ)));simp only[cF,ev,R.ok_bind];rfl
section
variable {φw φb φl φt φm:Φ}(hw:xT φw)(hb:xC φb)(hl:qX φl)(ht:pY φt)(hm:qO φm)
include hw hb hl ht hm
theorem aHi {n whole B d:Nat}{ws:List Int}(n3:n<=1000)(w0:0<whole)(wB:whole<2^B)(B0:0<B)(B9:B<=9000)(wn:ws.length=n)(wsB:BR B ws){s:List Int}{ss told:List (List Int)}{l:Nat}{m:List Int}(hN:(B+1)*(ss.length+1)+d<=900000)(ht5:ss.length<1000)
 (h:Nar n ws whole ss told l m) (hs:∀ r∈s :: ss,r.length=n) (hd:BN d (s :: ss)) (S:D) (fr:Bool) (x7 x8 x9:Option Res) :
 ∃ told' l' m' y6 y7 y8 y9,Nar n ws whole (s :: ss) told' l' m'/\aD5 φw φb φl φt φm (wE S ws whole told l m (some ⟨.shr,fr,.lst (li s)⟩) x7 x8 x9)=.nx (wE S ws whole told' l' m' y6 y7 y8 y9):=by
 have o:=h.ok w0 wB (fun s h=>hs s (Ae _ h)) fun s h=>hd s (Ae _ h);have sl:=hs s Ad;have sb:=hd s Ad;have wl:=aGn (ws:=ws) (s:=s) w0;have we:=aNh (ws:=ws) (s:=s) w0;have l0:=o.l0;have lw:=o.lw;have ml:=o.ml;have tl:=o.tl;have e1':(B+1)*(ss.length+1)=(B+1)*ss.length+(B+1):=Gf _ _;generalize hM:(B+1)*(ss.length+1)+d=M at hN
 have M0:0<M:=by omega
 have BM:B<=M:=by omega
 have sM:BR M s:=sb.mono (by omega)
 have mM:BR M m:=o.mb.mono (by omega)
 have e1:aC 7 (bW (aL φw [vE 6,vE 1]) (vE 2)) (wE S ws whole told l m (some ⟨.shr,fr,.lst (li s)⟩) x7 x8 x9)=.nx (wE S ws whole told l m (some ⟨.shr,fr,.lst (li s)⟩) (nR (wgt s ws whole)) x8 x9):=by
  have c:=gF (φ:=φw) (fs:=[vE 6,vE 1]) (ρ:=wE S ws whole told l m (some ⟨.shr,fr,.lst (li s)⟩) x7 x8 x9) (aB rfl (aB rfl aY)) (hw (N:=M) (xs:=s) (ys:=ws) M0 (by omega) sM (wsB.mono BM) (by rw[sl,wn]) (by omega))
  have q:=aV (C:=CP) (G:=fun i j=>i%j) (g:=vE 2) (k':=.shr) (fr':=true) (j:=(whole:Int)) c rfl (gC (by omega))
  rw[←we]at q;exact set_shr q
 obtain⟨x,y,k,bz,kn,ce⟩:=hb (N:=B) (o:=wgt s ws whole) (p:=l) B9 B0 (by omega) (by omega) l0
 generalize hc:wgt s ws whole=c at *
 have g0:0<Au c l:=Dv _ l0;have gl:Au c l<=l:=Hq _ l0;obtain⟨k8,e2⟩:=aL0 (i:=8) (qT (φ:=φb) (fs:=[vE 7,vE 4]) (ρ:=wE S ws whole told l m (some ⟨.shr,fr,.lst (li s)⟩) (nR c) x8 x9) (aB rfl (aB rfl aY)) ce);have e3:aC 9 (aT (vE 8) (cE (.int 0))) (wE S ws whole told l m (some ⟨.shr,fr,.lst (li s)⟩) (nR c) (aX k8 ((Au c l:Nat):Int) x y) x9)=.nx (wE S ws whole told l m (some ⟨.shr,fr,.lst (li s)⟩) (nR c) (aX k8 ((Au c l:Nat):Int) x y) (nR (Au c l:Nat))):=rfl;have cg:∀ i:Int,CD i ((Au c l:Nat):Int)=true:=fun i=>aRg (N:=B) (by omega) (by rw[Cr];omega) B0 B9
 have q1:(((l/Au c l:Nat):Int)).natAbs<2^B:=by rw[Cr];exact Cg (Fw _ _) (by omega)
 have q2:(((c/Au c l:Nat):Int)).natAbs<2^B:=by rw[Cr];exact Cg (Fw _ _) (by omega)
 have e4:aC 3 (kG (cF [aL φl [aL φt [vE 6,cH (vE 4) (vE 9)],aL φt [vE 5,cH (vE 7) (vE 9)]]]) (vE 3)) (wE S ws whole told l m (some ⟨.shr,fr,.lst (li s)⟩) (nR c) (aX k8 ((Au c l:Nat):Int) x y) (nR (Au c l:Nat)))=.nx (wE S ws whole (lQ s m l c :: told) l m (some ⟨.shr,fr,.lst (li s)⟩) (nR c) (aX k8 ((Au c l:Nat):Int) x y) (nR (Au c l:Nat))):=by
  generalize hρ:wE S ws whole told l m (some ⟨.shr,fr,.lst (li s)⟩) (nR c) (aX k8 ((Au c l:Nat):Int) x y) (nR (Au c l:Nat))=ρ
  have d1:cH (vE 4) (vE 9) ρ=.ok (sc (.int ((l/Au c l:Nat):Int))):=by subst hρ;exact aV (C:=CD) (G:=fun i j=>i/j) (k:=.shr) (fr:=true) (i:=(l:Int)) (k':=.shr) (fr':=true) (j:=((Au c l:Nat):Int)) rfl rfl (cg _)
  have d2:cH (vE 7) (vE 9) ρ=.ok (sc (.int ((c/Au c l:Nat):Int))):=by subst hρ;exact aV (C:=CD) (G:=fun i j=>i/j) (k:=.shr) (fr:=true) (i:=(c:Int)) (k':=.shr) (fr':=true) (j:=((Au c l:Nat):Int)) rfl rfl (cg _)
  have v6:vE 6 ρ=.ok ⟨.shr,fr||(D.lst (li s)).imm,.lst (li s)⟩:=by subst hρ;rfl
  have v5:vE 5 ρ=.ok ⟨.own,true,.lst (li m)⟩:=by subst hρ;rfl
  have v3:vE 3 ρ=.ok ⟨.own,true,.lst (lil told)⟩:=by subst hρ;rfl
  have t1:=cV (φ:=φt) (aB v6 (aB d1 aY)) (ht (N:=M) (xs:=s) (k:=((l/Au c l:Nat):Int)) M0 (by omega) sM (Af q1 (iA BM)) (by omega))
  have t2:=cV (φ:=φt) (aB v5 (aB d2 aY)) (ht (N:=M) (xs:=m) (k:=((c/Au c l:Nat):Int)) M0 (by omega) mM (Af q2 (iA BM)) (by omega))
  have t3:=cV (φ:=φl) (aB t1 (aB t2 aY)) (hl (xs:=s.map (·*((l/Au c l:Nat):Int))) (ys:=m.map (·*((c/Au c l:Nat):Int))) (by rw[Ab,Ab,sl,ml]) (by rw[Ab];omega))
  have t4:=vU (aT3 t3) v3 (by rw[Ab,sizeLine_eq];show 1+_<=_;omega)
  subst hρ;exact cS t4
 have e5:cN 5 (cN 6 (aC 5 (aL φm [bJ (vE 1),fH (vE 8) (soO (cE (.int 1))) (noO),cF [vE 6,vE 5]]))) (wE S ws whole (lQ s m l c :: told) l m (some ⟨.shr,fr,.lst (li s)⟩) (nR c) (aX k8 ((Au c l:Nat):Int) x y) (nR (Au c l:Nat)))=.nx (wE S ws whole (lQ s m l c :: told) l (jK n [x,y] [s,m]) (some ⟨.shr,fr,.lst (li s)⟩) (nR c) (aX k8 ((Au c l:Nat):Int) x y) (nR (Au c l:Nat))):=by
  show aC 5 _ [some ⟨.shr,false,S⟩,some ⟨.shr,false,.lst (li ws)⟩,some ⟨.shr,false,.int whole⟩,some ⟨.own,true,.lst (lil (lQ s m l c :: told))⟩,nR l,some ⟨.shr,true,.lst (li m)⟩,some ⟨.shr,fr,.lst (li s)⟩,nR c,aX k8 ((Au c l:Nat):Int) x y,nR (Au c l:Nat)]=_
  generalize hρ:([some ⟨.shr,false,S⟩,some ⟨.shr,false,.lst (li ws)⟩,some ⟨.shr,false,.int whole⟩,some ⟨.own,true,.lst (lil (lQ s m l c :: told))⟩,nR l,some ⟨.shr,true,.lst (li m)⟩,some ⟨.shr,fr,.lst (li s)⟩,nR c,aX k8 ((Au c l:Nat):Int) x y,nR (Au c l:Nat)]:Mir.Env)=ρ
  have v1:bJ (vE 1) ρ=.ok (sc (.int (n:Nat))):=by
   have:bJ (vE 1) ρ=.ok (sc (.int ((li ws).length:Nat))):=by subst hρ;exact eF (k:=.shr) (fr:=false||(D.lst (li ws)).imm) rfl
   rwa [Ab,wn]at this
  have v8:fH (vE 8) (soO (cE (.int 1))) (noO) ρ=.ok ⟨.tmp,true,.lst (li [x,y])⟩:=by subst hρ;exact kJ (k:=k8.rd) (fr:=true) (ds:=li [((Au c l:Nat):Int),x,y]) (a:=some 1) (b:=none) rfl rfl rfl
  have v65:cF [vE 6,vE 5] ρ=.ok ⟨.tmp,_,.lst (lil [s,m])⟩:=aSi (fr:=fr||(D.lst (li s)).imm) (a:=.lst (li s)) (fr':=true) (b:=.lst (li m)) (by subst hρ;rfl) (by subst hρ;rfl)
  have xB:x.natAbs<2^M:=Af (show x.natAbs<2^B by have:=bz.hx;omega) (iA BM)
  have yB:y.natAbs<2^M:=Af (show y.natAbs<2^B by have:=bz.hy;omega) (iA BM)
  have t:=cV (φ:=φm) (aB v1 (aB v8 (aB v65 aY))) (hm (w:=n) (N:=M) (cs:=[x,y]) (rs:=[s,m]) M0 (by omega) n3 rfl (fun z hz=>by
   simp only[Ag,Bi,or_false]at hz;rcases hz with rfl | rfl<;>assumption) (fun z hz=>by
   simp only[Ag,Bi,or_false]at hz;rcases hz with rfl | rfl<;>assumption) (fun z hz=>by
   simp only[Ag,Bi,or_false]at hz
   rcases hz with rfl | rfl<;>assumption))
  subst hρ;exact cS t
 have e6:aC 4 (vE 9) (wE S ws whole (lQ s m l c :: told) l (jK n [x,y] [s,m]) (some ⟨.shr,fr,.lst (li s)⟩) (nR c) (aX k8 ((Au c l:Nat):Int) x y) (nR (Au c l:Nat)))=.nx (wE S ws whole (lQ s m l c :: told) (Au c l) (jK n [x,y] [s,m]) (some ⟨.shr,fr,.lst (li s)⟩) (nR c) (aX k8 ((Au c l:Nat):Int) x y) (nR (Au c l:Nat))):=rfl;have e2':aC 8 (aL φb [vE 7,vE 4]) (wE S ws whole told l m (some ⟨.shr,fr,.lst (li s)⟩) (nR c) x8 x9)=.nx (wE S ws whole told l m (some ⟨.shr,fr,.lst (li s)⟩) (nR c) (aX k8 ((Au c l:Nat):Int) x y) x9):=e2;have fin:=Nar.cons h (s:=s) (x:=x) (y:=y) (by rw[hc];exact bz)
 rw[hc]at fin;exact⟨_,_,_,_,_,_,_,fin,(aF e1).trans ((aF e2').trans ((aF e3).trans ((aF e4).trans ((aF e5).trans e6))))⟩
theorem aBb {n whole B d:Nat}{ws:List Int}(n3:n<=1000)(w0:0<whole)(wB:whole<2^B)(B0:0<B)(B9:B<=9000)(wn:ws.length=n)(wsB:BR B ws)(S:D)(fr:Bool):∀ (todo ss told:List (List Int)) (l:Nat) (m:List Int) (x6 x7 x8 x9:Option Res),
 (B+1)*(todo.length+ss.length)+d<=900000->todo.length+ss.length<=1000->Nar n ws whole ss told l m->(∀ r∈todo++ss,r.length=n)->BN d (todo++ss) ->
 ∃ told' l' m' y6 y7 y8 y9,Nar n ws whole (todo.reverse++ss) told' l' m'/\fZ (.nm 6) (aD5 φw φb φl φt φm) fr (lil todo) (wE S ws whole told l m x6 x7 x8 x9)=.nx (wE S ws whole told' l' m' y6 y7 y8 y9)
 | [],ss,told,l,m,x6,x7,x8,x9,_,_,h,_,_=>⟨told,l,m,x6,x7,x8,x9,h,rfl⟩
 | s :: todo,ss,told,l,m,x6,x7,x8,x9,hN,hk,h,hs,hd=>by
  have bd:Tg.bind fr (.nm 6) (.lst (li s)) (wE S ws whole told l m x6 x7 x8 x9)=.ok (wE S ws whole told l m (some ⟨.shr,fr,.lst (li s)⟩) x7 x8 x9):=rfl;have hl1:(s :: todo).length=todo.length+1:=rfl;have mono:(B+1)*(ss.length+1)<=(B+1)*((s :: todo).length+ss.length):=Ce _ (by omega)
  obtain⟨t1,l1,m1,y6,y7,y8,y9,h1,e1⟩:=aHi hw hb hl ht hm n3 w0 wB B0 B9 wn wsB (by omega) (by omega) h (fun r hr=>hs r (by
   rcases Ag.mp hr with rfl | hr
   · exact Bk _ Ad
   · exact Ak _ hr)) (fun r hr=>hd r (by
   rcases Ag.mp hr with rfl | hr
   · exact Bk _ Ad
   · exact Ak _ hr)) S fr x7 x8 x9
  obtain⟨t2,l2,m2,z6,z7,z8,z9,h2,e2⟩:=aBb n3 w0 wB B0 B9 wn wsB S fr todo (s :: ss) t1 l1 m1 y6 y7 y8 y9 (by rw[Aq,show todo.length+(ss.length+1)=(s :: todo).length+ss.length by rw[Aq];omega];exact hN) (by rw[Aq];omega) h1 (fun r hr=>hs r (by
   simp only[An,Ag]at hr ⊢;rcases hr with h | rfl | h<;>simp[*])) (fun r hr=>hd r (by
   simp only[An,Ag]at hr ⊢
   rcases hr with h | rfl | h<;>simp[*]))
  refine⟨t2,l2,m2,z6,z7,z8,z9,?_,(eA bd e1).trans e2⟩
  rw[Jc,Co];exact h2
theorem aTo {n whole B d:Nat}{ws:List Int}{ss:List (List Int)}(n3:n<=1000)(w0:0<whole)(wB:whole<2^B)(B0:0<B)(B9:B<=9000)(wn:ws.length=n)(wsB:BR B ws)(hN:(B+1)*ss.length+d<=900000)(sk:ss.length<=1000)(hs:∀ r∈ss,r.length=n)(hd:BN d ss) :
 ∃ told l m,Nar n ws whole ss told l m/\bY 3 10 (aNd φw φb φl φt φm) [.lst (lil ss),.lst (li ws),.int whole]=.ok ⟨.tmp,true,.lst (lil told)⟩:=by
 have e1:aC 3 (cF []) (stE 10 [.lst (lil ss),.lst (li ws),.int whole])=.nx [some ⟨.shr,false,.lst (lil ss)⟩,some ⟨.shr,false,.lst (li ws)⟩,some ⟨.shr,false,.int whole⟩,some ⟨.own,true,.lst (lil [])⟩,none,none,none,none,none,none]:=rfl;have e2:aC 4 (vE 2) [some ⟨.shr,false,.lst (lil ss)⟩,some ⟨.shr,false,.lst (li ws)⟩,some ⟨.shr,false,.int whole⟩,some ⟨.own,true,.lst (lil [])⟩,none,none,none,none,none,none]=.nx [some ⟨.shr,false,.lst (lil ss)⟩,some ⟨.shr,false,.lst (li ws)⟩,some ⟨.shr,false,.int whole⟩,some ⟨.own,true,.lst (lil [])⟩,nR whole,none,none,none,none,none]:=rfl
 have e3:aC 5 (yO (cF [cE (.int 0)]) (bJ (vE 1))) [some ⟨.shr,false,.lst (lil ss)⟩,some ⟨.shr,false,.lst (li ws)⟩,some ⟨.shr,false,.int whole⟩,some ⟨.own,true,.lst (lil [])⟩,nR whole,none,none,none,none,none]=.nx (wE (.lst (lil ss)) ws whole [] whole (Ao n 0) none none none none):=by
  generalize hρ:([some ⟨.shr,false,.lst (lil ss)⟩,some ⟨.shr,false,.lst (li ws)⟩,some ⟨.shr,false,.int whole⟩,some ⟨.own,true,.lst (lil [])⟩,nR whole,none,none,none,none,none]:Mir.Env)=ρ
  have v1:bJ (vE 1) ρ=.ok (sc (.int (n:Nat))):=by
   have:bJ (vE 1) ρ=.ok (sc (.int ((li ws).length:Nat))):=by subst hρ;exact eF (k:=.shr) (fr:=false||(D.lst (li ws)).imm) rfl
   rwa [Ab,wn]at this
  have r:=aDh (f:=cF [cE (.int 0)]) (ρ:=ρ) (kd:=.tmp) (fr:=true) (ds:=[.int 0]) (k:=(n:Int)) rfl v1 ⟨by decide,by omega,by omega,by rw[sizeLine_eq,Du];show 1*n<=_;omega⟩
  refine(cS r).trans ?_
  rw[show (Ao (n:Int).toNat [D.int 0]).flatten=li (Ao n (0:Int)) by
   rw[Du];clear r v1 wn n3 hs
   induction n with
   | zero=>rfl
   | succ n ih=>rw[Ck,Ck,Ek,ih];rfl]
  subst hρ;rfl
 obtain⟨told,l,m,y6,y7,y8,y9,h,e⟩:=aBb hw hb hl ht hm n3 w0 wB B0 B9 wn wsB (.lst (lil ss)) (false||(D.lst (lil ss)).imm) ss.reverse [] [] whole (Ao n 0) none none none none (by rw[List.length_reverse];simpa using hN) (by rw[List.length_reverse];simpa using sk) .nil (fun r hr=>hs r (by simpa using hr)) (fun r hr=>hd r (by simpa using hr))
 rw[List.reverse_reverse,Cv]at h
 have rv:aCx (vE 0) (wE (.lst (lil ss)) ws whole [] whole (Ao n 0) none none none none)=.ok ⟨true,false||(D.lst (lil ss)).imm,lil ss.reverse⟩:=by
  rw[show lil ss.reverse=(lil ss).reverse by simp[lil]]
  rfl
 have e4:cN 0 (dY (aCx (vE 0)) (.nm 6) (aD5 φw φb φl φt φm)) (wE (.lst (lil ss)) ws whole [] whole (Ao n 0) none none none none)=.nx (wE (.lst (lil ss)) ws whole told l m y6 y7 y8 y9):=(gA rv).trans e;exact⟨told,l,m,h,(dG (np:=3) (n:=10) (s:=aNd φw φb φl φt φm) (ds:=[.lst (lil ss),.lst (li ws),.int whole]) rfl ((aF e1).trans ((aF e2).trans ((aF e3).trans ((aF e4).trans (lH (f:=vE 3) (fr:=true) rfl)))))).trans rfl⟩
end
end Hm
namespace Hm
open PySem L2 Mir
abbrev at2 (t:List (List Int))(i j:Nat):Int:=(t.getD i []).getD j 0
def hZ (p:Nat)(t:List (List Int))(w:Nat):List (List Int):=t.set p (lZ (t.getD p []) ((t.getD w []).map (·*(at2 t p w/at2 t w w))))
def aQw (n:Nat)(t:List (List Int))(p:Nat):List (List Int):=(Bv (p+1) (n-(p+1))).foldl (hZ p) t
def tid (n:Nat):Nat->List (List Int)->List (List Int)
 | 0,t=>t
 | p+1,t=>tid n p (aQw n t p)
structure Tri (n d:Nat)(t:List (List Int)):Prop where
 tl:t.length=n
 tr:∀ r∈t,r.length=n
 low:∀ i j,i<n->j<i->at2 t i j=0
 dia:∀ i,i<n->0<at2 t i i/\at2 t i i<2^d
theorem aEi {t:List (List Int)}{p:Nat}{r:List Int}(hp:p<t.length)(i:Nat):(t.set p r).getD i []=if i=p then r else t.getD i []:=by
 simp only[Aa,List.getElem?_set];by_cases h:p=i
 · subst h;simp[hp]
 · rw[if_neg h,if_neg (fun e=>h e.symm)]
theorem Tri.row {n d:Nat}{t:List (List Int)}(T:Tri n d t){i:Nat}(hi:i<n):(t.getD i []).length=n:=T.tr _ (Mir.bA (by rw[T.tl];exact hi))
theorem xM {n d p w:Nat}{t:List (List Int)}(T:Tri n d t)(hp:p<n)(hw:w<n)(i j:Nat):at2 (hZ p t w) i j=if i=p then at2 t p j-at2 t w j*(at2 t p w/at2 t w w) else at2 t i j:=by
 unfold hZ at2;rw[aEi (by rw[T.tl];exact hp)]
 by_cases h:i=p
 · rw[if_pos h,if_pos h,tD _ _ (by rw[Ab,T.row hp,T.row hw]),aBx]
 · rw[if_neg h,if_neg h]
theorem rJ {n d p w:Nat}{t:List (List Int)}(T:Tri n d t)(hp:p<w)(hw:w<n):Tri n d (hZ p t w):=by
 have a:=xM T (show p<n by omega) hw
 refine⟨by unfold hZ;rw[Ar];exact T.tl,fun r hr=>?_,fun i j hi hj=>?_,fun i hi=>?_⟩
 · unfold hZ at hr
   rcases Bt hr with h | h
   · exact T.tr r h
   · rw[h,vG (by rw[Ab,T.row (show p<n by omega),T.row hw]),T.row (by omega)]
 · rw[a]
   split
   · rename_i h;subst h;rw[T.low i j hi hj,T.low w j hw (by omega)];simp
   · exact T.low i j hi hj
 · rw[a]
   split
   · rename_i h;subst h;rw[T.low w i hw hp];simpa using T.dia i hi
   · exact T.dia i hi
def Tdy (n p:Nat)(t:List (List Int)):Prop:=∀ i j,p<=i->i<j->j<n->0<=at2 t i j/\at2 t i j<at2 t j j
structure InR (n d p w M:Nat)(t:List (List Int)):Prop where
 T:Tri n d t
 below:Tdy n (p+1) t
 here:∀ j,p<j->j<w->0<=at2 t p j/\at2 t p j<at2 t j j
 rb:∀ j,(at2 t p j).natAbs<2^(M+(d+1)*(w-(p+1)))
 up:∀ i,i<p->∀ j,(at2 t i j).natAbs<2^M
theorem InR.step {n d p w M:Nat}{t:List (List Int)}(R:InR n d p w M t)(hp:p<w)(hw:w<n):InR n d p (w+1) M (hZ p t w):=by
 have a:=xM R.T (show p<n by omega) hw
 obtain⟨dp,dd⟩:=R.T.dia w hw;have ne:∀ {i},i≠p->∀ j,at2 (hZ p t w) i j=at2 t i j:=fun h j=>by rw[a,if_neg h]
 have eq:∀ j,at2 (hZ p t w) p j=at2 t p j-at2 t w j*(at2 t p w/at2 t w w):=fun j=>by rw[a,if_pos rfl]
 refine⟨rJ R.T hp hw,fun i j hi hj hn=>?_,fun j h1 h2=>?_,fun j=>?_,fun i hi j=>?_⟩
 · rw[ne (by omega),ne (by omega)];exact R.below i j hi hj hn
 · rw[eq,ne (by omega)]
   rcases Gg j w with h | h
   · rw[R.T.low w j hw h,Ch,Jm];exact R.here j h1 h
   · obtain rfl:j=w:=by omega
     have e:=Int.emod_add_mul_ediv (at2 t p j) (at2 t j j);have e1:=By (at2 t p j) (show at2 t j j≠0 by omega)
     have e2:=Bq (at2 t p j) dp;omega
 · rw[eq]
   have q:(at2 t p w/at2 t w w).natAbs<2^(M+(d+1)*(w-(p+1))):=Cg (qU _ _ dp) (R.rb w)
   have wj:(at2 t w j).natAbs<2^d:=by
    rcases Gg j n with hj | hj
    · rcases Ei j w with h | h | h
      · rw[R.T.low w j hw h];exact Dl d
      · subst h;have:((2^d:Nat):Int)=2^d:=by norm_cast
        omega
      · obtain⟨b1,b2⟩:=R.below w j (by omega) h hj
        have b3:=(R.T.dia j hj).2;have:((2^d:Nat):Int)=2^d:=by norm_cast
        omega
    · rw[show at2 t w j=0 by unfold at2;rw[Aa,Cc (by rw[R.T.row hw];exact hj)];rfl];exact Dl d
   have s:=aId (Af (R.rb j) (iA (show M+(d+1)*(w-(p+1))<=d+(M+(d+1)*(w-(p+1))) by omega))) (pF wj q)
   refine Af s (iA ?_)
   rw[show w+1-(p+1)=(w-(p+1))+1 by omega,Gf];omega
 · rw[ne (by omega)];exact R.up i hi j
theorem InR.run {n d p M:Nat}:∀ (k w:Nat) {t:List (List Int)},InR n d p w M t->p<w->w+k<=n->InR n d p (w+k) M ((Bv w k).foldl (hZ p) t)
 | 0,w,t,R,_,_=>R
 | k+1,w,t,R,hp,hn=>by
  rw[Dc,Ea,show w+(k+1)=w+1+k by omega]
  exact InR.run k (w+1) (R.step hp (by omega)) (by omega) (by omega)
structure OutR (n d p M:Nat)(t:List (List Int)):Prop where
 T:Tri n d t
 td:Tdy n p t
 up:∀ i,i<p->∀ j,(at2 t i j).natAbs<2^M
theorem OutR.inn {n d p M:Nat}{t:List (List Int)}(R:OutR n d (p+1) M t):InR n d p (p+1) M t :=
 ⟨R.T,R.td,fun j h1 h2=>absurd h1 (by omega),fun j=>by rw[Jj,Nat.mul_zero];exact R.up p (by omega) j,fun i hi=>R.up i (by omega)⟩
theorem OutR.step {n d p M:Nat}{t:List (List Int)}(R:OutR n d (p+1) M t)(hp:p<n):OutR n d p M (aQw n t p):=by
 have I:=InR.run (n-(p+1)) (p+1) R.inn (by omega) (by omega)
 rw[show p+1+(n-(p+1))=n by omega]at I
 refine⟨I.T,fun i j hi hj hn=>?_,I.up⟩
 rcases Gg p i with h | h
 · exact I.below i j h hj hn
 · obtain rfl:i=p:=by omega
   exact I.here j hj hn
theorem OutR.run {n d M:Nat}:∀ (p:Nat) {t:List (List Int)},OutR n d p M t->p<=n->OutR n d 0 M (tid n p t)
 | 0,t,R,_=>R
 | p+1,t,R,hp=>OutR.run p (R.step (by omega)) (by omega)
structure Red (n d:Nat)(t:List (List Int)):Prop where
 T:Tri n d t
 td:Tdy n 0 t
theorem aEb {n d M:Nat}{t:List (List Int)}(T:Tri n d t)(hM:BN M t):Red n d (tid n n t):=by
 have o:OutR n d n M t:=⟨T,fun i j h1 h2 h3=>absurd h3 (by omega),fun i hi j=>pH (hM _ (Mir.bA (by rw[T.tl];exact hi))) j⟩
 have:=OutR.run n o (Ah _)
 exact⟨this.T,this.td⟩
theorem Red.bn {n d:Nat}{t:List (List Int)}(R:Red n d t):BN d t:=fun r hr=>by
 obtain⟨i,hi,rfl⟩:=List.getElem_of_mem hr;have hi':i<n:=by rw[←R.T.tl];exact hi
 have e:t.getD i []=t[i]:=by rw[Aa,Ac hi];rfl
 refine aEc fun j hj=>?_
 have hj':j<n:=by rw[←R.T.row hi',e];exact hj
 rw[←e];show (at2 t i j).natAbs<2^d
 have:((2^d:Nat):Int)=2^d:=by norm_cast
 rcases Ei j i with h | h | h
 · rw[R.T.low i j hi' h];exact Dl d
 · subst h;have:=R.T.dia j hj';omega
 · have b1:=R.td i j (De _) h hj'
   have b2:=(R.T.dia j hj').2;omega
end Hm
namespace Hm
open PySem L2 Mir
abbrev aGg (φl φt:Φ):FS :=
 (aI (aC 4 (cH (aT (aT (vE 1) (vE 2)) (vE 3)) (aT (aT (vE 1) (vE 3)) (vE 3))))
 (gH 1 (vE 2) (aL φl [aT (vE 1) (vE 2),aL φt [aT (vE 1) (vE 3),vE 4]])))
abbrev aD0 (φl φt:Φ):FS:=dY (gY (cR (vE 2) (cE (.int 1))) (bJ (vE 0))) (.nm 3) (aGg φl φt)
abbrev aOf (φl φt:Φ):FS :=
 (aI (aC 1 (tH (vE 0)))
 (aI (dY (xW (fR (bJ (vE 0)) (cE (.int 1))) (dB (cE (.int 1))) (dB (cE (.int 1)))) (.nm 2) (aD0 φl φt))
 (bS (vE 1))))
abbrev iE (S:List (List Int))(f:Bool)(t:List (List Int))(x2 x3 x4:Option Res):Mir.Env:=[some ⟨.shr,false,.lst (lil S)⟩,some ⟨.own,f,.lst (lil t)⟩,x2,x3,x4]
section
variable {φl φt:Φ}(hl:qX φl)(ht:pY φt)
include hl ht
theorem aGx {n d p w M:Nat}{S t:List (List Int)}(n3:n<=1000)(d0:0<d)(d9:d<=9000)(hM:M+(d+1)*n<=900000)(R:InR n d p w M t)(hp:p<w)(hw:w<n)(f g:Bool)(x4:Option Res) :
 ∃ f' y4,aGg φl φt (iE S f t (some ⟨.shr,g,.int p⟩) (some ⟨.shr,true,.int w⟩) x4)=.nx (iE S f' (hZ p t w) (some ⟨.shr,g,.int p⟩) (some ⟨.shr,true,.int w⟩) y4):=by
 generalize hq:at2 t p w/at2 t w w=q
 have T:=R.T;have lt:∀ {i:Nat},i<n->i<t.length:=fun h=>by rw[T.tl];exact h
 have gen:∀ y4,∃ f1 f2,vE 1 (iE S f t (some ⟨.shr,g,.int p⟩) (some ⟨.shr,true,.int w⟩) y4)=.ok ⟨.own,f1,.lst (lil t)⟩/\aT (vE 1) (vE 2) (iE S f t (some ⟨.shr,g,.int p⟩) (some ⟨.shr,true,.int w⟩) y4)=.ok ⟨.shr,f2,.lst (li (t.getD p []))⟩/\∃ f3,aT (vE 1) (vE 3) (iE S f t (some ⟨.shr,g,.int p⟩) (some ⟨.shr,true,.int w⟩) y4)=.ok ⟨.shr,f3,.lst (li (t.getD w []))⟩:=fun y4=>by
  have v:vE 1 (iE S f t (some ⟨.shr,g,.int p⟩) (some ⟨.shr,true,.int w⟩) y4)=.ok ⟨.own,f||(D.lst (lil t)).imm,.lst (lil t)⟩:=rfl;exact⟨_,_,v,fT (k':=.shr) (fr':=g||true) v rfl (hV (lt (by omega))),_,fT (k':=.shr) (fr':=true) v rfl (hV (lt hw))⟩
 obtain⟨f1,f2,v1,v2,f3,v3⟩:=gen x4;obtain⟨dp,dd⟩:=T.dia w hw;have two:((2^d:Nat):Int)=2^d:=by norm_cast
 have i1:=eU (g:=vE 3) (k':=.shr) (fr':=true) (i:=w) v2 rfl (gT (by rw[T.row (show p<n by omega)];exact hw))
 have i2:=eU (g:=vE 3) (k':=.shr) (fr':=true) (i:=w) v3 rfl (gT (by rw[T.row hw];exact hw))
 have dw2:((t.getD w []).getD w 0).natAbs<2^d:=by
  show (at2 t w w).natAbs<2^d
  omega
 have e1:aC 4 (cH (aT (aT (vE 1) (vE 2)) (vE 3)) (aT (aT (vE 1) (vE 3)) (vE 3))) (iE S f t (some ⟨.shr,g,.int p⟩) (some ⟨.shr,true,.int w⟩) x4)=.nx (iE S f t (some ⟨.shr,g,.int p⟩) (some ⟨.shr,true,.int w⟩) (nR q)):=by
  have:=aV (C:=CD) (G:=fun i j=>i/j) i1 i2 (aRg (N:=d) dp dw2 d0 d9)
  rw[hq]at this;exact set_shr this
 obtain⟨g1,g2,u1,u2,g3,u3⟩:=gen (nR q);have mono:M+(d+1)*(w-(p+1))<=M+(d+1)*n:=Nat.add_le_add_left (Ce _ (by omega)) _
 generalize hM2:M+(d+1)*n=M2 at hM mono
 have dM:d<=M2:=by have:=Ce (d+1) (show 1<=n by omega);omega
 have q2:q.natAbs<2^M2:=by rw[←hq];exact Af (Cg (qU _ _ dp) (R.rb w)) (iA mono)
 have rw':BR M2 (t.getD w []):=aEc fun j hj=>by
  rw[T.row hw]at hj;refine Af (m:=2^d) ?_ (iA dM)
  show (at2 t w j).natAbs<2^d
  rcases Ei j w with h | h | h
  · rw[T.low w j hw h];exact Dl d
  · subst h;omega
  · obtain⟨b1,b2⟩:=R.below w j (by omega) h hj
    have b3:=(T.dia j hj).2;omega
 have c1:=cV (φ:=φt) (aB u3 (aB (f:=vE 4) (r:=⟨.shr,true,.int q⟩) rfl aY)) (ht (N:=M2) (xs:=t.getD w []) (k:=q) (by omega) (by omega) rw' q2 (by rw[T.row hw];exact n3))
 have c2:=cV (φ:=φl) (aB u2 (aB c1 aY)) (hl (xs:=t.getD p []) (ys:=(t.getD w []).map (·*q)) (by rw[Ab,T.row (show p<n by omega),T.row hw]) (by rw[T.row (show p<n by omega)];exact n3))
 have e2:=aCj (i:=1) (j:=vE 2) (n:=p) (z:=(p:Int)) (k':=.shr) (f':=g||true) c2 (by decide) (ρ:=iE S f t (some ⟨.shr,g,.int p⟩) (some ⟨.shr,true,.int w⟩) (nR q)) (fr:=f) (ds:=lil t) rfl rfl (by
  have:=lt (i:=p) (by omega)
  unfold L2.ixN;rw[Ab,if_pos (by omega),if_pos (by omega)]
  congr 1)
 refine⟨f&&true,nR q,(aF e1).trans (e2.trans ?_)⟩
 rw[show (lil t).set p (.lst (li (lZ (t.getD p []) ((t.getD w []).map (·*q)))))=lil (hZ p t w) by unfold hZ;rw[hq];simp[lil,List.map_set]]
 rfl
theorem vH {n d p M:Nat}{S:List (List Int)}(n3:n<=1000)(d0:0<d)(d9:d<=9000)(hM:M+(d+1)*n<=900000)(g:Bool):∀ (k w:Nat) {t:List (List Int)} (f:Bool) (x3 x4:Option Res),InR n d p w M t->p<w->w+k<=n ->
 ∃ f' y3 y4,fZ (.nm 3) (aGg φl φt) true (kS (w:Int) k) (iE S f t (some ⟨.shr,g,.int p⟩) x3 x4)=.nx (iE S f' ((Bv w k).foldl (hZ p) t) (some ⟨.shr,g,.int p⟩) y3 y4)
 | 0,w,t,f,x3,x4,_,_,_=>⟨f,x3,x4,rfl⟩
 | k+1,w,t,f,x3,x4,R,hp,hn=>by
  rw[aFh,Dc,Ea];have bd:Tg.bind true (.nm 3) (.int (w:Int)) (iE S f t (some ⟨.shr,g,.int p⟩) x3 x4)=.ok (iE S f t (some ⟨.shr,g,.int p⟩) (some ⟨.shr,true,.int w⟩) x4):=rfl;obtain⟨f1,y4,e1⟩:=aGx hl ht (S:=S) n3 d0 d9 hM R hp (by omega) f g x4
  obtain⟨f2,z3,z4,e2⟩:=vH n3 d0 d9 hM g k (w+1) f1 (some ⟨.shr,true,.int w⟩) y4 (R.step hp (by omega)) (by omega) (by omega)
  exact⟨f2,z3,z4,(eA bd e1).trans e2⟩
theorem vQ {n d M:Nat}{S:List (List Int)}(n3:n<=1000)(d0:0<d)(d9:d<=9000)(hM:M+(d+1)*n<=900000)(sn:S.length=n):∀ (p:Nat) {t:List (List Int)} (f:Bool) (x2 x3 x4:Option Res),OutR n d p M t->p<=n ->
 ∃ f' y2 y3 y4,fZ (.nm 2) (aD0 φl φt) true (tV ((p:Int)-1) p) (iE S f t x2 x3 x4)=.nx (iE S f' (tid n p t) y2 y3 y4)
 | 0,t,f,x2,x3,x4,_,_=>⟨f,x2,x3,x4,rfl⟩
 | p+1,t,f,x2,x3,x4,R,hp=>by
  have dw:tV (((p+1:Nat):Int)-1) (p+1)=.int (p:Int) :: tV ((p:Int)-1) p:=by
   unfold tV;simp only[Hi,Aj,Cn];congr 1
   · congr 1;omega
   · exact Ct fun i _=>by simp only[Function.comp];congr 1;omega
  rw[dw];have bd:Tg.bind true (.nm 2) (.int (p:Int)) (iE S f t x2 x3 x4)=.ok (iE S f t (some ⟨.shr,true,.int p⟩) x3 x4):=rfl;obtain⟨f1,y3,y4,e1⟩:=vH hl ht (S:=S) n3 d0 d9 hM true (n-(p+1)) (p+1) f x3 x4 R.inn (by omega) (by omega)
  have rg:gY (cR (vE 2) (cE (.int 1))) (bJ (vE 0)) (iE S f t (some ⟨.shr,true,.int p⟩) x3 x4)=.ok ⟨true,true,kS ((p+1:Nat):Int) (n-(p+1))⟩:=by
   refine wH (x:=sc (.int ((p+1:Nat):Int))) (y:=sc (.int ((lil S).length:Nat))) ?_ rfl (eF (k:=.shr) (fr:=false||(D.lst (lil S)).imm) rfl) ?_ (by omega) (by omega)
   · exact aV (C:=C0) (G:=fun i j=>i+j) (k:=.shr) (fr:=true) (i:=(p:Int)) (k':=.shr) (fr':=true) (j:=1) rfl rfl rfl
   · rw[Ab,sn]
     show D.int _=D.int _
     congr 1;omega
  have e1':aD0 φl φt (iE S f t (some ⟨.shr,true,.int p⟩) x3 x4)=.nx (iE S f1 (aQw n t p) (some ⟨.shr,true,.int p⟩) y3 y4):=(gA rg).trans e1;obtain⟨f2,z2,z3,z4,e2⟩:=vQ n3 d0 d9 hM sn p f1 (some ⟨.shr,true,.int p⟩) y3 y4 (R.step (by omega)) (by omega)
  exact⟨f2,z2,z3,z4,(eA bd e1').trans e2⟩
theorem aRk {n d M:Nat}{t:List (List Int)}(n3:n<=1000)(d0:0<d)(d9:d<=9000)(hM:M+(d+1)*n<=900000)(T:Tri n d t)(tM:BN M t):Red n d (tid n n t)/\∃ fr,bY 1 5 (aOf φl φt) [.lst (lil t)]=.ok ⟨.tmp,fr,.lst (lil (tid n n t))⟩:=by
 refine⟨aEb T tM,?_⟩
 have e1:aC 1 (tH (vE 0)) (stE 5 [.lst (lil t)])=.nx (iE t (false||(D.lst (lil t)).imm) t none none none):=rfl;have o:OutR n d n M t:=⟨T,fun i j h1 h2 h3=>absurd h3 (by omega),fun i hi j=>pH (tM _ (Mir.bA (by rw[T.tl];exact hi))) j⟩
 obtain⟨f,y2,y3,y4,e2⟩:=vQ hl ht (S:=t) n3 d0 d9 hM T.tl n (false||(D.lst (lil t)).imm) none none none o (Ah _)
 have dw:xW (fR (bJ (vE 0)) (cE (.int 1))) (dB (cE (.int 1))) (dB (cE (.int 1))) (iE t (false||(D.lst (lil t)).imm) t none none none)=.ok ⟨true,true,tV ((n:Int)-1) n⟩:=by
  have a:fR (bJ (vE 0)) (cE (.int 1)) (iE t (false||(D.lst (lil t)).imm) t none none none)=.ok (sc (.int ((n:Int)-1))):=by
   have:=aV (C:=C0) (G:=fun i j=>i-j) (g:=cE (.int 1)) (k':=.shr) (fr':=true) (j:=1) (eF (f:=vE 0) (ρ:=iE t (false||(D.lst (lil t)).imm) t none none none) (k:=.shr) (fr:=false||(D.lst (lil t)).imm) (ds:=lil t) rfl) rfl rfl
   rwa [Ab,T.tl]at this
  have b:dB (cE (.int 1)) (iE t (false||(D.lst (lil t)).imm) t none none none)=.ok (sc (.int (-1))):=rfl
  have c:xW (fR (bJ (vE 0)) (cE (.int 1))) (dB (cE (.int 1))) (dB (cE (.int 1))) (iE t (false||(D.lst (lil t)).imm) t none none none)=if ((-1:Int)=-1/\-(2^61)<=(n:Int)-1/\(n:Int)-1<2^61/\-(2^61)<=(-1:Int)/\(-1:Int)<2^61) then .ok ⟨true,true,tV ((n:Int)-1) ((n:Int)-1 - -1).toNat⟩ else .stk:=by
   unfold xW;rw[a,b];rfl
  rw[c,if_pos ⟨rfl,by omega,by omega,by decide,by decide⟩,show ((n:Int)-1 - -1).toNat=n by omega]
 have e3:dY (xW (fR (bJ (vE 0)) (cE (.int 1))) (dB (cE (.int 1))) (dB (cE (.int 1)))) (.nm 2) (aD0 φl φt) (iE t (false||(D.lst (lil t)).imm) t none none none)=.nx (iE t f (tid n n t) y2 y3 y4):=(gA dw).trans e2;exact⟨_,(dG (np:=1) (n:=5) (s:=aOf φl φt) (ds:=[.lst (lil t)]) rfl ((aF e1).trans ((aF e3).trans (lH (f:=vE 1) (fr:=f||(D.lst (lil (tid n n t))).imm) rfl))))⟩
end
end Hm
namespace Hm
open PySem L2 Mir
def Suf (k d:Nat)(ss:List (List Int)):Prop:=∀ i,i<ss.length->(∀ j,j<k+i->at2 ss i j=0)/\0<at2 ss i (k+i)/\at2 ss i (k+i)<2^d
theorem Suf.tail {k d:Nat}{s:List Int}{ss:List (List Int)}(h:Suf k d (s :: ss)):Suf (k+1) d ss:=fun i hi=>by
 have:=h (i+1) (by rw[Aq];omega)
 rw[show k+1+i=k+(i+1) by omega]
 exact this
theorem Suf.cons {k d:Nat}{s:List Int}{ss:List (List Int)}(h0:(∀ j,j<k->s.getD j 0=0)/\0<s.getD k 0/\s.getD k 0<2^d)(h:Suf (k+1) d ss):Suf k d (s :: ss):=fun i hi=>by
 cases i with
 | zero=>exact h0
 | succ i =>
  have:=h i (by rw[Aq]at hi;omega)
  rw[show k+1+i=k+(i+1) by omega]at this
  exact this
theorem Nar.base {n whole:Nat}{ws:List Int}(w0:0<whole){ss told:List (List Int)}{l:Nat}{m:List Int}(h:Nar n ws whole ss told l m)(hs:∀ s∈ss,s.length=n):l<=whole/\0<l/\m.length=n:=by
 induction h with
 | nil=>exact⟨Ah _,w0,Bu⟩
 | @cons s ss told l m x y _ b ih =>
  obtain⟨a1,a2,a3⟩:=ih fun s h=>hs s (Ae _ h);refine⟨Bp (Hq _ a2) a1,Dv _ a2,iR fun r hr=>?_⟩
  simp only[Ag,Bi,or_false]at hr;rcases hr with rfl | rfl
  · exact hs _ Ad
  · exact a3
theorem Nar.suf {n whole B d:Nat}{ws:List Int}(w0:0<whole)(wB:whole<2^B){ss told:List (List Int)}{l:Nat}{m:List Int}(h:Nar n ws whole ss told l m)(hs:∀ s∈ss,s.length=n):∀ k,Suf k d ss->(∀ j,j<k->m.getD j 0=0)/\Suf k (d+B) told:=by
 induction h with
 | nil=>exact fun k _=>⟨fun j _=>by simp only[Aa,Ci];split<;>rfl,fun i hi=>absurd hi (by simp)⟩
 | @cons s ss told l m x y hN b ih =>
  intro k S;have hs':∀ s∈ss,s.length=n:=fun s h=>hs s (Ae _ h);obtain⟨mz,td⟩:=ih hs' (k+1) S.tail;obtain⟨s1,s2,s3⟩:=S 0 (by simp)
  have s1:∀ j,j<k->s.getD j 0=0:=s1;have s2:0<s.getD k 0:=s2;have s3:s.getD k 0<2^d:=s3;have sl:=hs s Ad;have o:=hN.base w0 hs';obtain⟨lw,l0,ml⟩:=o;generalize wgt s ws whole=c at b ⊢
  have g0:0<Au c l:=Dv _ l0;have gl:Au c l<=l:=Hq _ l0;have q1:0<l/Au c l:=Nat.div_pos gl g0;have q2:l/Au c l<2^B:=Cg (Fw _ _) (by omega)
  refine⟨fun j hj=>?_,Suf.cons ⟨fun j hj=>?_,?_,?_⟩ td⟩
  · rw[yJ sl ml,s1 j hj,mz j (by omega)];simp
  · rw[nL (by rw[sl,ml]),s1 j hj,mz j (by omega)];simp
  · rw[nL (by rw[sl,ml]),mz k (by omega),Ch,Jm]
    exact Int.mul_pos s2 (by omega)
  · rw[nL (by rw[sl,ml]),mz k (by omega),Ch,Jm]
    have t1:((2^d:Nat):Int)=2^d:=by norm_cast
    have h1:(s.getD k 0).natAbs<2^d:=by omega
    have:=pF h1 (show (((l/Au c l:Nat):Int)).natAbs<2^B by rw[Cr];exact q2)
    have t2:((2^(d+B):Nat):Int)=2^(d+B):=by norm_cast
    omega
theorem Tri.suf {n d:Nat}{t:List (List Int)}(T:Tri n d t):Suf 0 d t:=fun i hi=>by
 have hi':i<n:=by rw[←T.tl];exact hi
 rw[Dp];exact⟨fun j hj=>T.low i j hi' hj,(T.dia i hi').1,(T.dia i hi').2⟩
theorem Suf.tri {n d:Nat}{t:List (List Int)}(S:Suf 0 d t)(tl:t.length=n)(tr:∀ r∈t,r.length=n):Tri n d t:=⟨tl,tr,fun i j hi hj=>(S i (by omega)).1 j (by omega),fun i hi=>by
 have:=(S i (by omega)).2
 rw[Dp]at this
 exact this⟩
theorem Nar.tri {n whole B d:Nat}{ws:List Int}(w0:0<whole)(wB:whole<2^B){ss told:List (List Int)}{l:Nat}{m:List Int}(h:Nar n ws whole ss told l m)(T:Red n d ss):Tri n (d+B) told:=by
 have o:=h.ok w0 wB T.T.tr T.bn;exact((h.suf w0 wB T.T.tr 0 T.T.suf).2).tri (by rw[o.tl,T.T.tl]) o.tr
theorem lJ {n:Nat}{i j:Nat}(hi:i<n)(hj:j<n):at2 (iQ n) i j=if j=i then 1 else 0:=by
 unfold at2 iQ;simp[Aa,hi,hj]
theorem aJ6 (n:Nat):Red n 1 (iQ n):=by
 refine⟨⟨by simp[iQ],fun r hr=>?_,fun i j hi hj=>?_,fun i hi=>?_⟩,fun i j _ h1 h2=>?_⟩
 · obtain⟨p,_,rfl⟩:=Ai.mp hr;simp
 · rw[lJ hi (by omega),if_neg (by omega)]
 · rw[lJ hi hi,if_pos rfl];decide
 · rw[lJ (by omega) h2,lJ h2 h2,if_neg (by omega),if_pos rfl];decide
def col (w:Nat)(lines:List (List Int)):List Int:=lines.map fun l=>l.getD w 0
inductive Sha (r:Nat) (lines:List (List Int)) (whole:Nat):List Nat->List (List Int)->Prop
 | nil:Sha r lines whole [] (iQ r)
 | snoc {vs:List Nat} {sh told:List (List Int)} {l:Nat} {m:List Int} {w:Nat}:Sha r lines whole vs sh->Nar r (col w lines) whole sh told l m->Sha r lines whole (vs++[w]) (tid r r told)
theorem Sha.red {r whole B:Nat}{lines sh:List (List Int)}{vs:List Nat}(w0:0<whole)(wB:whole<2^B)(h:Sha r lines whole vs sh):Red r (1+B*vs.length) sh:=by
 induction h with
 | nil=>exact aJ6 r
 | @snoc vs sh told l m w _ hN ih =>
  have o:=hN.ok w0 wB ih.T.tr ih.bn;have t:=aEb (hN.tri w0 wB ih) o.tb;rw[Al,Bn,Gf,←Nat.add_assoc];exact t
abbrev aDc (φn φd:Φ):FS:=ifS (bT (inE true (vE 4) (eH 1 1 (vE 1))))
 (aC 3 (aL φd [aL φn [vE 3,aS (bV (vE 2)) 1 [4] (.nm 0) (bE (aT (vE 0) (vE 1))),eH 1 0 (vE 1)]]))
 cG
abbrev aJe (φu φn φd φm:Φ):FS :=
 (aI (aC 2 (aS (bV (fH (eH 1 2 (vE 1)) (noO) (soO (bJ (eH 1 1 (vE 1)))))) 1 [0] (.nm 0) (bE (fH (vE 0) (noO) (soO (vE 1))))))
 (aI (aC 3 (aL φu [bJ (vE 2)]))
 (aI (dY (dW (vE 0)) (.nm 4) (aDc φn φd))
 (bS (aS (bV (vE 3)) 1 [1,0,2] (.nm 0) (bE (aS (bV (aL φm [vE 2,vE 0,vE 3])) 1 [1] (.nm 0) (bE (cH (vE 0) (eH 1 0 (vE 1)))))))))))
theorem aFx {φ:Φ}{f:FE}{ρ:Mir.Env}{a d:D}{fr:Bool}(h:f ρ=.ok ⟨.tmp,true,a⟩)(hφ:φ [a]=.ok ⟨.tmp,fr,d⟩):aL φ [f] ρ=.ok ⟨.tmp,true,d⟩:=by
 cases fr with
 | true=>exact cV (aB h aY) hφ
 | false=>exact kA (aB h aY) hφ rfl
end Hm
namespace Hm
open PySem L2 Mir
def aJ8 (φ:Φ):Prop:=∀ {n:Nat},n<=1000->φ [.int n]=.ok ⟨.tmp,true,.lst (lil (iQ n))⟩
def qH (φ:Φ):Prop:=∀ {n whole B d:Nat} {ws:List Int} {ss:List (List Int)},n<=1000->0<whole->whole<2^B->0<B->B<=9000->ws.length=n->BR B ws->(B+1)*ss.length+d<=900000->ss.length<=1000->(∀ r∈ss,r.length=n)->BN d ss ->
 ∃ told l m,Nar n ws whole ss told l m/\φ [.lst (lil ss),.lst (li ws),.int whole]=.ok ⟨.tmp,true,.lst (lil told)⟩
def rA (φ:Φ):Prop:=∀ {n d M:Nat} {t:List (List Int)},n<=1000->0<d->d<=9000->M+(d+1)*n<=900000->Tri n d t->BN M t->∃ fr,φ [.lst (lil t)]=.ok ⟨.tmp,fr,.lst (lil (tid n n t))⟩
def aJ (n:Nat)(s:Cs):List (List Int):=(s.t.take s.hs.length).map (·.take n)
def cI (n:Nat)(hs:List Nat):List Nat:=(Bf n).filter fun w=>!decide (w∈hs)
def gU (n:Nat)(lines sh:List (List Int))(b:Int):List (List Int):=sh.map fun x=>(jK n x lines).map (·/b)
theorem aFy (w:Nat)(hs:List Nat):((hs.map fun (h:Nat)=>(h:Int)).any (·==(w:Int)))=decide (w∈hs):=by
 induction hs with
 | nil=>rfl
 | cons h hs ih =>
  rw[Aj,Gn,ih];by_cases e:h=w
  · subst e;simp
  · have:((h:Int)==(w:Int))=false:=by simpa using (show ¬ ((h:Int)=(w:Int)) by omega)
    rw[this];simp[show ¬ w=h from fun e'=>e e'.symm]
theorem aHq {f g:FE}{ρ:Mir.Env}{k k':Kd}{fr fr':Bool}{w:Nat}{hs:List Nat}(h1:f ρ=.ok ⟨k,fr,.int w⟩)(h2:g ρ=.ok ⟨k',fr',.lst (hsD hs)⟩):inE true f g ρ=.ok (sc (.bl (!decide (w∈hs)))):=by
 have il:fL (hsD hs)=.ok (hs.map fun (h:Nat)=>(h:Int)):=by
  have:=qG (hs.map fun (h:Nat)=>(h:Int))
  rwa [show li (hs.map fun (h:Nat)=>(h:Int))=hsD hs by simp[hsD,li,Function.comp_def]]at this
 simp only[inE,h1,h2,R.ok_bind,asI,asS,il,if_true,aFy]
abbrev fE (n:Nat)(s:Cs)(f:Bool)(lines sh:List (List Int))(x4:Option Res):Mir.Env:=[some ⟨.shr,false,.int n⟩,some ⟨.shr,false,hW s⟩,some ⟨.own,f,.lst (lil lines)⟩,some ⟨.own,true,.lst (lil sh)⟩,x4]
theorem iZ {n:Nat}{s:Cs}(h:s.hs.length<=s.t.length):(aJ n s).length=s.hs.length:=by unfold aJ;rw[Ab,Bj];omega
section
variable {n k L M:Nat}{s:Cs}(C:Cl k L n M s)(hn:n<=L)
include C hn
theorem gL:∀ r∈aJ n s,r.length=n:=fun r hr=>by
 obtain⟨l,hl,rfl⟩:=Ai.mp hr;have:=C.row l (Cf hl)
 rw[Bj];omega
theorem aAw:BN M (aJ n s):=fun r hr x hx=>by
 obtain⟨l,hl,rfl⟩:=Ai.mp hr;exact C.tn l (Cf hl) x (Cf hx)
theorem aHg {φn φd:Φ}(hφn:qH φn)(hφd:rA φd)(n5:n<=5)(r5:s.hs.length<=5)(M0:0<M)(M8:M<=9000){q:Nat}(q5:q<=5)(hM:1+M*q<=9000){vs:List Nat}{w:Nat}{sh:List (List Int)}(hw:w<n)(v5:w∉s.hs->vs.length<q)(S:Sha s.hs.length (aJ n s) s.b.toNat vs sh)(f:Bool) :
 ∃ sh',Sha s.hs.length (aJ n s) s.b.toNat (vs++if w∈s.hs then [] else [w]) sh'/\aDc φn φd (fE n s f (aJ n s) sh (nR w))=.nx (fE n s f (aJ n s) sh' (nR w)):=by
 have b0:=C.b0;have bn:=C.bn;have wb:((s.b.toNat:Nat):Int)=s.b:=by omega
 have w0:0<s.b.toNat:=by omega
 have wB:s.b.toNat<2^M:=by omega
 have ll:=iZ (n:=n) (s:=s) (by rw[C.len];exact C.hm)
 have i:=aHq (f:=vE 4) (g:=eH 1 1 (vE 1)) (ρ:=fE n s f (aJ n s) sh (nR w)) (k:=.shr) (fr:=true) (w:=w) (hs:=s.hs) (k':=.shr) (fr':=(false||(hW s).imm)||(D.lst (hsD s.hs)).imm) rfl rfl;by_cases h:w∈s.hs
 · rw[if_pos h,Cv]
   rw[decide_eq_true h]at i;exact⟨sh,S,cM (dH i)⟩
 · rw[if_neg h]
   rw[decide_eq_false h]at i;have R:=S.red w0 wB;generalize hd:1+M*vs.length=d at R
   have v5:=v5 h;have mle:M*(vs.length+1)<=M*q:=Ce _ (by omega)
   rw[Gf]at mle
   have c:=cB (ρ:=fE n s f (aJ n s) sh (nR w)) (k:=1) (fs:=[4]) (tg:=.nm 0) (b:=bE (aT (vE 0) (vE 1))) (inj:=fun l:List Int=>D.lst (li l)) (out:=fun l=>D.int (l.getD w 0)) (xs:=aJ n s) (fA (f:=vE 2) (k:=.own) (fr:=f||(D.lst (lil (aJ n s))).imm) (ds:=lil (aJ n s)) rfl) (fun l hl=>by
    refine⟨[some ⟨.shr,f||(D.lst (lil (aJ n s))).imm,.lst (li l)⟩,nR w],.shr,rfl,dZ ?_,by decide⟩
    exact eU (k:=.shr) (fr:=(f||(D.lst (lil (aJ n s))).imm)||(D.lst (li l)).imm) (ds:=li l) (k':=.shr) (fr':=true) (i:=w) rfl rfl (gT (by rw[gL C hn l hl];exact hw))) (by rw[ll,sizeLine_eq];omega)
   rw[show ((aJ n s).map fun l=>D.int (l.getD w 0))=li (col w (aJ n s)) by simp[col,li,Function.comp_def]]at c
   have cl:(col w (aJ n s)).length=s.hs.length:=by unfold col;rw[Ab,ll]
   have r4:(M+1)*sh.length<=(M+1)*5:=Ce _ (by rw[R.T.tl];exact r5)
   have r5':(M+1)*(sh.length+1)<=(M+1)*6:=Ce _ (by rw[R.T.tl];omega)
   obtain⟨told,l,m,N,e⟩:=hφn (n:=s.hs.length) (whole:=s.b.toNat) (B:=M) (d:=d) (ws:=col w (aJ n s)) (ss:=sh) (by omega) w0 wB M0 (by omega) cl (fun x hx=>by
    obtain⟨l,hl,rfl⟩:=Ai.mp hx
    exact pH (aAw C hn l hl) w) (by omega) (by rw[R.T.tl];omega) R.T.tr R.bn
   have o:=N.ok w0 wB R.T.tr R.bn;have T:=N.tri w0 wB R;have r6:(d+M+1)*s.hs.length<=(d+M+1)*5:=Ce _ r5;obtain⟨fr,e'⟩:=hφd (n:=s.hs.length) (d:=d+M) (M:=(M+1)*(sh.length+1)+d) (t:=told) (by omega) (by omega) (by omega) (by omega) T o.tb
   have v1:eH 1 0 (vE 1) (fE n s f (aJ n s) sh (nR w))=.ok ⟨.shr,(false||(hW s).imm)||true,.int (s.b.toNat:Nat)⟩:=by rw[wb];rfl
   have t1:=cV (φ:=φn) (fs:=[vE 3,aS (bV (vE 2)) 1 [4] (.nm 0) (bE (aT (vE 0) (vE 1))),eH 1 0 (vE 1)]) (ρ:=fE n s f (aJ n s) sh (nR w)) (aB (r:=⟨.own,true,.lst (lil sh)⟩) rfl (aB c (aB v1 aY))) e;have t2:=aFx t1 e';refine⟨_,.snoc S N,(cM (dH i)).trans ?_⟩
   exact cS t2
end
end Hm
namespace Hm
open PySem L2 Mir
section
variable {n k L M:Nat}{s:Cs}(C:Cl k L n M s)(hn:n<=L)
include C hn
theorem aA3 {φn φd:Φ}(hφn:qH φn)(hφd:rA φd)(n5:n<=5)(r5:s.hs.length<=5)(M0:0<M)(M8:M<=9000)(hM:1+M*(cI n s.hs).length<=9000)(f:Bool):∀ (j w:Nat) {sh:List (List Int)} (x4:Option Res),w+j<=n->Sha s.hs.length (aJ n s) s.b.toNat (cI w s.hs) sh ->
 ∃ sh' y4,Sha s.hs.length (aJ n s) s.b.toNat (cI (w+j) s.hs) sh'/\fZ (.nm 4) (aDc φn φd) true ((Bv w j).map fun (i:Nat)=>D.int (i:Int)) (fE n s f (aJ n s) sh x4)=.nx (fE n s f (aJ n s) sh' y4)
 | 0,w,sh,x4,_,S=>⟨sh,x4,S,rfl⟩
 | j+1,w,sh,x4,hj,S=>by
  have bd:Tg.bind true (.nm 4) (.int (w:Int)) (fE n s f (aJ n s) sh x4)=.ok (fE n s f (aJ n s) sh (nR w)):=rfl
  have fl:(cI w s.hs).length<=w:=by
   have:=Fy (fun w=>!decide (w∈s.hs)) (Bf w)
   rw[Df]at this;exact this
  have fn5:(cI n s.hs).length<=5:=by
   have:=Fy (fun w=>!decide (w∈s.hs)) (Bf n)
   rw[Df]at this;unfold cI;omega
  obtain⟨sh1,S1,e1⟩:=aHg C hn hφn hφd n5 r5 M0 M8 fn5 hM (w:=w) (by omega) (fun hw=>by
   have e:cI n s.hs=cI w s.hs++(w :: ((Bv (w+1) (n-(w+1))).filter fun w=>!decide (w∈s.hs))):=by
    unfold cI;rw[Ee,Ee,show n=w+(1+(n-(w+1))) by omega,←List.range'_append_1,Gw,Dp,Hc 1,Dc,Cj (by simp[hw])]
    congr 4;omega
   rw[e,Al,Aq];omega) S f
  have fs:cI w s.hs++(if w∈s.hs then [] else [w])=cI (w+1) s.hs:=by
   unfold cI;rw[Gr,Gw];congr 1
   by_cases h:w∈s.hs<;>simp[h]
  rw[fs]at S1;obtain⟨sh2,y4,S2,e2⟩:=aA3 hφn hφd n5 r5 M0 M8 hM f j (w+1) (nR w) (by omega) S1
  rw[Dc,Aj,show w+(j+1)=w+1+j by omega]
  exact⟨sh2,y4,S2,(eA bd e1).trans e2⟩
theorem aSx {φu φn φd φm:Φ}(hφu:aJ8 φu)(hφn:qH φn)(hφd:rA φd)(hφm:qO φm)(n5:n<=5)(r5:s.hs.length<=5)(hk:k<=1000)(hL:L<=1000)(M0:0<M)(M8:M<=9000)(hM:1+M*(cI n s.hs).length<=9000) :
 ∃ sh,Sha s.hs.length (aJ n s) s.b.toNat (cI n s.hs) sh/\bY 2 5 (aJe φu φn φd φm) [.int n,hW s]=.ok ⟨.tmp,true,.lst (lil (gU n (aJ n s) sh s.b))⟩:=by
 have b0:=C.b0;have bn:=C.bn;have w0:0<s.b.toNat:=by omega
 have wB:s.b.toNat<2^M:=by omega
 have ll:=iZ (n:=n) (s:=s) (by rw[C.len];exact C.hm)
 generalize hρ0:([some ⟨.shr,false,.int n⟩,some ⟨.shr,false,hW s⟩,none,none,none]:Mir.Env)=ρ0
 have f2:eH 1 2 (vE 1) ρ0=.ok ⟨.shr,(false||(hW s).imm)||(D.lst (lil s.t)).imm,.lst (lil s.t)⟩:=by subst hρ0;rfl
 have f1:bJ (eH 1 1 (vE 1)) ρ0=.ok ⟨.shr,true,.int (s.hs.length:Nat)⟩:=by
  subst hρ0;refine(eF (k:=.shr) (fr:=(false||(hW s).imm)||(D.lst (hsD s.hs)).imm) (ds:=hsD s.hs) rfl).trans ?_
  rw[yN];rfl
 have sl:=kJ (lo:=noO) (hi:=soO (bJ (eH 1 1 (vE 1)))) f2 (a:=none) rfl (nY f1);rw[aDz]at sl;obtain⟨g,sl⟩:∃ g,fH (eH 1 2 (vE 1)) noO (soO (bJ (eH 1 1 (vE 1)))) ρ0=.ok ⟨.tmp,g,.lst ((s.t.take s.hs.length).map fun l=>.lst (li l))⟩:=⟨_,by rw[Ht];exact sl⟩
 obtain⟨f,e1⟩:=qQ (k:=1) (fs:=[0]) (tg:=.nm 0) (b:=bE (fH (vE 0) (noO) (soO (vE 1)))) (inj:=fun l:List Int=>D.lst (li l)) (out:=fun l=>D.lst (li (l.take n))) (xs:=s.t.take s.hs.length) (fA sl) (fun l hl=>by
  subst hρ0;have c:=kJ (f:=vE 0) (lo:=noO) (hi:=soO (vE 1)) (ρ:=[some ⟨.shr,g,.lst (li l)⟩,some ⟨.shr,false,.int n⟩]) (k:=.shr) (fr:=g||(D.lst (li l)).imm) (ds:=li l) (a:=none) (b:=some (n:Int)) rfl rfl (nY (k:=.shr) (fr:=true) rfl);rw[aDz,←Ht]at c
  exact⟨[some ⟨.shr,g,.lst (li l)⟩,some ⟨.shr,false,.int n⟩],.tmp,_,rfl,dZ c,by decide⟩) (by rw[Bj,sizeLine_eq];omega)
 have e1':aC 2 (aS (bV (fH (eH 1 2 (vE 1)) (noO) (soO (bJ (eH 1 1 (vE 1)))))) 1 [0] (.nm 0) (bE (fH (vE 0) (noO) (soO (vE 1))))) ρ0=.nx [some ⟨.shr,false,.int n⟩,some ⟨.shr,false,hW s⟩,some ⟨.own,f,.lst (lil (aJ n s))⟩,none,none]:=by
  refine(cS e1).trans ?_
  rw[show ((s.t.take s.hs.length).map fun l=>D.lst (li (l.take n)))=lil (aJ n s) by simp[aJ,lil,Function.comp_def]]
  subst hρ0;rfl
 have e2:aC 3 (aL φu [bJ (vE 2)]) [some ⟨.shr,false,.int n⟩,some ⟨.shr,false,hW s⟩,some ⟨.own,f,.lst (lil (aJ n s))⟩,none,none]=.nx (fE n s f (aJ n s) (iQ s.hs.length) none):=by
  have v:bJ (vE 2) [some ⟨.shr,false,.int n⟩,some ⟨.shr,false,hW s⟩,some ⟨.own,f,.lst (lil (aJ n s))⟩,none,none]=.ok (sc (.int (s.hs.length:Nat))):=by
   refine(eF (k:=.own) (fr:=f||(D.lst (lil (aJ n s))).imm) (ds:=lil (aJ n s)) rfl).trans ?_
   rw[Ab,ll]
  exact cS (cV (aB v aY) (hφu (by omega)))
 obtain⟨sh,y4,S,e3⟩:=aA3 C hn hφn hφd n5 r5 M0 M8 hM f n 0 (sh:=iQ s.hs.length) none (by omega) .nil
 rw[Dp]at S
 have e3':dY (dW (vE 0)) (.nm 4) (aDc φn φd) (fE n s f (aJ n s) (iQ s.hs.length) none)=.nx (fE n s f (aJ n s) sh y4):=by
  rw[←Ee]at e3;exact(gA (kZ (k:=.shr) (fr:=true) (n:=n) rfl (by omega))).trans e3
 have R:=S.red w0 wB
 have fl:(cI n s.hs).length<=5:=by
  have:=Fy (fun w=>!decide (w∈s.hs)) (Bf n)
  rw[Df]at this;exact Bp this n5
 have e4:=cB (it:=bV (vE 3)) (ρ:=fE n s f (aJ n s) sh y4) (k:=1) (fs:=[1,0,2]) (tg:=.nm 0) (b:=bE (aS (bV (aL φm [vE 2,vE 0,vE 3])) 1 [1] (.nm 0) (bE (cH (vE 0) (eH 1 0 (vE 1)))))) (inj:=fun l:List Int=>D.lst (li l)) (out:=fun x=>D.lst (li ((jK n x (aJ n s)).map (·/s.b)))) (xs:=sh) (fA (f:=vE 3) (k:=.own) (fr:=true) (ds:=lil sh) rfl) (fun x hx=>by
  refine⟨[some ⟨.shr,true,.lst (li x)⟩,some ⟨.shr,false,hW s⟩,some ⟨.shr,false,.int n⟩,some ⟨.own,f,.lst (lil (aJ n s))⟩],.tmp,rfl,dZ ?_,by decide⟩
  have c:=cV (φ:=φm) (fs:=[vE 2,vE 0,vE 3]) (ρ:=[some ⟨.shr,true,.lst (li x)⟩,some ⟨.shr,false,hW s⟩,some ⟨.shr,false,.int n⟩,some ⟨.own,f,.lst (lil (aJ n s))⟩]) (aB rfl (aB rfl (aB rfl aY))) (hφm (w:=n) (N:=9000) (cs:=x) (rs:=aJ n s) (by decide) (by decide) (by omega) (by rw[R.T.tr x hx,ll]) ((R.bn x hx).mono (by omega)) (fun r hr=>(aAw C hn r hr).mono (by omega)) (gL C hn))
  have q:=cB (k:=1) (fs:=[1]) (tg:=.nm 0) (b:=bE (cH (vE 0) (eH 1 0 (vE 1)))) (inj:=D.int) (out:=fun z=>.int (z/s.b)) (xs:=jK n x (aJ n s)) (fA c) (fun z hz=>by
   refine⟨[some ⟨.shr,true,.int z⟩,some ⟨.shr,false,hW s⟩],.shr,rfl,dZ ?_,by decide⟩
   exact aV (C:=CD) (G:=fun i j=>i/j) (k:=.shr) (fr:=true) (i:=z) (k':=.shr) (fr':=(false||(hW s).imm)||true) (j:=s.b) rfl rfl (aRg (N:=M) b0 bn M0 (by omega))) (by rw[iR (gL C hn),sizeLine_eq];omega)
  rw[show ((jK n x (aJ n s)).map fun z=>D.int (z/s.b))=li ((jK n x (aJ n s)).map (·/s.b)) by simp[li,Function.comp_def]]at q
  exact q) (by rw[R.T.tl,sizeLine_eq];omega)
 rw[show (sh.map fun x=>D.lst (li ((jK n x (aJ n s)).map (·/s.b))))=lil (gU n (aJ n s) sh s.b) by simp[gU,lil,Function.comp_def]]at e4
 have st:stE 5 [.int n,hW s]=ρ0:=by subst hρ0;rfl
 have fin:aJe φu φn φd φm (stE 5 [.int n,hW s])=.rt ⟨.tmp,true,.lst (lil (gU n (aJ n s) sh s.b))⟩:=by
  rw[st];exact(aF e1').trans ((aF e2).trans ((aF e3').trans (nP e4)))
 exact⟨sh,S,(dG (np:=2) (n:=5) (s:=aJe φu φn φd φm) (ds:=[.int n,hW s]) rfl fin).trans rfl⟩
end
end Hm
namespace Sm
open Srt
theorem oF (a b:Nat):sgn (a+b)=sgn a*sgn b:=by
 unfold sgn;have ha:a%2=0\/a%2=1:=by omega
 have hb:b%2=0\/b%2=1:=by omega
 rcases ha with ha | ha<;>rcases hb with hb | hb
 · rw[show ((a:Int)%2)=0 by omega,show ((b:Int)%2)=0 by omega,show (((a+b:Nat):Int)%2)=0 by omega];decide
 · rw[show ((a:Int)%2)=0 by omega,show ((b:Int)%2)=1 by omega,show (((a+b:Nat):Int)%2)=1 by omega];decide
 · rw[show ((a:Int)%2)=1 by omega,show ((b:Int)%2)=0 by omega,show (((a+b:Nat):Int)%2)=1 by omega];decide
 · rw[show ((a:Int)%2)=1 by omega,show ((b:Int)%2)=1 by omega,show (((a+b:Nat):Int)%2)=0 by omega];decide
theorem aQz (a:Nat):sgn a*sgn a=1:=by rcases aP9 a with h | h<;>rw[h]<;>rfl
def ovr (b:Int)(p:List Int):Nat:=(p.filter fun a=>decide (b<a)).length
def bZ (p:List Int):List Int->Nat
 | []=>0
 | b :: q=>ovr b p+bZ p q
theorem aEt (b:Int)(p q:List Int):ovr b (p++q)=ovr b p+ovr b q:=by
 unfold ovr;rw[Gw,Al]
theorem aJ5 {b:Int}{p q:List Int}(h:p.Perm q):ovr b p=ovr b q:=(h.filter _).length_eq
theorem aAe (p q r:List Int):bZ p (q++r)=bZ p q+bZ p r:=by
 induction q with
 | nil=>simp[bZ]
 | cons b q ih=>simp only[Fb,bZ,ih];omega
theorem zK (p q r:List Int):bZ (p++q) r=bZ p r+bZ q r:=by
 induction r with
 | nil=>rfl
 | cons b r ih=>simp only[bZ,ih,aEt];omega
theorem nC {p p':List Int}(h:p.Perm p'):∀ q,bZ p q=bZ p' q
 | []=>rfl
 | b :: q=>by simp only[bZ,aJ5 h,nC h q]
theorem yH {q q':List Int}(h:q.Perm q')(p:List Int):bZ p q=bZ p q':=by
 induction h with
 | nil=>rfl
 | cons x _ ih=>simp only[bZ,ih]
 | swap x y l=>simp only[bZ];omega
 | trans _ _ i1 i2=>exact i1.trans i2
theorem yV (p q:List Int):∀ j,j<=p.length->uQ (p++q) j=uQ p j
 | 0,_=>rfl
 | j+1,h=>by
  show uQ (p++q) j+_=uQ p j+_
  rw[yV p q j (by omega),Hz (by omega)]
  have e:(p++q).getD j 0=p.getD j 0:=by
   rw[Aa,Aa,Bl (by omega)]
  rw[e]
theorem nK (p:List Int)(x:Int):inv (p++[x])=inv p+ovr x p:=by
 unfold inv;rw[Al,Bn];show uQ (p++[x]) p.length+_=_
 rw[yV p [x] p.length (Ah _),Hz (Ah _),List.take_length]
 have e:(p++[x]).getD p.length 0=x:=by
  rw[Aa,Bb (Ah _)];simp
 rw[e];rfl
theorem pX (p q:List Int):inv (p++q)=inv p+inv q+bZ p q:=by
 have go:∀ n,∀ q:List Int,q.length=n->inv (p++q)=inv p+inv q+bZ p q:=by
  intro n;induction n with
  | zero=>intro q h;rw[Cy.mp h,Cv];rfl
  | succ n ih =>
   intro q h;have hq:q≠[]:=fun z=>by rw[z]at h;simp at h
   rw[←Db hq];generalize q.getLast hq=x
   have hl:q.dropLast.length=n:=by rw[Es];omega
   generalize q.dropLast=q' at hl
   rw[←Co,nK,nK,ih q' hl,aEt,aAe];show _=_+(_+_)+(_+(ovr x p+bZ p []))
   show _=_+(_+_)+(_+(ovr x p+0))
   omega
 exact go q.length q rfl
def xs (p q:List Int):Int:=if ∀ x∈p,x∉q then sgn (bZ p q) else 0
theorem aL8 {p p' q q':List Int}(h1:p.Perm p')(h2:q.Perm q'):xs p q=xs p' q':=by
 unfold xs;rw[nC h1 q,yH h2 p']
 have e:(∀ x∈p,x∉q)↔∀ x∈p',x∉q':=by
  constructor
  · intro h x hx hq;exact h x (h1.mem_iff.mpr hx) (h2.mem_iff.mpr hq)
  · intro h x hx hq;exact h x (h1.mem_iff.mp hx) (h2.mem_iff.mp hq)
 by_cases z:∀ x∈p,x∉q
 · rw[if_pos z,if_pos (e.mp z)]
 · rw[if_neg z,if_neg fun w=>z (e.mpr w)]
theorem aHx {p q:List Int}:(p++q).Nodup↔p.Nodup/\q.Nodup/\∀ x∈p,x∉q:=by
 rw[List.nodup_append];constructor
 · exact fun⟨a,b,c⟩=>⟨a,b,fun x hx hq=>c x hx x hq rfl⟩
 · exact fun⟨a,b,c⟩=>⟨a,b,fun x hx y hy e=>c x hx (e▸hy)⟩
theorem aM8 (p q:List Int):trn (p++q)=trn p*trn q*xs p q:=by
 unfold trn xs;by_cases h:(p++q).Nodup
 · obtain⟨h1,h2,h3⟩:=aHx.mp h
   rw[if_pos h,if_pos h1,if_pos h2,if_pos h3,pX,oF,oF]
 · rw[if_neg h]
   by_cases h1:p.Nodup
   · by_cases h2:q.Nodup
     · by_cases h3:∀ x∈p,x∉q
       · exact absurd (aHx.mpr ⟨h1,h2,h3⟩) h
       · rw[if_neg h3,Eg]
     · rw[if_neg h2,Eg,Ch]
   · rw[if_neg h1,Ch,Ch]
theorem aJs (s t:Tm):val (s.1++t.1,s.2*t.2)=val s*val t*xs (key s) (key t):=by
 rw[tN,tN,tN,aL8 (mY s) (mY t)];show trn (s.1++t.1)*(s.2*t.2)=_
 rw[aM8];simp only[Bm,Fj,Bc]
theorem iH {p q:List Int}(h:p.Perm q):srt ix p=srt ix q:=xL wU ((hG p).trans h) (aBt wU p)
theorem aIi (s t:Tm)(n:Int):key (s.1++t.1,n)=srt ix (key s++key t):=iH ((mY s).symm.append (mY t).symm)
def lin (ts:List Tm)(g:List Int->Int):Int:=match ts with
 | []=>0
 | t :: ts=>val t*g (key t)+lin ts g
def aMd (A:List Tm)(g:List Int->Int):Int:=match A with
 | []=>0
 | p :: A=>p.2*g p.1+aMd A g
theorem aM7 (a b:List Tm)(g:List Int->Int):lin (a++b) g=lin a g+lin b g:=by
 induction a with
 | nil=>simp[lin]
 | cons t a ih=>simp only[Fb,lin,ih];omega
def ind (k:List Int):List Int->Int:=fun l=>if l=k then 1 else 0
def aCo (ts:List Tm)(k:List Int):Int:=lin ts (ind k)
theorem rM {α:Type}[BEq α][LawfulBEq α]{l m:List α}(h1:l.Nodup)(h2:m.Nodup)(h:∀ x,x∈l↔x∈m):l.Perm m:=by
 rw[List.perm_iff_count];intro x;by_cases z:x∈l
 · have a:=List.nodup_iff_count.mp h1 x
   have b:=List.nodup_iff_count.mp h2 x;have c:=List.count_pos_iff.mpr z;have d:=List.count_pos_iff.mpr ((h x).mp z);omega
 · rw[Ig z,Ig fun q=>z ((h x).mpr q)]
theorem Told.lin {S:List Tm}(h:Told S)(g:List Int->Int):lin S g=aMd S g:=by
 have go:∀ T:List Tm,(∀ t∈T,t∈S)->Sm.lin T g=aMd T g:=by
  intro T;induction T with
  | nil=>intro _;rfl
  | cons t T ih =>
   intro hs;simp only[Sm.lin,aMd,h.val (hs t Ad),h.key (hs t Ad),ih fun u hu=>hs u (Ae _ hu)]
 exact go S fun _ z=>z
theorem aK0 (s:Tm)(b:List Tm)(g:List Int->Int):lin (b.map fun t=>(s.1++t.1,s.2*t.2)) g=val s*lin b (fun l=>xs (key s) l*g (srt ix (key s++l))):=by
 induction b with
 | nil=>simp[lin]
 | cons t b ih =>
  simp only[Aj,lin,ih];rw[aJs,aIi,Hw];simp only[Bm]
theorem gN (a b:List Tm)(g:List Int->Int):lin (dD a b) g=lin a fun k=>lin b fun l=>xs k l*g (srt ix (k++l)):=by
 induction a with
 | nil=>rfl
 | cons s a ih =>
  show lin ((b.map fun t=>(s.1++t.1,s.2*t.2))++dD a b) g=_
  rw[aM7,aK0,ih];rfl
end Sm
namespace Sm
open Srt
theorem lB {a:List Tm}{f h:List Int->Int}(e:∀ t∈a,f (key t)=h (key t)):lin a f=lin a h:=by
 induction a with
 | nil=>rfl
 | cons t a ih=>simp only[lin,e t Ad,ih fun u hu=>e u (Ae _ hu)]
theorem aMh (a:List Tm)(f h:List Int->Int):lin a (fun k=>f k+h k)=lin a f+lin a h:=by
 induction a with
 | nil=>rfl
 | cons t a ih=>simp only[lin,ih,Hw];omega
theorem qE (a:List Tm)(f:List Int->Int)(c:Int):lin a (fun k=>f k*c)=lin a f*c:=by
 induction a with
 | nil=>simp[lin]
 | cons t a ih=>simp only[lin,ih,Fq,Bm]
theorem aIk (a:List Tm):lin a (fun _=>0)=0:=by
 induction a with
 | nil=>rfl
 | cons t a ih=>simp only[lin,ih,Eg];rfl
theorem aA2 (a b:List Tm)(F:List Int->List Int->Int):lin a (fun k=>lin b fun l=>F k l)=lin b fun l=>lin a fun k=>F k l:=by
 induction a with
 | nil=>simp only[lin];exact(aIk b).symm
 | cons t a ih =>
  have e:lin b (fun l=>lin (t :: a) fun k=>F k l)=lin b (fun l=>F (key t) l*val t)+lin b fun l=>lin a fun k=>F k l:=by
   rw[←aMh];exact lB fun u _=>by simp only[lin];rw[Bc (val t)]
  rw[e,qE,←ih];simp only[lin];rw[Bc (val t)]
theorem jI (a b c:List Tm):dD (dD a b) c=dD a (dD b c):=by
 unfold dD;rw[List.flatMap_assoc];congr 1
 funext s
 rw[List.flatMap_map,List.map_flatMap];congr 1
 funext t
 rw[Cn];apply Ct
 intro u _;simp only[Function.comp,Co,Bm]
def und (b:Int)(p:List Int):Nat:=(p.filter fun a=>decide (a<b)).length
theorem aKn {b:Int}{p:List Int}(h:b∉p):ovr b p+und b p=p.length:=by
 unfold ovr und;induction p with
 | nil=>rfl
 | cons a p ih =>
  have h1:b≠a:=fun z=>h (by rw[z];exact Ad)
  have h2:=ih fun z=>h (Ae _ z);by_cases z:b<a
  · rw[Cj (by simpa using z),Cz (by simpa using (by omega:¬ a<b)),Aq,Aq];omega
  · rw[Cz (by simpa using z),Cj (by simpa using (by omega:a<b)),Aq,Aq];omega
theorem jL (b:Int)(q p:List Int):bZ (b :: q) p=und b p+bZ q p:=by
 induction p with
 | nil=>rfl
 | cons x p ih =>
  simp only[bZ,ih,und];unfold ovr;by_cases z:x<b
  · rw[Cj (by simpa using z),Cj (by simpa using z),Aq,Aq];omega
  · rw[Cz (by simpa using z),Cz (by simpa using z)];omega
theorem rN {p:List Int}:∀ {q:List Int},(∀ x∈p,x∉q)->bZ p q+bZ q p=p.length*q.length
 | [],_=>by
  have:∀ p:List Int,bZ [] p=0:=fun p=>by induction p with
   | nil=>rfl
   | cons a p ih=>simp only[bZ,ih];rfl
  rw[this];rfl
 | b :: q,h=>by
  have h1:b∉p:=fun z=>h b z Ad;have ih:=rN (p:=p) (q:=q) fun x hx hq=>h x hx (Ae _ hq);have h2:=aKn h1;rw[jL];simp only[bZ,Aq,Gf];omega
theorem aMl (p q:List Int):xs p q=sgn (p.length*q.length)*xs q p:=by
 unfold xs;by_cases h:∀ x∈p,x∉q
 · have h':∀ x∈q,x∉p:=fun x hx hp=>h x hp hx
   rw[if_pos h,if_pos h',←rN h,oF,Bm,aQz,Hv]
 · have h':¬ ∀ x∈q,x∉p:=fun z=>h fun x hx hq=>z x hq hx
   rw[if_neg h,if_neg h',Eg]
def Deg (L:Nat)(a:List Tm):Prop:=∀ t∈a,t.1.length=L
theorem aAo {L K:Nat}{a b:List Tm}(ha:Deg L a)(hb:Deg K b)(g:List Int->Int):lin (dD a b) g=lin (dD b a) g*sgn (L*K):=by
 rw[gN,gN,aA2,←qE];refine lB fun t ht=>?_
 rw[←qE];refine lB fun s hs=>?_
 rw[aMl (key s) (key t),aDn,aDn,ha s hs,hb t ht,iH (Hl:(key s++key t).Perm (key t++key s))];rw[Bc (sgn (L*K)),Bm,Bm,Bc (sgn (L*K))]
theorem aMs {a c b:List Tm}(g:List Int->Int):∃ h:List Int->Int,∀ x:List Tm,lin (dD (dD a x) c) g=lin x h:=by
 refine⟨fun l=>lin a fun k=>xs k l*(lin c fun m=>xs (srt ix (k++l)) m*g (srt ix (srt ix (k++l)++m))),fun x=>?_⟩
 rw[gN,gN,aA2]
def oB (i:Nat):List Int->List Tm
 | []=>[]
 | v :: r=>([(i:Int)],v) :: oB (i+1) r
def kO (r:List Int):List Tm:=oB 0 r
theorem pP:∀ (r:List Int) (i:Nat),Deg 1 (oB i r)
 | [],_,t,h=>by cases h
 | v :: r,i,t,h=>by
  rcases Ag.mp h with e | e
  · rw[e];rfl
  · exact pP r (i+1) t e
theorem qD (r:List Int):Deg 1 (kO r):=pP r 0
def raw (rows:List (List Int)):List Tm:=rows.foldl (fun a r=>dD a (kO r)) [([],1)]
theorem iY (rows:List (List Int))(r:List Int):raw (rows++[r])=dD (raw rows) (kO r):=by
 unfold raw;rw[List.foldl_append];rfl
theorem lL (x y:List (List Int)):raw (x++y)=dD (raw x) (raw y):=by
 have go:∀ n,∀ y:List (List Int),y.length=n->raw (x++y)=dD (raw x) (raw y):=by
  intro n;induction n with
  | zero=>intro y h;rw[Cy.mp h,Cv];exact(aAs _).symm
  | succ n ih =>
   intro y h;have hy:y≠[]:=fun z=>by rw[z]at h;simp at h
   rw[←Db hy];have hl:y.dropLast.length=n:=by rw[Es];omega
   rw[←Co,iY,iY,ih _ hl,jI]
 exact go y.length y rfl
theorem wK (r:List Int):raw [r]=kO r:=zI _
theorem aK7:∀ n,∀ rows:List (List Int),rows.length=n->Deg n (raw rows):=by
 intro n;induction n with
 | zero=>intro y h;rw[Cy.mp h];intro t ht;rw[Ap.mp (show t∈[([],1)] from ht)];rfl
 | succ n ih =>
  intro y h;have hy:y≠[]:=fun z=>by rw[z]at h;simp at h
  rw[←Db hy,iY];have hl:y.dropLast.length=n:=by rw[Es];omega
  intro t ht;obtain⟨s,hs,ht⟩:=Fp.mp ht;obtain⟨u,hu,e⟩:=Ai.mp ht;rw[←e];show (s.1++u.1).length=_
  rw[Al,ih _ hl s hs,qD _ u hu]
theorem aEe (x z:List (List Int))(r s:List Int)(g:List Int->Int):lin (raw (x++r :: s :: z)) g=lin (raw (x++s :: r :: z)) g*(-1):=by
 have go:∀ r s:List Int,raw (x++r :: s :: z)=dD (dD (raw x) (dD (kO r) (kO s))) (raw z):=fun r s=>by
  rw[show x++r :: s :: z=((x++[r])++[s])++z by simp,lL,iY,iY,jI (raw x)]
 obtain⟨h,e⟩:=aMs (a:=raw x) (c:=raw z) (b:=[]) g;rw[go,go,e,e,aAo (qD r) (qD s)];rfl
theorem pE (x z:List (List Int))(r:List Int)(g:List Int->Int):∀ y:List (List Int),lin (raw (x++r :: (y++r :: z))) g=0
 | []=>by
  have h:=aEe x z r r g;rw[Dz];omega
 | s :: y=>by
  rw[Fb,aEe];have:=pE (x++[s]) z r g y
  rw[show x++s :: r :: (y++r :: z)=(x++[s])++r :: (y++r :: z) by simp,this,Ch]
end Sm
namespace Sm
open Srt
def cJ (m:Nat):List Int:=(Bf m).map fun (i:Nat)=>(i:Int)
def pW (m:Nat):Nat->List (List Int)
 | 0=>[[]]
 | r+1=>(pW m r).flatMap fun w=>(cJ m).map fun i=>w++[i]
def prd:List (List Int)->List Int->Int
 | r :: rs,x :: w=>r.getD x.toNat 0*prd rs w
 | _,_=>1
theorem aA7:∀ (rows:List (List Int)) (w:List Int) (r:List Int) (x:Int),rows.length=w.length->prd (rows++[r]) (w++[x])=prd rows w*r.getD x.toNat 0
 | [],[],r,x,_=>by simp[prd]
 | a :: rows,y :: w,r,x,h=>by
  simp only[Fb,prd,aA7 rows w r x (by simpa using h),Bm]
theorem zT {m:Nat}:∀ {r:Nat} {w:List Int},w∈pW m r->w.length=r
 | 0,w,h=>by rw[Ap.mp h];rfl
 | r+1,w,h=>by
  obtain⟨v,hv,h⟩:=Fp.mp h;obtain⟨i,_,e⟩:=Ai.mp h;rw[←e,Al,zT hv];rfl
theorem rC:∀ (r:List Int) (i:Nat),oB i r=(Bf r.length).map fun (j:Nat)=>([((i+j:Nat):Int)],r.getD j 0)
 | [],i=>rfl
 | v :: r,i=>by
  rw[Aq,Hi,Aj,Cn];show ([(i:Int)],v) :: oB (i+1) r=_
  rw[rC r (i+1)];congr 1
  apply Ct
  intro j _;simp only[Function.comp];rw[show i+1+j=i+(j+1) by omega]
  simp
theorem aAz (r:List Int):kO r=(cJ r.length).map fun x=>([x],r.getD x.toNat 0):=by
 unfold kO cJ;rw[rC,Cn];apply Ct
 intro j _;simp
theorem aPv {m:Nat}:∀ n,∀ rows:List (List Int),rows.length=n->(∀ r∈rows,r.length=m)->raw rows=(pW m n).map fun w=>(w,prd rows w):=by
 intro n;induction n with
 | zero=>intro rows h _;rw[Cy.mp h];rfl
 | succ n ih =>
  intro rows h hm;have hy:rows≠[]:=fun z=>by rw[z]at h;simp at h
  have hc:=Db hy;have hl:rows.dropLast.length=n:=by rw[Es];omega
  have h1:∀ r∈rows.dropLast,r.length=m:=fun r hr=>hm r (Hy _ hr);have h2:(rows.getLast hy).length=m:=hm _ (Jh hy);rw[←hc];generalize rows.dropLast=rs at *
  generalize rows.getLast hy=r at *
  rw[iY,ih rs hl h1,aAz,h2];unfold dD;rw[List.flatMap_map];show _=List.map _ ((pW m n).flatMap _)
  rw[List.map_flatMap,List.flatMap_def,List.flatMap_def];congr 1
  apply Ct
  intro w hw;rw[Cn,Cn];apply Ct
  intro x _;simp only[Function.comp];rw[aA7 rs w r x (by rw[hl,zT hw])]
def dU {α:Type}(l:List α)(f:α->Int):Int:=match l with
 | []=>0
 | x :: l=>f x+dU l f
theorem uZ {α:Type}{l m:List α}(h:l.Perm m)(f:α->Int):dU l f=dU m f:=by
 induction h with
 | nil=>rfl
 | cons x _ ih=>simp only[dU,ih]
 | swap x y l=>simp only[dU];omega
 | trans _ _ i1 i2=>exact i1.trans i2
theorem kB {α β:Type}(g:α->β)(l:List α)(f:β->Int):dU (l.map g) f=dU l fun x=>f (g x):=by
 induction l with
 | nil=>rfl
 | cons x l ih=>simp only[Aj,dU,ih]
theorem cY {α:Type}{l:List α}{f g:α->Int}(h:∀ x∈l,f x=g x):dU l f=dU l g:=by
 induction l with
 | nil=>rfl
 | cons x l ih=>simp only[dU,h x Ad,ih fun y hy=>h y (Ae _ hy)]
theorem aGb {α:Type}(c:α->Bool)(l:List α)(f:α->Int):dU (l.filter c) f=dU l fun x=>if c x then f x else 0:=by
 induction l with
 | nil=>rfl
 | cons x l ih =>
  cases z:c x with
  | true=>rw[Cj z];simp only[dU,ih,z,if_true]
  | false=>rw[Cz (by simp[z])];simp[dU,ih,z]
theorem aAa (ts:List Tm)(g:List Int->Int):lin ts g=dU ts fun t=>val t*g (key t):=by
 induction ts with
 | nil=>rfl
 | cons t ts ih=>simp only[lin,dU,ih]
theorem rB {m:Nat}:∀ {r:Nat} {w:List Int},w∈pW m r↔w.length=r/\∀ x∈w,0<=x/\x<m
 | 0,w=>by
  constructor
  · intro h;rw[Ap.mp h];exact⟨rfl,fun x hx=>by cases hx⟩
  · intro h;rw[Cy.mp h.1];exact Ap.mpr rfl
 | r+1,w=>by
  have mr:∀ x:Int,x∈cJ m↔0<=x/\x<m:=fun x=>by
   constructor
   · intro h;obtain⟨i,hi,rfl⟩:=Ai.mp h;have:=Bo.mp hi;omega
   · intro h;exact Ai.mpr ⟨x.toNat,Bo.mpr (by omega),by omega⟩
  constructor
  · intro h
    obtain⟨v,hv,h⟩:=Fp.mp h;obtain⟨i,hi,e⟩:=Ai.mp h;obtain⟨h1,h2⟩:=rB.mp hv;rw[←e];refine⟨by rw[Al,h1];rfl,fun x hx=>?_⟩
    rcases An.mp hx with q | q
    · exact h2 x q
    · rw[Ap.mp q];exact(mr i).mp hi
  · intro ⟨h1,h2⟩
    have hw:w≠[]:=fun z=>by rw[z]at h1;simp at h1
    have hc:=Db hw;refine Fp.mpr ⟨w.dropLast,rB.mpr ⟨by rw[Es];omega,fun x hx=>h2 x (Hy _ hx)⟩,Ai.mpr ⟨w.getLast hw,(mr _).mpr (h2 _ (Jh hw)),hc⟩⟩
theorem mK (m:Nat):(cJ m).Nodup:=by
 show List.Pairwise (fun a b=>a≠b) (List.map _ _)
 rw[Dt];exact Jb (fun {a b} h e=>h (by omega)) (show List.Pairwise (fun a b=>a≠b) (Bf m) from List.nodup_range)
theorem rX (m:Nat):∀ r,(pW m r).Nodup
 | 0=>by simp[pW]
 | r+1=>by
  show List.Pairwise (fun a b=>a≠b) _
  unfold pW;rw[List.pairwise_flatMap];refine⟨fun w _=>?_,?_⟩
  · rw[Dt]
    exact Jb (fun {a b} h e=>h (by simpa using e)) (show List.Pairwise (fun a b=>a≠b) (cJ m) from mK m)
  · refine Jb (fun {v w} h x hx y hy e=>?_) (show List.Pairwise (fun a b=>a≠b) (pW m r) from rX m r)
    obtain⟨i,_,rfl⟩:=Ai.mp hx;obtain⟨j,_,rfl⟩:=Ai.mp hy;exact h (List.append_inj_left' e rfl)
theorem pZ {p q:List Int}(up:q.Pairwise fun a b=>ix b a=false):srt ix p=q↔p.Perm q:=by
 constructor
 · intro h;rw[←h];exact(hG p).symm
 · intro h
   rw[iH h];exact(xL wU (Fo _) up).symm
def jD:Nat->List Tm
 | 0=>[([],1)]
 | n+1=>(jD n).flatMap fun o=>(Bf (o.1.length+1)).map fun (k:Nat)=>(o.1.take k++[(n:Int)]++o.1.drop k,o.2*sgn (o.1.length-k))
theorem aMb (a b:List Int)(x:Int)(ha:∀ y∈a,y<x)(hb:∀ y∈b,y<x):inv (a++[x]++b)=inv (a++b)+b.length:=by
 rw[pX,pX,pX];have h1:inv [x]=0:=by unfold inv;simp[uQ]
 have h2:bZ a [x]=0:=by
  show ovr x a+0=0
  unfold ovr;rw[List.filter_eq_nil_iff.mpr fun y hy=>by have:=ha y hy;simp;omega];rfl
 have h3:bZ (a++[x]) b=bZ a b+b.length:=by
  rw[zK];congr 1
  rw[jL]
  have:bZ [] b=0:=by
   clear ha hb h1 h2
   induction b with
   | nil=>rfl
   | cons y b ih=>simp only[bZ,ih];rfl
  rw[this];unfold und;rw[List.filter_eq_self.mpr fun y hy=>by have:=hb y hy;simp;omega]
  rfl
 omega
theorem fW:∀ {n:Nat} {o:Tm},o∈jD n->o.1.Perm (cJ n)/\o.2=sgn (inv o.1)
 | 0,o,h=>by rw[Ap.mp h];exact⟨Fo _,rfl⟩
 | n+1,o,h=>by
  obtain⟨q,hq,h⟩:=Fp.mp h;obtain⟨k,hk,e⟩:=Ai.mp h;have hk:=Bo.mp hk;obtain⟨h1,h2⟩:=fW hq
  have mem:∀ y∈q.1,y<(n:Int):=fun y hy=>by
   obtain⟨i,hi,rfl⟩:=Ai.mp (h1.mem_iff.mp hy);have:=Bo.mp hi;omega
  rw[←e];constructor
  · show (q.1.take k++[(n:Int)]++q.1.drop k).Perm (cJ (n+1))
    have p1:(q.1.take k++[(n:Int)]++q.1.drop k).Perm (q.1++[(n:Int)]):=by
     rw[Co];refine(List.Perm.append_left _ Hl).trans ?_
     rw[←Co,En]
    have e2:cJ (n+1)=cJ n++[(n:Int)]:=by unfold cJ;rw[Gr,Dm];rfl
    rw[e2];exact p1.trans (h1.append_right _)
  · show q.2*sgn (q.1.length-k)=sgn (inv (q.1.take k++[(n:Int)]++q.1.drop k))
    rw[aMb _ _ _ (fun y hy=>mem y (Cf hy)) (fun y hy=>mem y (Di hy)),En,oF,h2,Eo]
theorem aAr:∀ {n:Nat} {p:List Int},p.Perm (cJ n)->∃ o∈jD n,o.1=p
 | 0,p,h=>⟨([],1),Ap.mpr rfl,(List.Perm.eq_nil h).symm⟩
 | n+1,p,h=>by
  have e2:cJ (n+1)=cJ n++[(n:Int)]:=by unfold cJ;rw[Gr,Dm];rfl
  rw[e2]at h;have mn:(n:Int)∈p:=h.mem_iff.mpr (Ak _ (Ap.mpr rfl));obtain⟨a,b,rfl⟩:=List.append_of_mem mn
  have h':(a++b).Perm (cJ n):=by
   have p1:(a++(n:Int) :: b).Perm ((n:Int) :: (a++b)):=List.perm_middle;have p2:(cJ n++[(n:Int)]).Perm ((n:Int) :: cJ n):=Hl;exact List.Perm.cons_inv (p1.symm.trans (h.trans p2))
  obtain⟨o,ho,eo⟩:=aAr h';have hl:a.length<=o.1.length:=by rw[eo,Al];omega
  refine⟨_,Fp.mpr ⟨o,ho,Ai.mpr ⟨a.length,Bo.mpr (by omega),rfl⟩⟩,?_⟩
  show o.1.take a.length++[(n:Int)]++o.1.drop a.length=_
  rw[eo];simp
theorem xG {x:Int}:∀ {p q:List Int} {j k:Nat},x∉p->x∉q->j<=p.length->k<=q.length->p.take j++[x]++p.drop j=q.take k++[x]++q.drop k->p=q/\j=k
 | p,q,0,0,_,_,_,_,e=>⟨by simpa using e,rfl⟩
 | p,[],j,k+1,_,_,_,h,e=>by simp at h
 | [],q,j+1,k,_,_,h,_,e=>by simp at h
 | p,y :: q,0,k+1,hp,hq,_,_,e=>by
  simp at e
  exact absurd e.1 fun z=>hq (by rw[z];exact Ad)
 | y :: p,q,j+1,0,hp,hq,_,_,e=>by
  simp at e
  exact absurd e.1 fun z=>hp (by rw[z];exact Ad)
 | y :: p,z :: q,j+1,k+1,hp,hq,hj,hk,e=>by
  simp only[List.take_succ_cons,List.drop_succ_cons,Fb,List.cons.injEq]at e;obtain⟨e1,e2⟩:=e;obtain⟨i1,i2⟩:=xG (fun m=>hp (Ae _ m)) (fun m=>hq (Ae _ m)) (by simpa using hj) (by simpa using hk) e2
  exact⟨by rw[e1,i1],by rw[i2]⟩
theorem tW:∀ n,((jD n).map (·.1)).Nodup
 | 0=>by simp[jD]
 | n+1=>by
  have lt:∀ o∈jD n,(n:Int)∉o.1:=fun o ho m=>by
   obtain⟨i,hi,e⟩:=Ai.mp ((fW ho).1.mem_iff.mp m);have:=Bo.mp hi
   omega
  show List.Pairwise (fun a b=>a≠b) _
  rw[Dt];unfold jD;rw[List.pairwise_flatMap];refine⟨fun o ho=>?_,?_⟩
  · rw[Dt]
    refine Gq (fun {a b} ma mb h e=>?_) (show List.Pairwise (fun a b=>a≠b) (Bf (o.1.length+1)) from List.nodup_range)
    have:=Bo.mp ma
    have:=Bo.mp mb
    exact h (xG (lt o ho) (lt o ho) (by omega) (by omega) e).2
  · have nd:=Dt.mp (show List.Pairwise (fun a b=>a≠b) ((jD n).map (·.1)) from tW n)
    refine Gq (fun {v w} mv mw h x hx y hy e=>?_) nd
    obtain⟨i,hi,rfl⟩:=Ai.mp hx;obtain⟨j,hj,rfl⟩:=Ai.mp hy;have:=Bo.mp hi
    have:=Bo.mp hj
    exact h (xG (lt v mv) (lt w mw) (by omega) (by omega) e).1
def dX (p:List Int)(o:List Int):List Int:=o.map fun j=>p.getD j.toNat 0
theorem aEv {p:List Int}(h:p.Pairwise (·<·)){i j:Nat}(hj:j<p.length)(hij:i<j):p.getD i 0<p.getD j 0:=by
 have:=Fe.mp h i j (by omega) hj hij
 simpa[List.getD,Ac hj,Ac (show i<p.length by omega)] using this
theorem pD {p:List Int}(h:p.Pairwise (·<·)){x y:Int}(hx:0<=x/\x<p.length)(hy:0<=y/\y<p.length):p.getD x.toNat 0<p.getD y.toNat 0↔x<y:=by
 constructor
 · intro q
   rcases Hg x y with z | z | z
   · exact z
   · rw[z]at q;omega
   · have:=aEv h (i:=y.toNat) (j:=x.toNat) (by omega) (by omega);omega
 · intro z;exact aEv h (by omega) (by omega)
theorem aDr {p:List Int}(h:p.Pairwise (·<·)){x:Int}(hx:0<=x/\x<p.length):∀ {o:List Int},(∀ y∈o,0<=y/\y<(p.length:Int))->ovr (p.getD x.toNat 0) (dX p o)=ovr x o
 | [],_=>rfl
 | y :: o,ho=>by
  have ih:=aDr h hx (o:=o) fun z hz=>ho z (Ae _ hz);have e:=pD h hx (ho y Ad);unfold ovr dX at ih ⊢;rw[Aj];by_cases z:x<y
  · rw[Cj (by simpa using e.mpr z),Cj (by simpa using z),Aq,Aq,ih]
  · rw[Cz (by simpa using fun q=>z (e.mp q)),Cz (by simpa using z),ih]
theorem aK1 {p:List Int}(h:p.Pairwise (·<·)):∀ n,∀ o:List Int,o.length=n->(∀ y∈o,0<=y/\y<(p.length:Int))->inv (dX p o)=inv o:=by
 intro n;induction n with
 | zero=>intro o ho _;rw[Cy.mp ho];rfl
 | succ n ih =>
  intro o ho hb;have hy:o≠[]:=fun z=>by rw[z]at ho;simp at ho
  have hc:=Db hy;have hl:o.dropLast.length=n:=by rw[Es];omega
  have h1:∀ y∈o.dropLast,0<=y/\y<(p.length:Int):=fun y hy=>hb y (Hy _ hy);have h2:=hb _ (Jh hy);rw[←hc];generalize o.dropLast=q at *
  generalize o.getLast hy=x at *
  have e:dX p (q++[x])=dX p q++[p.getD x.toNat 0]:=by unfold dX;rw[Dm];rfl
  rw[e,nK,nK,ih q hl h1,aDr h h2 h1]
theorem vR (p:List Int):dX p (cJ p.length)=p:=by
 unfold dX cJ;rw[Cn];refine Hs (by simp) fun i h1 h2=>?_
 simp[h2]
theorem aDd {p:List Int}(h:p.Pairwise (·<·)):∀ {o q:List Int},(∀ y∈o,0<=y/\y<(p.length:Int))->(∀ y∈q,0<=y/\y<(p.length:Int))->dX p o=dX p q->o=q
 | [],[],_,_,_=>rfl
 | [],y :: q,_,_,e=>by simp[dX]at e
 | x :: o,[],_,_,e=>by simp[dX]at e
 | x :: o,y :: q,ho,hq,e=>by
  simp only[dX,Aj,List.cons.injEq]at e;have ih:=aDd h (fun z hz=>ho z (Ae _ hz)) (fun z hz=>hq z (Ae _ hz)) e.2;have a:=pD h (ho x Ad) (hq y Ad);have b:=pD h (hq y Ad) (ho x Ad)
  have:x=y:=by
   rcases Hg x y with z | z | z
   · have:=a.mpr z;omega
   · exact z
   · have:=b.mpr z;omega
  rw[this,ih]
theorem aAg {p:List Int}:∀ {w:List Int},(∀ x∈w,x∈p)->∃ o:List Int,(∀ y∈o,0<=y/\y<(p.length:Int))/\dX p o=w
 | [],_=>⟨[],⟨fun _ h=>(by cases h),rfl⟩⟩
 | x :: w,h=>by
  obtain⟨o,h1,h2⟩:=aAg (p:=p) (w:=w) fun y hy=>h y (Ae _ hy);obtain⟨i,hi,e⟩:=Bg.mp (h x Ad);refine⟨(i:Int) :: o,fun y hy=>?_,?_⟩
  · rcases Ag.mp hy with q | q
    · rw[q];omega
    · exact h1 y q
  · show p.getD ((i:Int)).toNat 0 :: dX p o=_
    rw[h2,Du,Aa,Ac hi];simp[e]
theorem vS:∀ {l m:List Int},l.Nodup->(∀ x∈l,x∈m)->l.length<=m.length
 | [],m,_,_=>De _
 | a :: l,m,h,s=>by
  obtain⟨h1,h2⟩:=Dy.mp h;have ha:=s a Ad;have:=vS (l:=l) (m:=m.erase a) h2 fun x hx=>(List.mem_erase_of_ne (fun z:x=a=>h1 (by rw[←z];exact hx))).mpr (s x (Ae _ hx))
  rw[List.length_erase_of_mem ha]at this;have:=List.length_pos_of_mem ha
  rw[Aq];omega
def gX (rows:List (List Int))(p:List Int):Int:=dU (jD p.length) fun o=>o.2*prd rows (dX p o.1)
theorem nM {m:Nat}{x:Int}:x∈cJ m↔0<=x/\x<m:=by
 constructor
 · intro h;obtain⟨i,hi,rfl⟩:=Ai.mp h;have:=Bo.mp hi;omega
 · intro h;exact Ai.mpr ⟨x.toNat,Bo.mpr (by omega),by omega⟩
theorem rO {m:Nat}{rows:List (List Int)}(hm:∀ r∈rows,r.length=m){p:List Int}(up:p.Pairwise (·<·))(hl:p.length=rows.length)(rg:∀ x∈p,0<=x/\x<m):aCo (raw rows) p=gX rows p:=by
 have nd:p.Nodup:=up.imp fun {a b} h e=>by omega
 have ix':p.Pairwise fun a b=>ix b a=false:=up.imp fun {a b} h=>decide_eq_false (by omega)
 unfold aCo;rw[aAa,aPv rows.length rows rfl hm,kB]
 have e1:dU (pW m rows.length) (fun w=>val (w,prd rows w)*ind p (key (w,prd rows w)))=dU ((pW m rows.length).filter fun w=>decide (srt ix w=p)) fun w=>trn w*prd rows w:=by
  rw[aGb];refine cY fun w _=>?_
  show val (w,prd rows w)*ind p (srt ix w)=_
  unfold ind;by_cases z:srt ix w=p
  · rw[if_pos z,Hv,decide_eq_true z,if_pos rfl,tN]
  · rw[if_neg z,Eg,decide_eq_false z,if_neg (by decide)]
 rw[e1];have bd:∀ o∈jD p.length,∀ y∈o.1,0<=y/\y<(p.length:Int):=fun o ho y hy=>nM.mp ((fW ho).1.mem_iff.mp hy)
 have pm:((pW m rows.length).filter fun w=>decide (srt ix w=p)).Perm ((jD p.length).map fun o=>dX p o.1):=by
  refine rM (List.Nodup.sublist List.filter_sublist (rX m _)) ?_ fun w=>?_
  · show List.Pairwise (fun a b=>a≠b) _
    rw[Dt];have nd2:=Dt.mp (show List.Pairwise (fun a b=>a≠b) ((jD p.length).map (·.1)) from tW _)
    exact Gq (fun {a b} ma mb h e=>h (aDd up (bd a ma) (bd b mb) e)) nd2
  · rw[Ew,rB,decide_eq_true_iff,pZ ix']
    constructor
    · intro ⟨⟨h1,h2⟩,h3⟩
      obtain⟨o,o1,o2⟩:=aAg (p:=p) (w:=w) fun x hx=>h3.mem_iff.mp hx
      have po:o.Perm (cJ p.length):=by
       have lo:o.length=p.length:=by
        have:=congrArg List.length o2
        simp[dX]at this
        rw[this,h3.length_eq]
       have ndo:o.Nodup:=by
        have:(dX p o).Nodup:=by rw[o2];exact h3.nodup_iff.mpr nd
        have q:=Dt.mp (show List.Pairwise (fun a b=>a≠b) (o.map fun j=>p.getD j.toNat 0) from this)
        exact q.imp fun {a b} h e=>h (by rw[e])
       have sub:∀ x∈o,x∈cJ p.length:=fun x hx=>nM.mpr (o1 x hx);refine rM ndo (mK _) fun x=>⟨sub x,fun hx=>?_⟩
       by_cases z:x∈o
       · exact z
       · exfalso
         have:=vS (l:=x :: o) (m:=cJ p.length) (Dy.mpr ⟨z,ndo⟩) fun y hy=>(Ag.mp hy).elim (fun q=>q▸hx) (sub y)
         rw[Aq,lo,show (cJ p.length).length=p.length by simp[cJ]]at this
         omega
      obtain⟨q,hq,eq⟩:=aAr po;exact Ai.mpr ⟨q,hq,by rw[eq,o2]⟩
    · intro h
      obtain⟨o,ho,e⟩:=Ai.mp h
      have pp:w.Perm p:=by
       rw[←e];have:=((fW ho).1.map fun j=>p.getD j.toNat 0)
       have e3:(cJ p.length).map (fun j=>p.getD j.toNat 0)=p:=vR p;rw[e3]at this;exact this
      exact⟨⟨by rw[pp.length_eq,hl],fun x hx=>rg x (pp.mem_iff.mp hx)⟩,pp⟩
 rw[uZ pm,kB];refine cY fun o ho=>?_
 have nw:(dX p o.1).Nodup:=by
  have:=((fW ho).1.map fun j=>p.getD j.toNat 0)
  have e3:(cJ p.length).map (fun j=>p.getD j.toNat 0)=p:=vR p;rw[e3]at this;exact this.nodup_iff.mpr nd
 unfold trn;rw[if_pos nw,aK1 up _ o.1 rfl (bd o ho),(fW ho).2]
end Sm
namespace Sm
open Srt
def sk (k i:Nat):Nat:=if i<k then i else i+1
def cut {α:Type}(k:Nat)(l:List α):List α:=l.take k++l.drop (k+1)
def gp (n j:Nat):List Int:=(Bf n).map fun (i:Nat)=>((sk j i:Nat):Int)
def en (t:List (List Int))(i j:Nat):Int:=(t.getD i []).getD j 0
def prF (f:Nat->Nat->Int)(i:Nat):List Int->Int
 | []=>1
 | x :: w=>f i x.toNat*prF f (i+1) w
def eN (n:Nat)(f:Nat->Nat->Int):Int:=dU (jD n) fun o=>o.2*prF f 0 o.1
theorem rD {α:Type}(k i:Nat)(l:List α)(d:α):(cut k l).getD i d=l.getD (sk k i) d:=by
 unfold cut sk;rw[Aa,Aa];congr 1
 by_cases h:i<k
 · rw[if_pos h]
   by_cases z:i<l.length
   · rw[Bl (by rw[Bj];omega),Dw h]
   · rw[Cc (by simp;omega),Cc (by omega)]
 · rw[if_neg h]
   by_cases z:k<=l.length
   · rw[Bb (by rw[Bj];omega),List.getElem?_drop,Bj]
     congr 1
     omega
   · rw[Cc (by simp;omega),Cc (by omega)]
theorem zD {α:Type}{k:Nat}{l:List α}(h:k<l.length):(cut k l).length=l.length-1:=by
 unfold cut;simp;omega
theorem aPh (k j:Nat)(t:List (List Int))(a b:Nat):en ((cut k t).map (cut j)) a b=en t (sk k a) (sk j b):=by
 unfold en;rw[←rD j b,←rD k a];congr 1
 rw[Aa,Ax,Aa];cases (cut k t)[a]? with
 | none=>simp[cut]
 | some r=>rfl
theorem aNc:∀ (t:List (List Int)) (w:List Int),t.length=w.length->∀ (f:Nat->Nat->Int) (i:Nat),(∀ a b,en t a b=f (i+a) b)->prd t w=prF f i w
 | [],[],_,f,i,_=>rfl
 | r :: t,x :: w,h,f,i,e=>by
  have e0:=e 0 x.toNat;simp only[prd,prF];rw[aNc t w (by simpa using h) f (i+1) (fun a b=>by have:=e (a+1) b;rw[show i+1+a=i+(a+1) by omega];exact this)]
  rw[show r.getD x.toNat 0=f i x.toNat from e0]
theorem aEw {n:Nat}{o:List Int}(h:∀ x∈o,0<=x/\x<(n:Int)):dX (cJ n) o=o:=by
 unfold dX;conv=>rhs;rw[←List.map_id o]
 refine Ct fun x hx=>?_
 have:=h x hx
 rw[Aa,show cJ n=(Bf n).map (fun (i:Nat)=>(i:Int)) from rfl,Ax,Iq (by omega)]
 simp;omega
theorem oM (n:Nat):(cJ n).length=n:=by simp[cJ]
theorem qP {n:Nat}{o:Tm}(h:o∈jD n):∀ x∈o.1,0<=x/\x<(n:Int):=fun x hx=>nM.mp ((fW h).1.mem_iff.mp hx)
theorem sC {n:Nat}{o:Tm}(h:o∈jD n):o.1.length=n:=by rw[(fW h).1.length_eq,oM]
theorem sT {n:Nat}{t:List (List Int)}(h:t.length=n):gX t (cJ n)=eN n (en t):=by
 unfold gX eN;rw[oM];refine cY fun o ho=>?_
 rw[aEw (qP ho),aNc t o.1 (by rw[h,sC ho]) (en t) 0 fun a b=>by rw[Dp]]
theorem vW {n:Nat}{f g:Nat->Nat->Int}(h:∀ i j,i<n->j<n->f i j=g i j):∀ (w:List Int) (i:Nat),i+w.length<=n->(∀ x∈w,0<=x/\x<(n:Int))->prF f i w=prF g i w
 | [],_,_,_=>rfl
 | x :: w,i,hl,hx=>by
  have hl':i+(w.length+1)<=n:=hl;have h0:=hx x Ad;simp only[prF];rw[h i x.toNat (by omega) (by omega),vW h w (i+1) (by omega) fun y hy=>hx y (Ae _ hy)]
theorem gP {n:Nat}{f g:Nat->Nat->Int}(h:∀ i j,i<n->j<n->f i j=g i j):eN n f=eN n g :=
 cY fun o ho=>by rw[vW h o.1 0 (by rw[sC ho];omega) (qP ho)]
def prs (i:Nat):List Int->List (Nat×Nat)
 | []=>[]
 | x :: w=>(i,x.toNat) :: prs (i+1) w
def pL (f:Nat->Nat->Int):List (Nat×Nat)->Int
 | []=>1
 | p :: ps=>f p.1 p.2*pL f ps
theorem aLz {f:Nat->Nat->Int}{a b:List (Nat×Nat)}(h:a.Perm b):pL f a=pL f b:=by
 induction h with
 | nil=>rfl
 | cons x _ ih=>simp only[pL,ih]
 | swap x y l=>simp only[pL];rw[Fj]
 | trans _ _ i1 i2=>exact i1.trans i2
theorem aB3 (f:Nat->Nat->Int):∀ (w:List Int) (i:Nat),prF f i w=pL f (prs i w)
 | [],_=>rfl
 | x :: w,i=>by simp only[prF,prs,pL,aB3 f w (i+1)]
theorem aEx (f:Nat->Nat->Int):∀ ps:List (Nat×Nat),pL (fun i j=>f j i) ps=pL f (ps.map Prod.swap)
 | []=>rfl
 | p :: ps=>by simp only[pL,Aj,aEx f ps,Prod.swap]
def aQm (n:Nat)(w:List Int):List Int:=(Bf n).map fun (j:Nat)=>((w.findIdx (fun x=>x==(j:Int)):Nat):Int)
theorem aGp:∀ n,n<6->((jD n).map fun o=>(aQm n o.1,o.2)).Perm (jD n):=by decide +kernel
theorem aLf:∀ n,n<6->∀ o∈jD n,((prs 0 o.1).map Prod.swap).Perm (prs 0 (aQm n o.1)):=by decide +kernel
theorem uX {n:Nat}(h:n<6)(f:Nat->Nat->Int):eN n (fun i j=>f j i)=eN n f:=by
 unfold eN
 have e:∀ o∈jD n,o.2*prF (fun i j=>f j i) 0 o.1=o.2*prF f 0 (aQm n o.1):=fun o ho=>by
  rw[aB3,aB3,aEx,aLz (aLf n h o ho)]
 rw[cY e,←uZ (aGp n h) (fun o=>o.2*prF f 0 o.1),kB]
theorem aMk:∀ n,n<5->∀ j:Nat,j<n+1->((j:Int) :: gp n j).Perm (cJ (n+1)):=by decide +kernel
theorem aP8:∀ n,n<5->∀ j:Nat,j<n+1->und (j:Int) (gp n j)=j:=by decide +kernel
theorem aOc:∀ n,n<5->∀ j:Nat,j<n+1->(gp n j).Pairwise (·<·):=by decide +kernel
theorem aRn:∀ n,n<5->∀ j:Nat,j<n+1->∀ x∈gp n j,0<=x/\x<((n+1:Nat):Int):=by decide +kernel
theorem aHp:∀ n,n<6->(cJ n).Pairwise (·<·):=by decide +kernel
theorem aNz {p:List Int}(h:p.Pairwise (·<·)):p.Pairwise fun a b=>ix b a=false:=h.imp fun {a b} h=>decide_eq_false (by omega)
theorem vX:∀ q:List Int,bZ [] q=0
 | []=>rfl
 | y :: b=>by simp only[bZ,vX b];rfl
theorem aP2 {n j:Nat}(hn:n<5)(hj:j<n+1)(w:List Int):xs [(j:Int)] (srt ix w)*ind (cJ (n+1)) (srt ix ([(j:Int)]++srt ix w))=ind (gp n j) (srt ix w)*sgn j:=by
 have up:=aNz (aOc n hn j hj);have upR:=aNz (aHp (n+1) (by omega))
 have pm:=aMk n hn j hj;by_cases z:srt ix w=gp n j
 · have e1:srt ix ([(j:Int)]++gp n j)=cJ (n+1):=(pZ upR).mpr pm
   have nd:((j:Int) :: gp n j).Nodup:=pm.nodup_iff.mpr (mK _);have nj:(j:Int)∉gp n j:=(Dy.mp nd).1;rw[z,e1];unfold ind xs;rw[if_pos rfl,if_pos rfl,if_pos (fun x hx=>by rw[Ap.mp hx];exact nj),jL,vX,aP8 n hn j hj,Nat.add_zero,Hv,Fh]
 · have e1:srt ix ([(j:Int)]++srt ix w)≠cJ (n+1):=fun q=>z (by
    have p1:=(pZ upR).mp q;have p2:(srt ix w).Perm (gp n j):=List.Perm.cons_inv (p1.trans pm.symm);have p3:=(pZ up).mpr p2;rw[←p3]
    exact(iH (hG w)).symm)
   unfold ind;rw[if_neg e1,if_neg z,Eg,Ch]
theorem aMx (x v:Int):val ([x],v)=v:=by
 rw[tN];have:trn [x]=1:=by unfold trn;rw[if_pos (by simp)];rfl
 rw[this,Fh]
theorem aMt {n:Nat}(hn:n<5){r:List Int}(hr:r.length=n+1)(z:List (List Int)):aCo (raw (r :: z)) (cJ (n+1))=dU (Bf (n+1)) fun j=>r.getD j 0*(sgn j*aCo (raw z) (gp n j)):=by
 unfold aCo;rw[show r :: z=[r]++z from rfl,lL,wK,gN,aAa,aAz,hr,kB]
 unfold cJ;rw[kB];refine cY fun j hj=>?_
 have hj:=Bo.mp hj;rw[aMx];rw[Du];congr 1
 show lin (raw z) (fun l=>xs [(j:Int)] l*ind (cJ (n+1)) (srt ix ([(j:Int)]++l)))=_
 rw[Bc,←qE];refine lB fun t _=>aP2 hn hj t.1
theorem aHh (x y:List (List Int))(r:List Int)(g:List Int->Int):lin (raw (x++r :: y)) g=lin (raw (r :: (x++y))) g*sgn x.length:=by
 have e1:raw (x++r :: y)=dD (dD (raw x) (kO r)) (raw y):=by
  rw[lL,show r :: y=[r]++y from rfl,lL,wK,jI]
 have e2:raw (r :: (x++y))=dD (dD (kO r) (raw x)) (raw y):=by
  rw[show r :: (x++y)=[r]++(x++y) from rfl,lL,wK,lL,jI]
 rw[e1,e2,gN,gN (dD (kO r) (raw x)),aAo (aK7 x.length x rfl) (qD r),Nat.mul_one]
theorem aC7 (j:Nat):∀ (z:List (List Int)) (w:List Int),z.length=w.length->∀ (p:List Int),True->(∀ r∈z,∀ x∈w,r.getD (p.getD x.toNat 0).toNat 0=(cut j r).getD x.toNat 0)->prd z (dX p w)=prd (z.map (cut j)) w
 | [],[],_,_,_,_=>rfl
 | r :: z,x :: w,h,p,_,e=>by
  simp only[dX,Aj,prd];rw[e r Ad x Ad];congr 1
  exact aC7 j z w (by simpa using h) p trivial fun r hr x hx=>e r (Ae _ hr) x (Ae _ hx)
theorem aIq {n j:Nat}(hn:n<5)(hj:j<n+1){z:List (List Int)}(hz:z.length=n)(hr:∀ r∈z,r.length=n+1):aCo (raw z) (gp n j)=gX (z.map (cut j)) (cJ n):=by
 have lg:(gp n j).length=n:=by simp[gp]
 rw[rO hr (aOc n hn j hj) (by rw[lg,hz]) (aRn n hn j hj)]
 unfold gX;rw[lg,oM];refine cY fun o ho=>?_
 rw[aEw (qP ho)];congr 1
 refine aC7 j z o.1 (by rw[hz,sC ho]) _ trivial fun r _ x hx=>?_
 have:=qP ho x hx
 rw[rD];congr 1
 unfold gp;rw[Aa,Ax,Iq (by omega)]
 simp
theorem xH {α:Type}{k:Nat}{l:List α}(d:α)(h:k<l.length):l=l.take k++l.getD k d :: l.drop (k+1):=by
 rw[Aa,Ac h];simp
theorem aQ2 {α:Type}{l:List α}{i:Nat}{d:α}(h:i<l.length):l.getD i d∈l:=by
 rw[Aa,Ac h];exact Dd h
theorem aG2 {α:Type}(l:List α)(f:α->Int)(c:Int):dU l f*c=dU l fun x=>f x*c:=by
 induction l with
 | nil=>simp[dU]
 | cons x l ih=>simp only[dU,Fq,ih]
theorem aKd {n:Nat}(hn:n<5){t:List (List Int)}(ht:t.length=n+1)(hr:∀ r∈t,r.length=n+1){i k:Nat}(hi:i<n+1)(hk:k<n+1) :
 dU (Bf (n+1)) (fun j=>(t.getD i []).getD j 0*(sgn (j+k)*gX ((cut k t).map (cut j)) (cJ n)))=if i=k then gX t (cJ (n+1)) else 0:=by
 have hs:=xH [] (l:=t) (k:=k) (by omega)
 have hir:=hr _ (aQ2 (l:=t) (i:=i) (d:=[]) (by omega))
 have hc:cut k t=t.take k++t.drop (k+1):=rfl;have hcl:(t.take k++t.drop (k+1)).length=n:=by rw[←hc,zD (by omega),ht];rfl
 have hcr:∀ r∈t.take k++t.drop (k+1),r.length=n+1:=fun r h=>hr r ((An.mp h).elim Cf Di);have lk:(t.take k).length=k:=by rw[Bj];omega
 have e:=aHh (t.take k) (t.drop (k+1)) (t.getD i []) (ind (cJ (n+1)));have e2:=aMt hn hir (t.take k++t.drop (k+1));unfold aCo at e2;rw[e2,lk]at e
 have e3:dU (Bf (n+1)) (fun j=>(t.getD i []).getD j 0*(sgn (j+k)*gX ((cut k t).map (cut j)) (cJ n)))=lin (raw (t.take k++t.getD i [] :: t.drop (k+1))) (ind (cJ (n+1))):=by
  rw[e,aG2];refine cY fun j hj=>?_
  rw[show lin (raw (t.take k++t.drop (k+1))) (ind (gp n j))=gX ((cut k t).map (cut j)) (cJ n) from aIq hn (Bo.mp hj) hcl hcr,oF]
  simp only[Bm,Bc,Fj]
 rw[e3];by_cases z:i=k
 · rw[if_pos z,z,←hs]
   exact rO hr (aHp _ (by omega)) (by rw[oM,ht]) fun x hx=>nM.mp hx
 · rw[if_neg z]
   by_cases q:i<k
   · have s2:=xH [] (l:=t.take k) (k:=i) (by omega)
     have g:(t.take k).getD i []=t.getD i []:=by
      rw[Aa,Dw q,Aa]
     rw[g]at s2;rw[s2,Co,Fb];exact pE _ _ _ _ _
   · have s2:=xH [] (l:=t.drop (k+1)) (k:=i-(k+1)) (by rw[Eo];omega)
     have g:(t.drop (k+1)).getD (i-(k+1)) []=t.getD i []:=by
      rw[Aa,List.getElem?_drop,Aa,show k+1+(i-(k+1))=i by omega]
     rw[g]at s2;rw[s2];exact pE _ _ _ _ _
def tbl (n:Nat)(f:Nat->Nat->Int):List (List Int):=(Bf n).map fun i=>(Bf n).map fun j=>f i j
theorem aBw {n:Nat}{f:Nat->Nat->Int}{i j:Nat}(hi:i<n)(hj:j<n):en (tbl n f) i j=f i j:=by
 unfold en tbl;simp[Aa,hi,hj]
theorem yK (n:Nat)(f:Nat->Nat->Int):(tbl n f).length=n:=by simp[tbl]
theorem aM1 {n:Nat}{f:Nat->Nat->Int}:∀ r∈tbl n f,r.length=n:=fun r h=>by
 obtain⟨i,_,e⟩:=Ai.mp h;rw[←e];simp
theorem aMm {n:Nat}{t:List (List Int)}(ht:t.length=n+1){k:Nat}(hk:k<n+1)(j:Nat):gX ((cut k t).map (cut j)) (cJ n)=eN n fun a b=>en t (sk k a) (sk j b):=by
 rw[sT (by rw[Ab,zD (by omega),ht];rfl)]
 congr 1
 funext a b
 exact aPh k j t a b
theorem aNr {n k i:Nat}(h:i<n):sk k i<n+1:=by unfold sk;split<;>omega
theorem aDe {n:Nat}(hn:n<5)(f:Nat->Nat->Int){i k:Nat}(hi:i<n+1)(hk:k<n+1) :
 dU (Bf (n+1)) (fun j=>f i j*(sgn (j+k)*eN n fun a b=>f (sk k a) (sk j b)))=if i=k then eN (n+1) f else 0:=by
 have h:=aKd hn (yK (n+1) f) aM1 hi hk;have e1:gX (tbl (n+1) f) (cJ (n+1))=eN (n+1) f:=(sT (yK _ f)).trans (gP fun a b ha hb=>aBw ha hb);rw[e1]at h;rw[←h];refine cY fun j hj=>?_
 have hj:=Bo.mp hj;rw[show ((tbl (n+1) f).getD i []).getD j 0=f i j from aBw hi hj,aMm (yK _ f) hk]
 congr 2
 exact gP fun a b ha hb=>(aBw (aNr ha) (aNr hb)).symm
theorem aNb {n:Nat}(hn:n<5)(f:Nat->Nat->Int){i k:Nat}(hi:i<n+1)(hk:k<n+1) :
 dU (Bf (n+1)) (fun j=>(sgn (i+j)*eN n fun a b=>f (sk j a) (sk i b))*f j k)=if i=k then eN (n+1) f else 0:=by
 have h:=aDe hn (fun a b=>f b a) hk hi;rw[uX (by omega)]at h
 rw[show (if i=k then eN (n+1) f else 0)=if k=i then eN (n+1) f else 0 by by_cases z:i=k<;>simp[z,eq_comm],←h]
 refine cY fun j hj=>?_
 rw[Bc];congr 1
 rw[Hc i j];congr 1
 exact(uX (by omega) fun a b=>f (sk j a) (sk i b)).symm
end Sm
namespace Be
open PySem L2 Mir Sm Hm
def su:Nat->(Nat->Int)->Int
 | 0,_=>0
 | n+1,g=>su n g+g n
theorem aI7 {α:Type}(f:α->Int)(l m:List α):dU (l++m) f=dU l f+dU m f:=by
 induction l with
 | nil=>simp[dU]
 | cons x l ih=>simp only[Fb,dU,ih];omega
theorem aB0 (g:Nat->Int):∀ n,dU (Bf n) g=su n g
 | 0=>rfl
 | n+1=>by rw[Gr,aI7,aB0 g n];simp[dU,su]
theorem aM {f g:Nat->Int}:∀ {n:Nat},(∀ i,i<n->f i=g i)->su n f=su n g
 | 0,_=>rfl
 | n+1,h=>by simp only[su];rw[aM fun i hi=>h i (by omega),h n (by omega)]
theorem gV (f g:Nat->Int):∀ n,su n f+su n g=su n fun i=>f i+g i
 | 0=>rfl
 | n+1=>by simp only[su];rw[←gV f g n];omega
theorem dC (c:Int)(f:Nat->Int):∀ n,c*su n f=su n fun i=>c*f i
 | 0=>by simp[su]
 | n+1=>by simp only[su];rw[Hw,dC c f n]
theorem eI:∀ n,su n (fun _=>0)=0
 | 0=>rfl
 | n+1=>by simp only[su];rw[eI n];rfl
theorem xU (F:Nat->Nat->Int)(m:Nat):∀ n,su n (fun i=>su m (F i))=su m fun j=>su n fun i=>F i j
 | 0=>by simp only[su];exact(eI m).symm
 | n+1=>by simp only[su];rw[xU F m n,gV]
theorem jR (f:Nat->Int){v:Nat}:∀ {n:Nat},v<n->su n (fun i=>if i=v then f i else 0)=f v
 | n+1,h=>by
  simp only[su];by_cases z:v=n
  · subst z
    rw[if_pos rfl,aM (g:=fun _=>0) fun i hi=>if_neg (by omega),eI];omega
  · rw[jR f (by omega),if_neg (by omega)];omega
def adj (n:Nat)(f:Nat->Nat->Int)(t s:Nat):Int:=sgn (t+s)*eN n fun a b=>f (sk s a) (sk t b)
theorem aN8 {n:Nat}(hn:n<5)(f:Nat->Nat->Int){i k:Nat}(hi:i<n+1)(hk:k<n+1):su (n+1) (fun j=>adj n f i j*f j k)=if i=k then eN (n+1) f else 0:=by
 rw[←aB0];exact aNb hn f hi hk
theorem aN9 {n:Nat}(hn:n<5)(f:Nat->Nat->Int){i k:Nat}(hi:i<n+1)(hk:k<n+1):su (n+1) (fun j=>f i j*adj n f j k)=if i=k then eN (n+1) f else 0:=by
 rw[←aB0];exact aDe hn f hi hk
theorem aPi (n:Nat)(f:Nat->Nat->Int):adj n f n n=eN n f:=by
 unfold adj;rw[show sgn (n+n)=1 by unfold sgn;omega,Fh]
 exact gP fun a b ha hb=>by unfold sk;rw[if_pos ha,if_pos hb]
theorem aLl {n:Nat}(hn:n<=5)(f:Nat->Nat->Int)(h0:eN n f≠0){γ:Nat->Int}(h:∀ u,u<n->su n (fun s=>γ s*f s u)=0):∀ s,s<n->γ s=0:=by
 cases n with
 | zero=>intro s hs;omega
 | succ n =>
  intro v hv
  have e:su (n+1) (fun u=>su (n+1) (fun s=>γ s*f s u)*adj n f u v)=γ v*eN (n+1) f:=by
   have:su (n+1) (fun u=>su (n+1) (fun s=>γ s*f s u)*adj n f u v)=su (n+1) fun s=>if s=v then γ s*eN (n+1) f else 0:=by
    rw[aM (g:=fun u=>su (n+1) fun s=>γ s*(f s u*adj n f u v)) fun u _=>by rw[Bc,dC];exact aM fun s _=>by rw[Bc,Bm],xU]
    refine aM fun s hs=>?_
    rw[←dC,aN9 (by omega) f hs hv]
    split<;>simp
   rw[this,jR (fun s=>γ s*eN (n+1) f) hv]
  rw[aM (g:=fun _=>0) fun u hu=>by rw[h u hu,Ch],eI]at e
  rcases Il.mp e.symm with q | q
  · exact q
  · exact absurd q h0
section
variable {k:Nat}{r:Nat->Nat->Int}{h:Nat->Nat}{A c:Nat->Nat->Int}{b:Int}{X:Nat->Int}
theorem xR (a:Nat->Int)(hA:∀ t,t<k->∀ j,A t j=su k fun s=>c t s*r s j)(j:Nat):su k (fun t=>a t*A t j)=su k fun s=>su k (fun t=>a t*c t s)*r s j:=by
 rw[aM (g:=fun t=>su k fun s=>a t*c t s*r s j) fun t ht=>by rw[hA t ht j,dC];exact aM fun s _=>(Bm ..).symm,xU]
 exact aM fun s _=>by rw[Bc,dC];exact aM fun t _=>by rw[Bc]
theorem step (h5:k<5)(hb:b=eN k fun s u=>r s (h u))(b0:b≠0)(hA:∀ t,t<k->∀ j,A t j=su k fun s=>c t s*r s j)(hH:∀ t,t<k->∀ u,u<k->A t (h u)=if t=u then b else 0)
 (hX:∀ j,X j=b*r k j-su k fun t=>r k (h t)*A t j) (e0:X (h k)≠0) :
 ∃ F:Nat->Nat->Int,X (h k)=eN (k+1) (fun s u=>r s (h u))/\(∀ j,F k j=X j)/\(∀ t,t<k+1->∀ j,F t j=su (k+1) fun s=>adj k (fun s u=>r s (h u)) t s*r s j) /\
  (∀ t,t<k+1->∀ u,u<k+1->F t (h u)=if t=u then X (h k) else 0)/\∀ t,t<k->∀ j,X (h k)*A t j-A t (h k)*X j=F t j*b:=by
 let f:Nat->Nat->Int:=fun s u=>r s (h u)
 let F:Nat->Nat->Int:=fun t j=>su (k+1) fun s=>adj k f t s*r s j
 have FH:∀ t,t<k+1->∀ u,u<k+1->F t (h u)=if t=u then eN (k+1) f else 0:=fun t ht u hu=>aN8 h5 f ht hu
 have XH:∀ u,u<k->X (h u)=0:=fun u hu=>by
  rw[hX,aM (g:=fun t=>if t=u then r k (h t)*b else 0) fun t ht=>by rw[hH t ht u hu];split<;>simp,jR (fun t=>r k (h t)*b) hu,Bc]
  omega
 have XF:∀ j,F k j=X j:=by
  let γ:Nat->Int:=fun s=>- su k (fun t=>r k (h t)*c t s)-adj k f k s
  have dif:∀ j,X j-F k j=su k fun s=>γ s*r s j:=fun j=>by
   have q1:=xR (fun t=>r k (h t)) hA j;have q2:F k j=su k (fun s=>adj k f k s*r s j)+adj k f k k*r k j:=rfl;rw[hX,q1,q2,aPi,←hb]
   have q3:su k (fun s=>γ s*r s j)=- su k (fun s=>su k (fun t=>r k (h t)*c t s)*r s j)-su k (fun s=>adj k f k s*r s j):=by
    have m1:=dC (-1) (fun s=>su k (fun t=>r k (h t)*c t s)*r s j) k;have m2:=dC (-1) (fun s=>adj k f k s*r s j) k;have m3:=gV (fun s=>-1*(su k (fun t=>r k (h t)*c t s)*r s j)) (fun s=>-1*(adj k f k s*r s j)) k;rw[←m1,←m2]at m3
    have m4:su k (fun s=>γ s*r s j)=su k fun s=>-1*(su k (fun t=>r k (h t)*c t s)*r s j)+-1*(adj k f k s*r s j):=aM fun s _=>by
     show (- su k (fun t=>r k (h t)*c t s)-adj k f k s)*r s j=_
     rw[Gc,Em];omega
    rw[m4,←m3];omega
   rw[q3];omega
  have z:=aLl (n:=k) (by omega) f (by rw[←hb];exact b0) (γ:=γ) fun u hu=>by
   rw[←dif (h u),XH u hu,FH k (by omega) u (by omega),if_neg (by omega)];rfl
  intro j;have:=dif j
  rw[aM (g:=fun _=>0) fun s hs=>by rw[z s hs,Ch],eI]at this
  omega
 have D:X (h k)=eN (k+1) f:=by rw[←XF,FH k (by omega) k (by omega),if_pos rfl]
 refine⟨F,D,XF,fun t _ j=>rfl,fun t ht u hu=>by rw[FH t ht u hu,←D],fun t ht j=>?_⟩
 let e:=X (h k)
 let ε:Nat->Int:=fun s=>if s=k then-(A t (h k)*b)-adj k f t s*b else e*c t s+A t (h k)*su k (fun t=>r k (h t)*c t s)-adj k f t s*b
 have dif:∀ j,e*A t j-A t (h k)*X j-F t j*b=su (k+1) fun s=>ε s*r s j:=fun j=>by
  have q1:=xR (fun t=>r k (h t)) hA j;have q2:F t j=su k (fun s=>adj k f t s*r s j)+adj k f t k*r k j:=rfl
  have q3:su (k+1) (fun s=>ε s*r s j)=su k (fun s=>(e*c t s+A t (h k)*su k (fun t=>r k (h t)*c t s)-adj k f t s*b)*r s j)+(- (A t (h k)*b)-adj k f t k*b)*r k j:=by
   show su k (fun s=>ε s*r s j)+ε k*r k j=_
   rw[show ε k=- (A t (h k)*b)-adj k f t k*b from if_pos rfl]
   congr 1
   exact aM fun s hs=>by rw[show ε s=e*c t s+A t (h k)*su k (fun t=>r k (h t)*c t s)-adj k f t s*b from if_neg (by omega)]
  have q4:su k (fun s=>(e*c t s+A t (h k)*su k (fun t=>r k (h t)*c t s)-adj k f t s*b)*r s j)=e*su k (fun s=>c t s*r s j)+A t (h k)*su k (fun s=>su k (fun t=>r k (h t)*c t s)*r s j)-b*su k (fun s=>adj k f t s*r s j):=by
   have m1:=dC e (fun s=>c t s*r s j) k;have m2:=dC (A t (h k)) (fun s=>su k (fun t=>r k (h t)*c t s)*r s j) k;have m3:=dC (-b) (fun s=>adj k f t s*r s j) k;have a1:=gV (fun s=>e*(c t s*r s j)) (fun s=>A t (h k)*(su k (fun t=>r k (h t)*c t s)*r s j)) k;have a2:=gV (fun s=>e*(c t s*r s j)+A t (h k)*(su k (fun t=>r k (h t)*c t s)*r s j)) (fun s=>-b*(adj k f t s*r s j)) k;rw[←a1,←m1,←m2,←m3]at a2
   have a3:su k (fun s=>(e*c t s+A t (h k)*su k (fun t=>r k (h t)*c t s)-adj k f t s*b)*r s j)=su k fun s=>e*(c t s*r s j)+A t (h k)*(su k (fun t=>r k (h t)*c t s)*r s j)+-b*(adj k f t s*r s j):=aM fun s _=>by
    rw[Gc,Fq,Bm e,Bm (A t (h k)),Bc (adj k f t s) b,Bm b,Em];omega
   rw[a3,←a2,Em];omega
  rw[q3,q4,←hA t ht j,hX j,q1,q2];rw[Gz,Gc,Em,Fq,Bm (A t (h k)) b,Bc (adj k f t k*b) (r k j),Bc (su k _) b,Bc (adj k f t k*r k j) b,show b*(adj k f t k*r k j)=r k j*(adj k f t k*b) by rw[Bc (r k j),Bc (adj k f t k) b,Bm]]
  omega
 have z:=aLl (n:=k+1) (by omega) f (by rw[←D];exact e0) (γ:=ε) fun u hu=>by
  rw[←dif (h u),FH t (by omega) u hu]
  by_cases q:u=k
  · subst q
    rw[if_neg (by omega)]
    show e*A t (h u)-A t (h u)*e-0*b=0
    rw[Bc];omega
  · rw[hH t ht u (by omega),XH u (by omega),←D]
    split
    · show e*b-A t (h k)*0-e*b=0;omega
    · omega
 have:=dif j
 rw[aM (g:=fun _=>0) fun s hs=>by rw[z s hs,Ch],eI]at this
 show e*A t j-A t (h k)*X j=F t j*b
 omega
theorem rest {F:Nat->Nat->Int}{e:Int}(hX:∀ j,F k j=X j)(hF:∀ t,t<k->∀ j,e*A t j-A t (h k)*X j=F t j*b){Y y:Nat->Int}(hY:∀ j,Y j=b*y j-su k fun t=>y (h t)*A t j)(j:Nat) :
 e*Y j-Y (h k)*X j=(e*y j-su (k+1) fun t=>y (h t)*F t j)*b:=by
 have q:su k (fun t=>y (h t)*(F t j*b))=e*su k (fun t=>y (h t)*A t j)-su k (fun t=>y (h t)*A t (h k))*X j:=by
  have m1:=dC e (fun t=>y (h t)*A t j) k;have m2:=dC (-(X j)) (fun t=>y (h t)*A t (h k)) k;have a1:=gV (fun t=>e*(y (h t)*A t j)) (fun t=>-(X j)*(y (h t)*A t (h k))) k;rw[←m1,←m2]at a1
  have a2:su k (fun t=>y (h t)*(F t j*b))=su k fun t=>e*(y (h t)*A t j)+-(X j)*(y (h t)*A t (h k)):=aM fun t ht=>by
   rw[←hF t ht j,Gz,Em,←Bm,Bc (y (h t)) e,Bm,←Bm (y (h t)) (A t (h k)),Bc (X j)];omega
  rw[a2,←a1,Em,Bc (X j)];omega
 have q2:su k (fun t=>y (h t)*(F t j*b))=su k (fun t=>y (h t)*F t j)*b:=by
  rw[Bc _ b,dC];exact aM fun t _=>by rw[←Bm,Bc]
 have q3:su (k+1) (fun t=>y (h t)*F t j)=su k (fun t=>y (h t)*F t j)+y (h k)*X j:=by simp only[su];rw[hX]
 have m1:e*(b*y j)=e*y j*b:=by ac_rfl
 have m2:b*y (h k)*X j=y (h k)*X j*b:=by ac_rfl
 rw[q3,hY j,hY (h k)];rw[q2]at q;simp only[Gz,Gc,Fq];omega
end
end Be
namespace Fm
open PySem L2 Mir Hm Be
abbrev Vc:=Nat->Int
abbrev fn (r:List Int):Vc:=fun j=>r.getD j 0
structure Lat (Λ:Vc->Prop):Prop where
 lin:∀ {u v:Vc} (x y:Int),Λ u->Λ v->Λ fun j=>x*u j+y*v j
 zer:Λ fun _=>0
theorem Lat.off {Λ:Vc->Prop}(h:Lat Λ){u v:Vc}(k:Int)(hu:Λ u)(hv:Λ v):Λ fun j=>u j-v j*k:=by
 have:=h.lin 1 (-k) hu hv
 refine cast (congrArg Λ (funext fun j=>?_)) this
 rw[Fh,Em,Bc k,←Gx]
def wv (n:Nat)(ws:List Int)(x:Vc):Int:=su n fun j=>x j*ws.getD j 0
theorem wQ (n:Nat)(ws:List Int)(x y:Int)(u v:Vc):wv n ws (fun j=>x*u j+y*v j)=x*wv n ws u+y*wv n ws v:=by
 unfold wv;rw[dC,dC,gV];exact aM fun j _=>by rw[Fq,Bm,Bm]
theorem aQf (n:Nat)(ws:List Int)(k:Int)(u v:Vc):wv n ws (fun j=>u j-v j*k)=wv n ws u-wv n ws v*k:=by
 have:=wQ n ws 1 (-k) u v
 rw[show (fun j=>u j-v j*k)=(fun j=>1*u j+-k*v j) from funext fun j=>by rw[Fh,Em,Bc k,←Gx],this,Fh,Em,Bc k,←Gx]
theorem sQ (f:Nat->Int):∀ n,su (n+1) f=f 0+su n fun i=>f (i+1)
 | 0=>by simp[su]
 | n+1=>by
  rw[show su (n+1+1) f=su (n+1) f+f (n+1) from rfl,sQ f n,show su (n+1) (fun i=>f (i+1))=su n (fun i=>f (i+1))+f (n+1) from rfl,Int.add_assoc]
theorem aNe:∀ {n:Nat} {s ws:List Int},s.length=n->ws.length=n->wt s ws=wv n ws (fn s)
 | 0,[],[],_,_=>rfl
 | n+1,a :: s,b :: ws,h1,h2=>by
  have ih:=aNe (n:=n) (s:=s) (ws:=ws) (by simpa using h1) (by simpa using h2)
  unfold wv at ih ⊢;rw[sQ,show wt (a :: s) (b :: ws)=a*b+wt s ws by simp[wt],ih]
  rfl
def Gen (k:Nat)(Λ:Vc->Prop)(ss:List (List Int)):Prop:=∀ i,i<ss.length->Λ (fn (ss.getD i []))/\(∀ j,j<k+i->at2 ss i j=0)/\∀ v,Λ v->(∀ j,j<k+i->v j=0)->at2 ss i (k+i) ∣ v (k+i)
theorem Gen.tail {k:Nat}{Λ:Vc->Prop}{s:List Int}{ss:List (List Int)}(h:Gen k Λ (s :: ss)):Gen (k+1) Λ ss:=fun i hi=>by
 have:=h (i+1) (by rw[Aq];omega)
 rw[show k+(i+1)=k+1+i by omega]at this
 exact this
theorem Gen.cons {k:Nat}{Λ:Vc->Prop}{s:List Int}{ss:List (List Int)}(h0:Λ (fn s)/\(∀ j,j<k->s.getD j 0=0)/\∀ v,Λ v->(∀ j,j<k->v j=0)->s.getD k 0 ∣ v k)(h:Gen (k+1) Λ ss):Gen k Λ (s :: ss):=fun i hi=>by
 cases i with
 | zero=>exact h0
 | succ i =>
  have:=h i (by rw[Aq]at hi;omega)
  rw[show k+1+i=k+(i+1) by omega]at this
  exact this
theorem Gen.congr {k:Nat}{Λ Λ':Vc->Prop}{ss:List (List Int)}(h:Gen k Λ ss)(e:∀ v,Λ v↔Λ' v):Gen k Λ' ss:=fun i hi =>
 let ⟨a,b,c⟩:=h i hi
 ⟨(e _).mp a,b,fun v hv=>c v ((e v).mpr hv)⟩
theorem aGw {l c:Nat}{q:Int}(l0:0<l)(h:(l:Int) ∣ q*c):((l/Au c l:Nat):Int) ∣ q:=by
 have g0:0<Au c l:=Dv _ l0
 have h1:l ∣ q.natAbs*c:=by
  have:=Int.natAbs_dvd_natAbs.mpr h
  rwa [Eh,Cr,Cr]at this
 have e1:Au c l*(l/Au c l)=l:=Gj (Ja c l);have e2:Au c l*(c/Au c l)=c:=Gj (Jg c l);have h2:Au c l*(l/Au c l) ∣ Au c l*(q.natAbs*(c/Au c l)):=by rw[e1,Fi,e2];exact h1
 have h3:=Nat.dvd_of_mul_dvd_mul_left g0 h2;have cp:Nat.Coprime (l/Au c l) (c/Au c l):=(Nat.coprime_div_gcd_div_gcd g0).symm;exact Int.natAbs_dvd_natAbs.mp (by rw[Cr];exact cp.dvd_of_dvd_mul_right h3)
theorem aL7 {n whole:Nat}{ws:List Int}{Λ:Vc->Prop}(w0:0<whole)(La:Lat Λ)(wl:ws.length=n){ss told:List (List Int)}{l:Nat}{m:List Int}(h:Nar n ws whole ss told l m)(hs:∀ s∈ss,s.length=n):∀ k,k+ss.length=n->Gen k Λ ss ->
 (l:Int) ∣ whole/\0<l/\m.length=n/\Λ (fn m)/\(∀ j,j<k->m.getD j 0=0)/\(whole:Int) ∣ wv n ws (fn m)-l/\(∀ x,Λ x->(∀ j,j<k->x j=0)->(l:Int) ∣ wv n ws x)/\Gen k (fun v=>Λ v/\(whole:Int) ∣ wv n ws v) told:=by
 induction h with
 | nil =>
  intro k hk _;have z:fn (Ao n 0)=fun _=>0:=funext fun j=>by simp only[fn,Aa,Ci];split<;>rfl
  refine⟨Int.dvd_refl _,w0,Bu,by rw[z];exact La.zer,fun j _=>congrFun z j,?_,fun x _ hx=>?_,fun i hi=>absurd hi (by simp)⟩
  · rw[z]
    unfold wv;rw[aM (g:=fun _=>0) fun j _=>Ch _,eI,Int.zero_sub];exact Int.dvd_neg.mpr (Int.dvd_refl _)
  · unfold wv
    rw[aM (g:=fun _=>0) fun j hj=>by rw[hx j (by simp at hk;omega),Ch],eI]
    exact Int.dvd_zero _
 | @cons s ss told l m x y hN b ih =>
  intro k hk G;obtain⟨lw,l0,ml,mL,mz,mw,all,T⟩:=ih (fun s h=>hs s (Ae _ h)) (k+1) (by rw[Aq]at hk;omega) G.tail
  have sl:=hs s Ad;obtain⟨sL,sz,sg⟩:=G 0 (by simp)
  have sL:Λ (fn s):=sL;have sz:∀ j,j<k->s.getD j 0=0:=sz;have sg:∀ v,Λ v->(∀ j,j<k->v j=0)->s.getD k 0 ∣ v k:=sg
  have sc:(whole:Int) ∣ wv n ws (fn s)-(wgt s ws whole:Nat):=by
   rw[aNh w0,←aNe sl wl];exact⟨wt s ws/whole,by have:=Int.emod_add_mul_ediv (wt s ws) whole;omega⟩
  generalize wgt s ws whole=c at b sc ⊢
  have g0:0<Au c l:=Dv _ l0;have gl:((Au c l:Nat):Int) ∣ l:=Int.natCast_dvd_natCast.mpr (Ja c l);have gc:((Au c l:Nat):Int) ∣ c:=Int.natCast_dvd_natCast.mpr (Jg c l);have fm:fn (jK n [x,y] [s,m])=fun j=>x*s.getD j 0+y*m.getD j 0:=funext fun j=>yJ sl ml j
  have fr:fn (lQ s m l c)=fun j=>((l/Au c l:Nat):Int)*s.getD j 0+-((c/Au c l:Nat):Int)*m.getD j 0:=funext fun j=>by
   show (lQ s m l c).getD j 0=_
   rw[nL (by rw[sl,ml]),Em,Bc,Bc (m.getD j 0),Gx]
  have left:∀ v,Λ v->(∀ j,j<k->v j=0)->∃ q,v k=s.getD k 0*q/\(l:Int) ∣ wv n ws v-wv n ws (fn s)*q:=fun v hv vz=>by
   obtain⟨q,hq⟩:=sg v hv vz;refine⟨q,hq,?_⟩
   have:=all _ (La.off q hv sL) fun j hj=>by
    by_cases e:j=k
    · rw[e,hq,Int.sub_self]
    · rw[vz j (by omega),show fn s j=0 from sz j (by omega)];simp
   rwa [aQf]at this
  refine⟨Go gl lw,g0,iR fun r hr=>?_,by rw[fm];exact La.lin x y sL mL,fun j hj=>?_,?_,fun v hv vz=>?_,Gen.cons ⟨⟨by rw[fr];exact La.lin _ _ sL mL,?_⟩,fun j hj=>?_,fun v ⟨hv,vw⟩ vz=>?_⟩ T⟩
  · simp only[Ag,Bi,or_false]at hr
    rcases hr with rfl | rfl
    · exact sl
    · exact ml
  · rw[show (jK n [x,y] [s,m]).getD j 0=_ from congrFun fm j,sz j hj,mz j (by omega)];simp
  · rw[fm,wQ,b.e]
    have:x*wv n ws (fn s)+y*wv n ws (fn m)-(x*c+y*l)=x*(wv n ws (fn s)-c)+y*(wv n ws (fn m)-l):=by rw[Gz,Gz];omega
    rw[this];exact Js (Dx sc) (Dx mw)
  · obtain⟨q,_,hq⟩:=left v hv vz
    have h1:=Go gl hq
    have h2:((Au c l:Nat):Int) ∣ wv n ws (fn s):=by
     have:=Js (Go (Go gl lw) sc) gc
     rwa [Ix]at this
    have:=Js h1 (Int.dvd_mul_of_dvd_left (c:=q) h2)
    rwa [Ix]at this
  · rw[fr,wQ]
    have e:((l/Au c l:Nat):Int)*c=((c/Au c l:Nat):Int)*l:=by
     have e1:Au c l*(l/Au c l)=l:=Gj (Ja c l);have e2:Au c l*(c/Au c l)=c:=Gj (Jg c l)
     have:(l/Au c l)*c=(c/Au c l)*l:=by
      generalize Au c l=g at e1 e2 ⊢
      calc (l/g)*c=(l/g)*(g*(c/g)):=by rw[e2]
       _=(c/g)*(g*(l/g)):=by rw[Fi,Ey (c/g),Gm]
       _=(c/g)*l:=by rw[e1]
     exact_mod_cast this
    have:((l/Au c l:Nat):Int)*wv n ws (fn s)+-((c/Au c l:Nat):Int)*wv n ws (fn m)=((l/Au c l:Nat):Int)*(wv n ws (fn s)-c)-((c/Au c l:Nat):Int)*(wv n ws (fn m)-l):=by
     rw[Gz,Gz,Em];omega
    rw[this];exact Int.dvd_sub (Dx sc) (Dx mw)
  · rw[show (lQ s m l c).getD j 0=_ from congrFun fr j,sz j hj,mz j (by omega)];simp
  · obtain⟨q,vk,hq⟩:=left v hv vz
    have h1:(l:Int) ∣ wv n ws (fn s)*q:=by
     have:=Int.dvd_sub (Go lw vw) hq
     rwa [Int.sub_sub_self]at this
    have h2:(l:Int) ∣ q*c:=by
     have:=Int.dvd_sub h1 (Int.dvd_mul_of_dvd_left (c:=q) (Go lw sc))
     rw[←Gc,Int.sub_sub_self,Bc]at this;exact this
    obtain⟨z,hz⟩:=aGw l0 h2;rw[show (lQ s m l c).getD k 0=_ from congrFun fr k,mz k (by omega),Eg,Int.add_zero,vk,hz,Bc ((l/Au c l:Nat):Int) (s.getD k 0)]
    exact Int.mul_dvd_mul_left _ ⟨z,rfl⟩
theorem aH0 {n d p w:Nat}{Λ:Vc->Prop}{t:List (List Int)}(La:Lat Λ)(T:Tri n d t)(G:Gen 0 Λ t)(hp:p<w)(hw:w<n):Gen 0 Λ (hZ p t w):=fun i hi=>by
 have T':=rJ T hp hw;have hi':i<n:=by rw[←T'.tl];exact hi
 obtain⟨a,b,c⟩:=G i (by rw[T.tl];exact hi')
 have at_:=xM T (show p<n by omega) hw
 rw[Dp]at b c ⊢;refine⟨?_,fun j hj=>T'.low i j hi' hj,?_⟩
 · by_cases e:i=p
   · have:fn ((hZ p t w).getD i [])=fun j=>fn (t.getD p []) j-fn (t.getD w []) j*(at2 t p w/at2 t w w):=funext fun j=>by
      show at2 (hZ p t w) i j=_
      rw[at_,if_pos e]
     rw[this];exact La.off _ (e▸a) (G w (by rw[T.tl];exact hw)).1
   · have:fn ((hZ p t w).getD i [])=fn (t.getD i []):=funext fun j=>by
      show at2 (hZ p t w) i j=at2 t i j
      rw[at_,if_neg e]
     rw[this];exact a
 · have:at2 (hZ p t w) i i=at2 t i i:=by
    rw[at_];split
    · rename_i e;subst e;rw[T.low w i hw hp];simp
    · rfl
   rw[this];exact c
theorem aDs {n d p:Nat}{Λ:Vc->Prop}(La:Lat Λ):∀ (k w:Nat) {t:List (List Int)},Tri n d t->Gen 0 Λ t->p<w->w+k<=n->Tri n d ((Bv w k).foldl (hZ p) t)/\Gen 0 Λ ((Bv w k).foldl (hZ p) t)
 | 0,w,t,T,G,_,_=>⟨T,G⟩
 | k+1,w,t,T,G,hp,hn=>by
  rw[Dc,Ea];exact aDs La k (w+1) (rJ T hp (by omega)) (aH0 La T G hp (by omega)) (by omega) (by omega)
theorem aEl {n d:Nat}{Λ:Vc->Prop}(La:Lat Λ):∀ (p:Nat) {t:List (List Int)},Tri n d t->Gen 0 Λ t->p<=n->Gen 0 Λ (tid n p t)
 | 0,t,T,G,_=>G
 | p+1,t,T,G,hp=>by
  obtain⟨a,b⟩:=aDs La (n-(p+1)) (p+1) T G (show p<p+1 by omega) (by omega)
  exact aEl La p a b (by omega)
def Lam (r:Nat)(lines:List (List Int))(whole:Nat)(vs:List Nat)(v:Vc):Prop:=∀ w∈vs,(whole:Int) ∣ wv r (col w lines) v
theorem aDj (r:Nat)(lines:List (List Int))(whole:Nat)(vs:List Nat):Lat (Lam r lines whole vs):=by
 refine⟨fun x y hu hv w hw=>?_,fun w _=>?_⟩
 · rw[wQ];exact Js (Dx (hu w hw)) (Dx (hv w hw))
 · unfold wv
   rw[aM (g:=fun _=>0) fun j _=>Ch _,eI];exact Int.dvd_zero _
theorem aLn {r whole B:Nat}{lines sh:List (List Int)}{vs:List Nat}(w0:0<whole)(wB:whole<2^B)(ll:lines.length=r)(h:Sha r lines whole vs sh):Gen 0 (Lam r lines whole vs) sh:=by
 induction h with
 | nil =>
  intro i hi;have hi:i<r:=by simpa[iQ] using hi
  refine⟨fun w hw=>absurd hw (by simp),fun j hj=>?_,fun v _ _=>?_⟩
  · rw[lJ hi (by omega),if_neg (by omega)]
  · rw[Dp,lJ hi hi,if_pos rfl];exact Int.one_dvd _
 | @snoc vs sh told l m w hS hN ih =>
  have R:=hS.red w0 wB;have G:=(aL7 w0 (aDj r lines whole vs) (by unfold col;rw[Ab];exact ll) hN R.T.tr 0 (by rw[Dp];exact R.T.tl) ih).2.2.2.2.2.2.2
  have G':=Gen.congr (Λ':=Lam r lines whole (vs++[w])) G fun v=>⟨fun⟨a,b⟩ x hx=>by
   rcases An.mp hx with q | q
   · exact a x q
   · rw[Ap.mp q];exact b,fun q=>⟨fun x hx=>q x (Bk _ hx),q w (by simp)⟩⟩
  exact aEl (aDj r lines whole (vs++[w])) r (hN.tri w0 wB R) G' (Ah _)
theorem aL2 {r whole:Nat}{lines sh:List (List Int)}{vs:List Nat}(sl:sh.length=r)(g:Gen 0 (Lam r lines whole vs) sh){i:Nat}(hi:i<r):at2 sh i i ∣ (whole:Int):=by
 obtain⟨_,_,c⟩:=g i (by omega)
 rw[Dp]at c
 have:=c (fun j=>if j=i then (whole:Int) else 0) (fun w _=>by
  unfold wv;rw[aM (g:=fun j=>(whole:Int)*if j=i then (col w lines).getD j 0 else 0) fun j _=>by split<;>simp_all,←dC]
  exact Int.dvd_mul_right _ _) fun j hj=>if_neg (by omega)
 simpa using this
end Fm
namespace Be
open PySem L2 Mir Sm Hm
abbrev Pr:=List Int×List Int
def lA (P:List Pr)(t j:Nat):Int:=(P.getD t ([],[])).1.getD j 0
def oA (P:List Pr)(t j:Nat):Int:=(P.getD t ([],[])).2.getD j 0
theorem eJ {α:Type}{P:List α}{x d:α}{t:Nat}(h:t<P.length):(P++[x]).getD t d=P.getD t d:=by
 rw[Aa,Bl h,Aa]
theorem gM {α:Type}{P:List α}{x d:α}:(P++[x]).getD P.length d=x:=by simp[Aa]
theorem aAj {α β:Type}{P:List α}{g:α->β}{d:α}{d':β}{t:Nat}(h:t<P.length):(P.map g).getD t d'=g (P.getD t d):=by
 simp[Aa,h]
structure Bz (L:Nat)(t0:List (List Int))(s:Cs)(PA PB:List Pr):Prop where
 eq:s.t=PA.map (·.1)++PB.map (·.1)
 len:PA.length=s.hs.length
 mem:∀ p∈PA++PB,p.2∈t0/\p.1.length=L
 cov:∀ r∈t0,∃ p∈PA++PB,p.2=r
 b0:s.b≠0
 bd:s.b=eN s.hs.length fun a u=>oA PA a (s.hs.getD u 0)
 tp:∃ c:Nat->Nat->Int,∀ t,t<s.hs.length->∀ j,lA PA t j=su s.hs.length fun a=>c t a*oA PA a j
 hd:∀ t,t<s.hs.length->∀ u,u<s.hs.length->lA PA t (s.hs.getD u 0)=if t=u then s.b else 0
 ot:∀ p∈PB,∀ j,p.1.getD j 0=s.b*p.2.getD j 0-su s.hs.length fun t=>p.2.getD (s.hs.getD t 0) 0*lA PA t j
theorem yX (a b:Int)(h:b≠0):(a*b).fdiv b=a:=lX a b h
theorem Bz.step {L:Nat}{t0:List (List Int)}{s:Cs}{PA PB:List Pr}(Z:Bz L t0 s PA PB){w:Nat}(h5:s.hs.length<5):∃ PA' PB',Bz L t0 (eG s w) PA' PB':=by
 rcases jJ s w (PA.map (·.1)) (PB.map (·.1)) Z.eq (by rw[Ab];exact Z.len) with ⟨_,e⟩ | ⟨B1',x',B2',hB,h0,e⟩
 · rw[e];exact⟨PA,PB,Z⟩
 · obtain⟨B1,B3,eB,e1,e3⟩:=List.map_eq_append_iff.mp hB
   obtain⟨x,B2,eB3,ex,e2⟩:=List.map_eq_cons_iff.mp e3;subst eB3;subst eB;subst e1;subst ex;subst e2;have ln:=Z.len;have mx:=Z.mem x (by simp)
   obtain⟨c,tp⟩:=Z.tp;let h:Nat->Nat:=fun u=>(s.hs++[w]).getD u 0
   let r:Nat->Nat->Int:=oA (PA++[x])
   have hlt:∀ u,u<s.hs.length->h u=s.hs.getD u 0:=fun u hu=>eJ hu;have hk:h s.hs.length=w:=gM;have rlt:∀ a,a<s.hs.length->∀ j,r a j=oA PA a j:=fun a ha j=>by show ((PA++[x]).getD a ([],[])).2.getD j 0=_;rw[eJ (by omega)];rfl
   have rk:∀ j,r s.hs.length j=x.2.getD j 0:=fun j=>by show ((PA++[x]).getD s.hs.length ([],[])).2.getD j 0=_;rw[←ln,gM]
   have bd:s.b=eN s.hs.length fun a u=>r a (h u):=by
    rw[Z.bd];exact gP fun a u ha hu=>by rw[rlt a ha,hlt u hu]
   have hA:∀ t,t<s.hs.length->∀ j,lA PA t j=su s.hs.length fun a=>c t a*r a j:=fun t ht j=>by
    rw[tp t ht j];exact aM fun a ha=>by rw[rlt a ha]
   have hH:∀ t,t<s.hs.length->∀ u,u<s.hs.length->lA PA t (h u)=if t=u then s.b else 0:=fun t ht u hu=>by rw[hlt u hu];exact Z.hd t ht u hu
   have hX:∀ j,x.1.getD j 0=s.b*r s.hs.length j-su s.hs.length fun t=>r s.hs.length (h t)*lA PA t j:=fun j=>by
    rw[Z.ot x (by simp) j,rk]
    congr 1
    exact aM fun t ht=>by rw[rk,hlt t ht]
   obtain⟨F,f1,f2,f3,f4,f5⟩:=Be.step (k:=s.hs.length) (r:=r) (h:=h) (A:=lA PA) (c:=c) (b:=s.b) (X:=fun j=>x.1.getD j 0) h5 bd Z.b0 hA hH hX (by show x.1.getD (h s.hs.length) 0≠0;rw[hk];exact h0)
   have f1:x.1.getD w 0=eN (s.hs.length+1) (fun s u=>r s (h u)):=by rw[←f1];show _=x.1.getD (h s.hs.length) 0;rw[hk]
   have f4:∀ t,t<s.hs.length+1->∀ u,u<s.hs.length+1->F t (h u)=if t=u then x.1.getD w 0 else 0:=fun t ht u hu=>by rw[f4 t ht u hu];show (if t=u then x.1.getD (h s.hs.length) 0 else 0)=_;rw[hk]
   have f5:∀ t,t<s.hs.length->∀ j,x.1.getD w 0*lA PA t j-lA PA t w*x.1.getD j 0=F t j*s.b:=fun t ht j=>by
    have:=f5 t ht j
    rw[hk]at this;exact this
   let sw:Pr->Pr:=fun p=>(swr x.1 p.1 w s.b,p.2)
   have swl:∀ p:Pr,p∈PA++(B1++x :: B2)->(sw p).1.length=L/\∀ j,(sw p).1.getD j 0=(x.1.getD w 0*p.1.getD j 0-p.1.getD w 0*x.1.getD j 0).fdiv s.b:=fun p hp=>by
    have l:=(Z.mem p hp).2;refine⟨by show (swr x.1 p.1 w s.b).length=L;rw[aDy,l,mx.2,Jk],fun j=>tY (by rw[l,mx.2]) j⟩
   have PAm:∀ t,t<s.hs.length->PA.getD t ([],[])∈PA++(B1++x :: B2):=fun t ht=>Bk _ (Mir.bA (by omega))
   have lN:∀ t,t<s.hs.length+1->∀ j,lA (PA.map sw++[x]) t j=F t j:=fun t ht j=>by
    show ((PA.map sw++[x]).getD t ([],[])).1.getD j 0=F t j
    by_cases q:t<s.hs.length
    · rw[eJ (by rw[Ab];omega),aAj (d:=([],[])) (by omega),(swl _ (PAm t q)).2 j]
      show (x.1.getD w 0*lA PA t j-lA PA t w*x.1.getD j 0).fdiv s.b=_
      rw[f5 t q j,yX _ _ Z.b0]
    · have:t=(PA.map sw).length:=by rw[Ab];omega
      rw[this,gM,Ab,ln];exact(f2 j).symm
   have oN:∀ t,t<s.hs.length+1->∀ j,oA (PA.map sw++[x]) t j=r t j:=fun t ht j=>by
    show ((PA.map sw++[x]).getD t ([],[])).2.getD j 0=((PA++[x]).getD t ([],[])).2.getD j 0
    by_cases q:t<s.hs.length
    · rw[eJ (by rw[Ab];omega),aAj (d:=([],[])) (by omega),eJ (by omega)]
    · rw[show t=(PA.map sw).length by rw[Ab];omega,gM,Ab,gM]
   have hl:(s.hs++[w]).length=s.hs.length+1:=by rw[Al,Bn]
   rw[e];refine⟨PA.map sw++[x],(B1++B2).map sw,⟨?_,?_,fun p hp=>?_,fun r hr=>?_,h0,?_,⟨adj s.hs.length fun s u=>r s (h u),fun t ht j=>?_⟩,fun t ht u hu=>?_,fun p hp j=>?_⟩⟩
   · simp[Cn,Function.comp_def,sw]
   · show (PA.map sw++[x]).length=(s.hs++[w]).length
     rw[Al,Ab,Bn,hl,ln]
   · have big:∀ q,q∈PA++(B1++x :: B2)->(sw q).2∈t0/\(sw q).1.length=L:=fun q hq=>⟨(Z.mem q hq).1,(swl q hq).1⟩
     rcases An.mp hp with hp | hp
     · rcases An.mp hp with hp | hp
       · obtain⟨q,hq,rfl⟩:=Ai.mp hp
         exact big q (Bk _ hq)
       · rw[Ap.mp hp];exact mx
     · obtain⟨q,hq,rfl⟩:=Ai.mp hp
       refine big q (Ak _ ?_)
       simp only[An,Ag]at hq ⊢;exact hq.imp id .inr
   · obtain⟨p,hp,e⟩:=Z.cov r hr
     rcases An.mp hp with h | h
     · exact⟨sw p,Bk _ (Bk _ (Ex h)),e⟩
     · rcases An.mp h with h | h
       · exact⟨sw p,Ak _ (Ex (Bk _ h)),e⟩
       · rcases Ag.mp h with h | h
         · exact⟨x,Bk _ (Ak _ (by simp)),h▸e⟩
         · exact⟨sw p,Ak _ (Ex (Ak _ h)),e⟩
   · show x.1.getD w 0=eN (s.hs++[w]).length fun a u=>oA (PA.map sw++[x]) a ((s.hs++[w]).getD u 0)
     rw[hl,f1];exact gP fun a u ha hu=>(oN a ha _).symm
   · have ht:t<s.hs.length+1:=by rw[←hl];exact ht
     show lA (PA.map sw++[x]) t j=su (s.hs++[w]).length fun a=>adj s.hs.length (fun s u=>r s (h u)) t a*oA (PA.map sw++[x]) a j
     rw[lN t ht,f3 t ht j,hl];exact aM fun a ha=>by rw[oN a ha]
   · have ht:t<s.hs.length+1:=by rw[←hl];exact ht
     have hu:u<s.hs.length+1:=by rw[←hl];exact hu
     rw[lN t ht];exact f4 t ht u hu
   · obtain⟨q,hq,rfl⟩:=Ai.mp hp
     have qm:q∈B1++x :: B2:=by
      simp only[An,Ag]at hq ⊢;exact hq.imp id .inr
     have rs:=rest (k:=s.hs.length) (h:=h) (A:=lA PA) (b:=s.b) (X:=fun j=>x.1.getD j 0) (F:=F) (e:=x.1.getD w 0) f2 (fun t ht j=>by rw[hk];exact f5 t ht j) (Y:=fun j=>q.1.getD j 0) (y:=fun j=>q.2.getD j 0) (fun j=>by
      rw[Z.ot q qm j];congr 1
      exact aM fun t ht=>by rw[hlt t ht]) j
     simp only[hk]at rs;rw[(swl q (Ak _ qm)).2 j,rs,yX _ _ Z.b0];show x.1.getD w 0*q.2.getD j 0-_=x.1.getD w 0*q.2.getD j 0-_
     rw[show (Cs.mk (((PA.map (·.1)).map fun r=>swr x.1 r w s.b)++x.1 :: ((B1.map (·.1))++(B2.map (·.1))).map fun r=>swr x.1 r w s.b) (s.hs++[w]) (x.1.getD w 0)).hs.length=s.hs.length+1 from hl]
     congr 1
     exact aM fun t ht=>by rw[lN t ht]
def Zr (w:Nat)(s:Cs):Prop:=∀ l∈s.t.drop s.hs.length,∀ j,j<w->l.getD j 0=0
theorem Zr.step {L w:Nat}{s:Cs}(Z:Zr w s)(hl:s.hs.length<=s.t.length)(hr:∀ r∈s.t,r.length=L):Zr (w+1) (eG s w):=by
 have sp:s.t=s.t.take s.hs.length++s.t.drop s.hs.length:=(En _ _).symm;have tl:(s.t.take s.hs.length).length=s.hs.length:=by rw[Bj];omega
 rcases jJ s w _ _ sp tl with ⟨h,e⟩ | ⟨B1,x,B2,hB,h0,e⟩
 · rw[e]
   intro l hm j hj;by_cases q:j=w
   · rw[q];exact h l hm
   · exact Z l hm j (by omega)
 · rw[e]
   intro l hm j hj
   have dr:(⟨(s.t.take s.hs.length).map (fun r=>swr x r w s.b)++x :: (B1++B2).map (fun r=>swr x r w s.b),s.hs++[w],x.getD w 0⟩:Cs).t.drop (s.hs++[w]).length=(B1++B2).map (fun r=>swr x r w s.b):=by
    show ((s.t.take s.hs.length).map (fun r=>swr x r w s.b)++x :: (B1++B2).map (fun r=>swr x r w s.b)).drop (s.hs++[w]).length=_
    rw[Al,Bn,Ji,Hj (by rw[Ab,tl];omega),Ab,tl,Nat.add_sub_cancel_left]
    rfl
   rw[show (⟨(s.t.take s.hs.length).map (fun r=>swr x r w s.b)++x :: (B1++B2).map (fun r=>swr x r w s.b),s.hs++[w],x.getD w 0⟩:Cs).hs.length=(s.hs++[w]).length from rfl,dr]at hm
   obtain⟨q,hq,rfl⟩:=Ai.mp hm
   have inB:∀ q,q∈B1++B2\/q=x->q∈s.t.drop s.hs.length:=fun q hq=>by
    rw[hB];simp only[An,Ag]at hq ⊢;rcases hq with (h | h) | h
    · exact .inl h
    · exact .inr (.inr h)
    · exact .inr (.inl h)
   have lq:=hr q (Di (inB q (.inl hq)));have lx:=hr x (Di (inB x (.inr rfl)));rw[tY (by rw[lq,lx])]
   by_cases z:j=w
   · rw[z,Bc,Int.sub_self];simp
   · rw[Z q (inB q (.inl hq)) j (by omega),Z x (inB x (.inr rfl)) j (by omega)];simp
def Up (w:Nat)(s:Cs):Prop:=s.hs.Pairwise (·<·)/\∀ h∈s.hs,h<w
theorem Up.step {w:Nat}{s:Cs}(U:Up w s):Up (w+1) (eG s w):=by
 unfold eG;cases fnd s.t s.hs.length w with
 | nil=>exact⟨U.1,fun h hh=>by have:=U.2 h hh;omega⟩
 | cons p r =>
  refine⟨Hx.mpr ⟨U.1,List.pairwise_singleton _ _,fun a ha b hb=>by rw[Ap.mp hb];exact U.2 a ha⟩,fun h hh=>?_⟩
  rcases An.mp hh with q | q
  · have:=U.2 h q;omega
  · rw[Ap.mp q];omega
theorem aAm {m L N:Nat}(hL:L<=L){t0:List (List Int)}:∀ (j k:Nat) (s:Cs),Ok m L N k s->k+j<=L->k+j<=5->(∃ PA PB,Bz L t0 s PA PB)->Zr k s->Up k s ->
 (∃ PA PB,Bz L t0 ((Bv k j).foldl eG s) PA PB)/\Zr (k+j) ((Bv k j).foldl eG s)/\Up (k+j) ((Bv k j).foldl eG s)
 | 0,k,s,_,_,_,b,z,u=>⟨b,z,u⟩
 | j+1,k,s,o,h,h5,⟨PA,PB,b⟩,z,u=>by
  rw[Dc,Ea,show k+(j+1)=k+1+j by omega]
  have hk:=o.hk;exact aAm hL j (k+1) _ (o.step (by omega)) (by omega) (by omega) (b.step (by omega)) (z.step (by rw[o.len];exact o.hm) o.row) u.step
theorem aDv {L N n:Nat}{t:List (List Int)}(hr:∀ r∈t,r.length=L)(hn:n<=L)(n5:n<=5)(hN:0<N)(hB:BN N t):(∃ PA PB,Bz L t (clr t n) PA PB)/\Zr n (clr t n)/\Up n (clr t n):=by
 have o0:Ok t.length L N 0 ⟨t,[],1⟩:=⟨rfl,hr,Ah _,De _,fun h q=>absurd q (by simp),(show (1:Int)≠0 by decide),by
  show (1:Nat)<2^N
  exact Af (by decide) (iA (show 1<=N from hN)),hB⟩
 have b0:Bz L t ⟨t,[],1⟩ [] (t.map fun r=>(r,r)):=by
  refine⟨by simp[Function.comp_def],rfl,fun p hp=>?_,fun r hr=>⟨(r,r),Ak _ (Ai.mpr ⟨r,hr,rfl⟩),rfl⟩,show (1:Int)≠0 by decide,rfl,⟨fun _ _=>0,fun t ht=>absurd ht (by simp)⟩,fun t ht=>absurd ht (by simp),fun p hp j=>?_⟩
  · rw[Dz]at hp
    obtain⟨q,hq,rfl⟩:=Ai.mp hp;exact⟨hq,hr q hq⟩
  · obtain⟨q,hq,rfl⟩:=Ai.mp hp
    show q.getD j 0=1*q.getD j 0-0
    omega
 have:=aAm (Ah L) n 0 ⟨t,[],1⟩ o0 (by omega) (by omega) ⟨_,_,b0⟩ (fun l _ j hj=>absurd hj (by omega)) ⟨Ej,fun h hh=>absurd hh (by simp)⟩
 rw[Dp]at this;unfold clr;rw[Ee];exact this
end Be
namespace Be
open PySem L2 Mir Sm Hm
theorem aJb {g:Nat->Int}{B:Nat}:∀ {n:Nat},(∀ i,i<n->(g i).natAbs<=B)->(su n g).natAbs<=n*B
 | 0,_=>by simp[su]
 | n+1,h=>by
  have a:=aJb (n:=n) fun i hi=>h i (by omega)
  have b:=h n (by omega)
  have e:(n+1)*B=n*B+B:=Fs n B;show (su n g+g n).natAbs<=_
  have:=Je (su n g) (g n)
  omega
theorem aNk (k:Nat):(sgn k).natAbs=1:=by unfold sgn;omega
def fac:Nat->Nat
 | 0=>1
 | n+1=>(n+1)*fac n
theorem aAx {a b:Int}{A B:Nat}(h1:a.natAbs<=A)(h2:b.natAbs<=B):(a*b).natAbs<=A*B:=by rw[Eh];exact Hd h1 h2
theorem aBj {N:Nat}:∀ {n:Nat} {f:Nat->Nat->Int},n<=5->(∀ i j,(f i j).natAbs<=2^N)->(eN n f).natAbs<=fac n*2^(n*N)
 | 0,f,_,_=>by
  have:eN 0 f=1:=rfl
  rw[this];simp[fac]
 | n+1,f,hn,h=>by
  have e:=aN9 (n:=n) (by omega) f (i:=0) (k:=0) (by omega) (by omega)
  rw[if_pos rfl]at e;rw[←e]
  have b:∀ j,j<n+1->(f 0 j*adj n f j 0).natAbs<=2^N*(fac n*2^(n*N)):=fun j _=>by
   refine aAx (h 0 j) ?_
   unfold adj;rw[Eh,aNk,Nat.one_mul];exact aBj (by omega) fun _ _=>h _ _
  refine Bp (aJb b) (Jl ?_)
  rw[show (n+1)*N=N+n*N by rw[Fs,Hc],Gy]
  show _=(n+1)*fac n*_
  simp only[Gm,Fi]
theorem aSe {N n:Nat}{f:Nat->Nat->Int}(hn:n<=5)(h:∀ i j,(f i j).natAbs<=2^N)(t s:Nat):(adj n f t s).natAbs<=fac n*2^(n*N):=by
 unfold adj;rw[Eh,aNk,Nat.one_mul];exact aBj hn fun _ _=>h _ _
theorem aUz:∀ {n:Nat},n<=5->fac n<2^7:=by decide
theorem aRm:∀ {n:Nat},n<=5->fac (n+1)<2^10:=by decide
theorem aGu {N:Nat}{r:List Int}(h:BR N r)(j:Nat):(r.getD j 0).natAbs<=2^N:=by
 rw[Aa];cases e:r[j]? with
 | none=>simp
 | some x=>exact Gh (h x (Dj e))
section
variable {L N:Nat}{t0:List (List Int)}{s:Cs}{PA PB:List Pr}(Z:Bz L t0 s PA PB)(h5:s.hs.length<=5)(hB:BN N t0)
include Z hB
theorem aQ6 (a j:Nat):(oA PA a j).natAbs<=2^N:=by
 unfold oA;rw[Aa (l:=PA)];cases e:PA[a]? with
 | none=>simp
 | some p=>exact aGu (hB _ (Z.mem p (Bk _ (Dj e))).1) j
include h5
theorem aTg:s.b.natAbs<=fac s.hs.length*2^(s.hs.length*N):=by
 rw[Z.bd];exact aBj h5 fun i j=>aQ6 Z hB i _
theorem aNu {t:Nat}(ht:t<s.hs.length)(j:Nat):(lA PA t j).natAbs<=fac s.hs.length*2^(s.hs.length*N):=by
 obtain⟨c,hc⟩:=Z.tp;have hd:=Z.hd;have bd:=Z.bd;have b0:=Z.b0;rw[hc t ht j];generalize s.hs.length=K at *
 obtain⟨k,rfl⟩:∃ k,K=k+1:=⟨K-1,by omega⟩
 have ca:∀ a,a<k+1->c t a=adj k (fun a u=>oA PA a (s.hs.getD u 0)) t a:=fun a ha=>by
  have:=aLl (n:=k+1) h5 (fun a u=>oA PA a (s.hs.getD u 0)) (by rw[←bd];exact b0) (γ:=fun a=>c t a-adj k (fun a u=>oA PA a (s.hs.getD u 0)) t a) (fun u hu=>by
   have e1:=hd t ht u hu;rw[hc t ht]at e1;have e2:=aN8 (n:=k) (by omega) (fun a u=>oA PA a (s.hs.getD u 0)) ht hu
   rw[←bd]at e2
   have e3:su (k+1) (fun a=>(c t a-adj k (fun a u=>oA PA a (s.hs.getD u 0)) t a)*oA PA a (s.hs.getD u 0))+su (k+1) (fun a=>adj k (fun a u=>oA PA a (s.hs.getD u 0)) t a*oA PA a (s.hs.getD u 0))=su (k+1) fun a=>c t a*oA PA a (s.hs.getD u 0):=by
    rw[gV];refine aM fun a _=>?_
    rw[←Fq];congr 1
    omega
   rw[e2,e1]at e3;show su (k+1) (fun a=>(c t a-adj k (fun a u=>oA PA a (s.hs.getD u 0)) t a)*oA PA a (s.hs.getD u 0))=0
   split at e3<;>omega) a ha
  have q:c t a-adj k (fun a u=>oA PA a (s.hs.getD u 0)) t a=0:=this;omega
 refine Bp (aJb (B:=fac k*2^(k*N)*2^N) fun a ha=>?_) (Jl ?_)
 · rw[ca a ha]
   exact aAx (aSe (by omega) (fun i j=>aQ6 Z hB i _) t a) (aQ6 Z hB a j)
 · rw[show (k+1)*N=k*N+N by rw[Fs],Gy]
   show _=(k+1)*fac k*_
   simp only[Gm,Fi]
theorem aTq {p:Pr}(hp:p∈PB)(j:Nat):(p.1.getD j 0).natAbs<=fac (s.hs.length+1)*2^((s.hs.length+1)*N):=by
 rw[Z.ot p hp j];have pb:∀ j,(p.2.getD j 0).natAbs<=2^N:=aGu (hB _ (Z.mem p (Ak _ hp)).1);have a:=aAx (aTg Z h5 hB) (pb j);have b:=aJb (n:=s.hs.length) (g:=fun t=>p.2.getD (s.hs.getD t 0) 0*lA PA t j) (B:=2^N*(fac s.hs.length*2^(s.hs.length*N))) fun t ht=>aAx (pb _) (aNu Z h5 hB ht j)
 have e:fac (s.hs.length+1)*2^((s.hs.length+1)*N)=fac s.hs.length*2^(s.hs.length*N)*2^N+s.hs.length*(2^N*(fac s.hs.length*2^(s.hs.length*N))):=by
  rw[show (s.hs.length+1)*N=s.hs.length*N+N by rw[Fs],Gy]
  show (s.hs.length+1)*fac s.hs.length*_=_
  simp only[Fs,Nat.add_mul,Gm,Fi,Ey];omega
 have:=Int.natAbs_sub_le (s.b*p.2.getD j 0) (su s.hs.length fun t=>p.2.getD (s.hs.getD t 0) 0*lA PA t j)
 omega
theorem aOg:s.b.natAbs<2^(s.hs.length*N+7)/\BN (s.hs.length*N+7) (PA.map (·.1))/\BN ((s.hs.length+1)*N+10) (PB.map (·.1)):=by
 have c7:fac s.hs.length*2^(s.hs.length*N)<2^(s.hs.length*N+7):=by
  rw[Gy,Ey];exact Nat.mul_lt_mul_of_pos_left (aUz h5) (Dl _)
 have c10:fac (s.hs.length+1)*2^((s.hs.length+1)*N)<2^((s.hs.length+1)*N+10):=by
  rw[Gy,Ey];exact Nat.mul_lt_mul_of_pos_left (aRm h5) (Dl _)
 refine⟨Cg (aTg Z h5 hB) c7,fun r hr x hx=>?_,fun r hr x hx=>?_⟩
 · obtain⟨p,hp,rfl⟩:=Ai.mp hr
   obtain⟨t,ht,e⟩:=Bg.mp hp;obtain⟨j,hj,e2⟩:=Bg.mp hx;have q:=aNu Z h5 hB (t:=t) (by rw[←Z.len];exact ht) j
   unfold lA at q;rw[Aa (l:=PA),Ac ht,Eb,e,Aa,Ac hj,Eb,e2]at q;omega
 · obtain⟨p,hp,rfl⟩:=Ai.mp hr
   obtain⟨j,hj,e2⟩:=Bg.mp hx;have q:=aTq Z h5 hB hp j;rw[Aa,Ac hj,Eb,e2]at q;omega
end
end Be
namespace Be
open PySem L2 Mir Sm Hm
theorem aO2 {M:Nat}{t:List (List Int)}(h:BN M t):BN M (nH t):=fun r hr x hx=>by
 obtain⟨q,hq,rfl⟩:=xP hr;obtain⟨y,hy,rfl⟩:=Ai.mp hx;rw[Iv];exact h q hq y hy
theorem BN.up {M M':Nat}{t:List (List Int)}(h:BN M t)(hM:M<=M'):BN M' t:=fun r hr x hx=>Af (h r hr x hx) (iA hM)
theorem aTr {L n N M:Nat}{t:List (List Int)}(o:Ok t.length L N n (clr t n))(h1:(clr t n).b.natAbs<2^M)(h2:BN M (clr t n).t):Cl t.length L n M (dA t n):=by
 have C:=aMw o (Ah _);refine⟨C.len,C.row,C.hm,C.lt,C.b0,?_,?_⟩<;>unfold dA<;>split
 · show (-(clr t n).b).natAbs<_
   rw[Iv];exact h1
 · exact h1
 · exact aO2 h2
 · exact h2
section
variable {L n N:Nat}{t:List (List Int)}(hr:∀ r∈t,r.length=L)(hn:n<=L)(n5:n<=5)(hN:0<N)(hB:BN N t)(o:Ok t.length L N n (clr t n))
include hr hn n5 hN hB o
theorem aK2 {M:Nat}(hL:L=n)(hM:n*N+7<=M):Cl t.length L n M (dA t n):=by
 obtain⟨⟨PA,PB,Z⟩,zr,_⟩:=aDv hr hn n5 hN hB;obtain⟨a,b,c⟩:=aOg Z (Bp o.hk n5) hB;have m0:(clr t n).hs.length*N<=n*N:=Fk N o.hk;refine aTr o (Af a (iA (by omega))) ?_
 have row:=o.row;unfold Zr at zr;rw[Z.eq,Ie (by rw[Ab,Z.len];exact Ah _),El (by rw[Ab,Z.len];exact Ah _),Dz]at zr
 rw[Z.eq]at row ⊢;intro r h;rcases An.mp h with h | h
 · exact BN.up b (by omega) r h
 · intro x hx
   obtain⟨j,hj,e⟩:=Bg.mp hx;have:=zr r h j (by rw[row r (Ak _ h)]at hj;omega)
   rw[Aa,Ac hj,Eb,e]at this;rw[this];exact Dl _
end
end Be
namespace Fm
open PySem L2 Mir Hm Be
inductive In (n:Nat) (t:List (List Int)):Vc->Prop
 | row {r:List Int} {u:Vc}:r∈t->(∀ j,j<n->u j=r.getD j 0)->In n t u
 | zer {u:Vc}:(∀ j,j<n->u j=0)->In n t u
 | lin {u v w:Vc} (d x y:Int):In n t u->In n t v->d≠0->(∀ j,j<n->d*w j=x*u j+y*v j)->In n t w
theorem In.of {n:Nat}{t t':List (List Int)}(h:∀ r∈t,In n t' (fn r)){u:Vc}(hu:In n t u):In n t' u:=by
 induction hu with
 | row hr e=>exact .lin 1 1 0 (h _ hr) (h _ hr) (by decide) fun j hj=>by rw[e j hj];simp
 | zer e=>exact .zer e
 | lin d x y _ _ h0 e i1 i2=>exact .lin d x y i1 i2 h0 e
theorem In.sum {n:Nat}{t:List (List Int)}{c:Nat->Int}{f:Nat->Vc}:∀ {k:Nat},(∀ i,i<k->In n t (f i))->In n t fun j=>su k fun i=>c i*f i j:=fun {k} h=>by
 induction k with
 | zero=>exact .zer fun j _=>rfl
 | succ k ih =>
  refine .lin 1 1 (c k) (ih fun i hi=>h i (by omega)) (h k (by omega)) (by decide) fun j _=>?_
  show 1*(su k (fun i=>c i*f i j)+c k*f k j)=1*su k (fun i=>c i*f i j)+c k*f k j
  omega
def Mb (n:Nat)(s:Cs)(u:Vc):Prop:=∀ j,j<n->s.b*u j=su s.hs.length fun i=>u (s.hs.getD i 0)*at2 s.t i j
structure Gd (n:Nat)(t:List (List Int))(s:Cs):Prop where
 b0:s.b≠0
 up:Up n s
 hd:∀ i,i<s.hs.length->∀ u,u<s.hs.length->at2 s.t i (s.hs.getD u 0)=if i=u then s.b else 0
 ec:∀ i,i<s.hs.length->∀ j,j<s.hs.getD i 0->at2 s.t i j=0
 inn:∀ i,i<s.hs.length->In n t (fn (s.t.getD i []))
 row:∀ r∈t,Mb n s (fn r)
section
variable {n:Nat}{t:List (List Int)}{s:Cs}
theorem Gd.ht (G:Gd n t s){i:Nat}(hi:i<s.hs.length):s.hs.getD i 0<n:=G.up.2 _ (Mir.bA hi)
theorem Mb.lin (G:Gd n t s){u v w:Vc}{d x y:Int}(hu:Mb n s u)(hv:Mb n s v)(h0:d≠0)(e:∀ j,j<n->d*w j=x*u j+y*v j):Mb n s w:=fun j hj=>by
 refine Int.eq_of_mul_eq_mul_left h0 ?_
 rw[Fj,e j hj,Hw,Fj,Fj s.b,hu j hj,hv j hj,dC,dC,dC,gV];refine aM fun i hi=>?_
 rw[←Bm d,e _ (G.ht hi),Fq,Bm,Bm]
theorem Gd.mb (G:Gd n t s){u:Vc}(h:In n t u):Mb n s u:=by
 induction h with
 | @row r u hr e=>exact Mb.lin G (d:=1) (x:=1) (y:=0) (G.row _ hr) (G.row _ hr) (by decide) fun j hj=>by rw[e j hj];simp
 | @zer u e=>exact fun j hj=>by rw[e j hj,Eg,aM (g:=fun _=>0) fun i hi=>by rw[e _ (G.ht hi),Ch],eI]
 | lin d x y _ _ h0 e i1 i2=>exact Mb.lin G i1 i2 h0 e
theorem Gd.back (G:Gd n t s){u:Vc}(h:Mb n s u):In n t u:=by
 have I:=In.sum (n:=n) (t:=t) (c:=fun i=>u (s.hs.getD i 0)) (f:=fun i=>fn (s.t.getD i [])) (k:=s.hs.length) G.inn;exact .lin s.b 1 0 I I G.b0 fun j hj=>by rw[h j hj];simp[at2]
end
def Ec (s:Cs):Prop:=∀ i,i<s.hs.length->∀ j,j<s.hs.getD i 0->at2 s.t i j=0
theorem Ec.step {L w:Nat}{s:Cs}(E:Ec s)(Z:Zr w s)(U:Up w s)(hl:s.hs.length<=s.t.length)(hr:∀ r∈s.t,r.length=L):Ec (eG s w):=by
 have sp:s.t=s.t.take s.hs.length++s.t.drop s.hs.length:=(En _ _).symm;have tl:(s.t.take s.hs.length).length=s.hs.length:=by rw[Bj];omega
 rcases jJ s w _ _ sp tl with ⟨h,e⟩ | ⟨B1,x,B2,hB,h0,e⟩
 · rw[e];exact E
 · rw[e]
   intro i hi j hj;have xm:x∈s.t.drop s.hs.length:=by rw[hB];simp
   have xz:∀ j,j<w->x.getD j 0=0:=Z x xm;have hi:i<s.hs.length+1:=by simpa using hi
   have hj:j<(s.hs++[w]).getD i 0:=hj;show ((((s.t.take s.hs.length).map fun r=>swr x r w s.b)++x :: (B1++B2).map fun r=>swr x r w s.b).getD i []).getD j 0=0
   by_cases q:i<s.hs.length
   · rw[eJ q]at hj
     have m:s.t.getD i []∈s.t:=Mir.bA (by omega)
     have:(((s.t.take s.hs.length).map fun r=>swr x r w s.b)++x :: (B1++B2).map fun r=>swr x r w s.b).getD i []=swr x (s.t.getD i []) w s.b:=by
      rw[Aa,Bl (by rw[Ab,tl];exact q),Ax,Dw q,Aa,Ac (by omega)]
      rfl
     have jw:j<w:=Ez hj (U.2 _ (Mir.bA q));rw[this,tY (by rw[hr _ m,hr _ (Di xm)]),show (s.t.getD i []).getD j 0=0 from E i q j hj,xz j jw]
     simp
   · have q:i=s.hs.length:=by omega
     subst q;rw[gM]at hj
     have:(((s.t.take s.hs.length).map fun r=>swr x r w s.b)++x :: (B1++B2).map fun r=>swr x r w s.b).getD s.hs.length []=x:=by
      rw[Aa,Bb (by rw[Ab,tl];exact Ah _),Ab,tl,Jj]
      rfl
     rw[this];exact xz j hj
theorem aEy {m L N:Nat}:∀ (j k:Nat) (s:Cs),Ok m L N k s->k+j<=L->Zr k s->Up k s->Ec s->Ec ((Bv k j).foldl eG s)
 | 0,k,s,_,_,_,_,e=>e
 | j+1,k,s,o,h,z,u,e=>by
  rw[Dc,Ea];exact aEy j (k+1) _ (o.step (by omega)) (by omega) (z.step (by rw[o.len];exact o.hm) o.row) u.step (e.step z u (by rw[o.len];exact o.hm) o.row)
theorem aPz {L N n:Nat}{t:List (List Int)}(hr:∀ r∈t,r.length=L)(hn:n<=L)(hN:0<N)(hB:BN N t):Ec (clr t n):=by
 have o0:Ok t.length L N 0 ⟨t,[],1⟩:=⟨rfl,hr,Ah _,De _,fun h q=>absurd q (by simp),(show (1:Int)≠0 by decide),by
  show (1:Nat)<2^N
  exact Af (by decide) (iA (show 1<=N from hN)),hB⟩
 have:=aEy n 0 ⟨t,[],1⟩ o0 (by omega) (fun l _ j hj=>absurd hj (by omega)) ⟨Ej,fun h hh=>absurd hh (by simp)⟩ fun i hi=>absurd hi (by simp)
 unfold clr;rw[Ee];exact this
theorem aO8 {L N n:Nat}{t:List (List Int)}(hr:∀ r∈t,r.length=L)(hn:n<=L)(n5:n<=5)(hN:0<N)(hB:BN N t):Gd n t (clr t n):=by
 obtain⟨⟨PA,PB,Z⟩,zr,up⟩:=aDv hr hn n5 hN hB;have ec:=aPz hr hn hN hB;generalize clr t n=s at Z zr up ec
 have ln:=Z.len
 have k5:s.hs.length<=5:=by
  have:=List.Nodup.length_le_of_subset (l₁:=s.hs) (l₂:=Bf n) (up.1.imp fun h=>Cb h) fun x hx=>Bo.mpr (up.2 x hx)
  rw[Df]at this;omega
 have la:∀ i,i<s.hs.length->∀ j,at2 s.t i j=lA PA i j:=fun i hi j=>by
  show _=((PA.getD i ([],[])).1).getD _ 0
  unfold at2;congr 1
  rw[Z.eq,Aa,Bl (by rw[Ab];omega),Ax,Aa,Ac (by omega)]
  rfl
 obtain⟨c,tp⟩:=Z.tp;have oin:∀ a,a<s.hs.length->In n t fun j=>oA PA a j:=fun a ha=>.row (Z.mem _ (Bk _ (Mir.bA (d:=([],[])) (by omega)))).1 fun j _=>rfl
 refine⟨Z.b0,up,fun i hi u hu=>by rw[la i hi];exact Z.hd i hi u hu,ec,fun i hi=>?_,fun r hr'=>?_⟩
 · have:=In.sum (n:=n) (t:=t) (c:=c i) (f:=fun a=>fun j=>oA PA a j) (k:=s.hs.length) oin
   exact .lin 1 1 0 this this (by decide) fun j hj=>by
    show 1*at2 s.t i j=_
    rw[la i hi,tp i hi j];simp
 · obtain⟨p,hp,rfl⟩:=Z.cov r hr'
   intro j hj;rcases An.mp hp with h | h
   · obtain⟨a,ha,rfl⟩:=Bg.mp h
     have ea:∀ j,(PA[a].2).getD j 0=oA PA a j:=fun j=>by
      unfold oA;rw[Aa (l:=PA),Ac ha];rfl
     show s.b*(PA[a].2).getD j 0=su s.hs.length fun i=>(PA[a].2).getD (s.hs.getD i 0) 0*at2 s.t i j
     rw[ea,aM (g:=fun i=>oA PA a (s.hs.getD i 0)*lA PA i j) fun i hi=>by rw[ea,la i hi]]
     have ak:a<s.hs.length:=by omega
     have cm:=fun j=>xR (k:=s.hs.length) (A:=lA PA) (c:=c) (r:=oA PA) (fun i=>oA PA a (s.hs.getD i 0)) tp j
     have un:∀ v,v<s.hs.length->(fun v=>(if v=a then s.b else 0)-su s.hs.length fun i=>oA PA a (s.hs.getD i 0)*c i v) v=0:=aLl k5 (fun v u=>oA PA v (s.hs.getD u 0)) (by rw[←Z.bd];exact Z.b0) fun u hu=>by
      have e1:=cm (s.hs.getD u 0);rw[aM (g:=fun i=>if i=u then oA PA a (s.hs.getD i 0)*s.b else 0) fun i hi=>by rw[Z.hd i hi u hu];split<;>simp,jR _ hu]at e1
      have e2:su s.hs.length (fun v=>(if v=a then s.b else 0)*oA PA v (s.hs.getD u 0))=s.b*oA PA a (s.hs.getD u 0):=by
       rw[aM (g:=fun v=>if v=a then s.b*oA PA v (s.hs.getD u 0) else 0) fun v _=>by split<;>simp,jR _ ak]
      have e3:su s.hs.length (fun v=>((if v=a then s.b else 0)-su s.hs.length fun i=>oA PA a (s.hs.getD i 0)*c i v)*oA PA v (s.hs.getD u 0))+su s.hs.length (fun v=>su s.hs.length (fun i=>oA PA a (s.hs.getD i 0)*c i v)*oA PA v (s.hs.getD u 0))=su s.hs.length fun v=>(if v=a then s.b else 0)*oA PA v (s.hs.getD u 0):=by
       rw[gV];exact aM fun v _=>by rw[←Fq,Ix]
      rw[e2,←e1,Bc s.b]at e3;show su s.hs.length (fun v=>((if v=a then s.b else 0)-su s.hs.length fun i=>oA PA a (s.hs.getD i 0)*c i v)*oA PA v (s.hs.getD u 0))=0
      omega
     rw[cm j,aM (g:=fun v=>if v=a then s.b*oA PA v j else 0) fun v hv=>by
      have:=un v hv
      have:su s.hs.length (fun i=>oA PA a (s.hs.getD i 0)*c i v)=if v=a then s.b else 0:=by
       have q:(if v=a then s.b else 0)-su s.hs.length (fun i=>oA PA a (s.hs.getD i 0)*c i v)=0:=this
       omega
      rw[this];split<;>simp,jR _ ak]
   · have z:p.1.getD j 0=0:=zr p.1 (by
      rw[Z.eq,Ie (by rw[Ab,Z.len];exact Ah _),El (by rw[Ab,Z.len];exact Ah _),Dz]
      exact Ex h) j hj
     have:=Z.ot p h j
     rw[z]at this;show s.b*p.2.getD j 0=_
     rw[aM (g:=fun i=>p.2.getD (s.hs.getD i 0) 0*lA PA i j) fun i hi=>by rw[la i hi]]
     omega
theorem xI (t:List (List Int))(i j:Nat):at2 (nH t) i j=- at2 t i j:=by
 unfold at2 nH;simp only[Aa,Ax];cases t[i]? with
 | none=>simp
 | some r=>simp only[Ev,Eb,Ax];cases r[j]?<;>simp
theorem aM6 {L N n:Nat}{t:List (List Int)}(hr:∀ r∈t,r.length=L)(hn:n<=L)(n5:n<=5)(hN:0<N)(hB:BN N t):Gd n t (dA t n):=by
 have G:=aO8 hr hn n5 hN hB;unfold dA;split
 · refine⟨by have:=G.b0;show -_≠0;omega,G.up,fun i hi u hu=>?_,fun i hi j hj=>?_,fun i hi=>?_,fun r hr j hj=>?_⟩
   · show at2 (nH (clr t n).t) i _=_
     rw[xI,G.hd i hi u hu];split<;>simp
   · show at2 (nH (clr t n).t) i _=_
     rw[xI,G.ec i hi j hj];rfl
   · exact .lin 1 (-1) 0 (G.inn i hi) (G.inn i hi) (by decide) fun j hj=>by
      show 1*at2 (nH (clr t n).t) i j=-1*at2 (clr t n).t i j+_
      rw[xI];omega
   · show -(clr t n).b*fn r j=su (clr t n).hs.length fun i=>fn r ((clr t n).hs.getD i 0)*at2 (nH (clr t n).t) i j
     rw[Em,G.row r hr j hj]
     have:su (clr t n).hs.length (fun i=>fn r ((clr t n).hs.getD i 0)*at2 (nH (clr t n).t) i j)=-1*su (clr t n).hs.length fun i=>fn r ((clr t n).hs.getD i 0)*at2 (clr t n).t i j:=by
      rw[dC];exact aM fun i _=>by rw[xI,Int.mul_neg];omega
     rw[this];omega
 · exact G
end Fm
namespace Hm
open PySem L2 Mir
structure Fits (n N M:Nat)(t:List (List Int)):Prop where
 n5:n<=5
 N0:0<N
 h9:nb N (n-1)<=9000
 hr:∀ r∈t,r.length=n
 ht:t.length<=1000
 hB:BN N t
 C:Cl t.length n n M (dA t n)
 M9:1+M*(cI n (dA t n).hs).length<=9000
 M8:M<=9000
 M0:0<M
def oC (n:Nat)(t fr:List (List Int)):Prop:=∃ sh,Sha (dA t n).hs.length (aJ n (dA t n)) (dA t n).b.toNat (cI n (dA t n).hs) sh/\fr=gU n (aJ n (dA t n)) sh (dA t n).b
theorem aEs (t:List (List Int))(n:Nat):(dA t n).hs=(clr t n).hs:=by unfold dA;split<;>rfl
def aEp (φ:Φ):Prop:=∀ {n k L M:Nat} {s:Cs},Cl k L n M s->n<=L->n<=5->s.hs.length<=5->k<=1000->L<=1000->0<M->M<=9000->1+M*(cI n s.hs).length<=9000 ->
 ∃ sh,Sha s.hs.length (aJ n s) s.b.toNat (cI n s.hs) sh/\φ [.int n,hW s]=.ok ⟨.tmp,true,.lst (lil (gU n (aJ n s) sh s.b))⟩
abbrev aEd (φf φc:Φ):FS:=bS (aL φf [vE 0,aL φc [vE 0,vE 1]])
theorem aLb {φf φc:Φ}(hf:aEp φf)(hc:aG5 φc){n N M:Nat}{t:List (List Int)}(F:Fits n N M t) :
 ∃ fr,oC n t fr/\bY 2 2 (aEd φf φc) [.int n,.lst (lil t)]=.ok ⟨.tmp,true,.lst (lil fr)⟩:=by
 have n5:=F.n5;obtain⟨o,g,e⟩:=hc F.hr (Ah n) (by omega) F.ht F.N0 F.h9 F.hB
 have C:=F.C;obtain⟨sh,S,e2⟩:=hf C (Ah n) n5 (by rw[aEs];exact Bp o.hk n5) F.ht (by omega) F.M0 F.M8 F.M9
 refine⟨_,⟨sh,S,rfl⟩,?_⟩
 obtain⟨f',c⟩:=aAf (φ:=φc) (fs:=[vE 0,vE 1]) (ρ:=[some ⟨.shr,false,.int n⟩,some ⟨.shr,false,.lst (lil t)⟩]) (aB rfl (aB rfl aY)) e rfl;have c2:=cV (φ:=φf) (fs:=[vE 0,aL φc [vE 0,vE 1]]) (ρ:=[some ⟨.shr,false,.int n⟩,some ⟨.shr,false,.lst (lil t)⟩]) (aB rfl (aB c aY)) e2;exact(dG (np:=2) (n:=2) (s:=aEd φf φc) (ds:=[.int n,.lst (lil t)]) rfl (nP c2)).trans rfl
def aEj (φ:Φ):Prop:=∀ {n N M:Nat} {t:List (List Int)},Fits n N M t->∃ fr,oC n t fr/\φ [.int n,.lst (lil t)]=.ok ⟨.tmp,true,.lst (lil fr)⟩
abbrev aGk (φk φf:Φ):FS:=(aI (kP (aL φk [vE 0,vE 1])) (bS (nI 0 [vE 0,aL φf [vE 0,vE 1]])))
theorem aP4 {φk φf:Φ}(hf:aEj φf){n N M:Nat}{t:List (List Int)}(F:Fits n N M t)(hk:φk [.int n,.lst (lil t)]=.ok (sc .non)) :
 ∃ fr,oC n t fr/\bY 2 2 (aGk φk φf) [.int n,.lst (lil t)]=.ok ⟨.shr,true,.obj 0 [.int n,.lst (lil fr)]⟩:=by
 obtain⟨fr,I,e⟩:=hf F;refine⟨fr,I,?_⟩
 have e1:kP (aL φk [vE 0,vE 1]) [some ⟨.shr,false,.int n⟩,some ⟨.shr,false,.lst (lil t)⟩]=.nx [some ⟨.shr,false,.int n⟩,some ⟨.shr,false,.lst (lil t)⟩]:=wP (gF (aB rfl (aB rfl aY)) hk);have c:=cV (φ:=φf) (fs:=[vE 0,vE 1]) (ρ:=[some ⟨.shr,false,.int n⟩,some ⟨.shr,false,.lst (lil t)⟩]) (aB rfl (aB rfl aY)) e
 have w:nI 0 [vE 0,aL φf [vE 0,vE 1]] [some ⟨.shr,false,.int n⟩,some ⟨.shr,false,.lst (lil t)⟩]=.ok ⟨.shr,true,.obj 0 [.int n,.lst (lil fr)]⟩:=by
  have ev:=aB (f:=vE 0) (ρ:=[some ⟨.shr,false,.int n⟩,some ⟨.shr,false,.lst (lil t)⟩]) (r:=⟨.shr,true,.int n⟩) rfl (aB c aY);simp only[nI,ev,R.ok_bind];rfl
 exact(dG (np:=2) (n:=2) (s:=aGk φk φf) (ds:=[.int n,.lst (lil t)]) rfl ((aF e1).trans (jQ w))).trans rfl
end Hm
namespace Fm
open PySem L2 Mir Hm Be
theorem aOy (w j:Nat):(Ao w (0:Int)).getD j 0=0:=by
 simp only[Aa,Ci];split<;>rfl
theorem aO1 {w:Nat}{cs:List Int}{rs:List (List Int)}(h:cs.length=rs.length)(hr:∀ r∈rs,r.length=w)(j:Nat):(jK w cs rs).getD j 0=su rs.length fun i=>cs.getD i 0*at2 rs i j:=by
 have:∀ (cs:List Int) (rs:List (List Int)) (t:List Int),cs.length=rs.length->(∀ r∈rs,r.length=w)->t.length=w->((cs.zip rs).foldl oG t).getD j 0=t.getD j 0+su rs.length fun i=>cs.getD i 0*at2 rs i j:=by
  intro cs;induction cs with
  | nil =>
   intro rs t h _ _;obtain rfl:rs=[]:=Cy.mp h.symm;show t.getD j 0=t.getD j 0+0
   omega
  | cons c cs ih =>
   intro rs t h hr ht;cases rs with
   | nil=>cases h
   | cons r rs =>
    have rl:=hr r Ad;rw[List.zip_cons_cons,Ea,ih rs _ (by simpa using h) (fun q hq=>hr q (Ae _ hq)) (tJ ht rl),wI (by rw[ht,rl]),Aq,sQ,Int.add_assoc]
    rfl
 have e:=this cs rs (Ao w 0) h hr Bu;rw[aOy,Int.zero_add]at e;exact e
theorem sY {n:Nat}{s:Cs}{i j:Nat}(hi:i<s.hs.length)(hl:s.hs.length<=s.t.length)(hj:j<n):at2 (aJ n s) i j=at2 s.t i j:=by
 unfold at2 aJ;simp only[Aa,Ax,Dw hi,Ac (show i<s.t.length by omega),Ev,Eb,Dw hj]
theorem aIg {w i:Nat}{ls:List (List Int)}(hi:i<ls.length):(col w ls).getD i 0=at2 ls i w:=by
 unfold col at2;simp[Aa,hi]
structure Fr (n:Nat)(t fr:List (List Int))(hs:List Nat):Prop where
 len:fr.length=hs.length
 row:∀ r∈fr,r.length=n
 up:hs.Pairwise (·<·)
 lt:∀ i,i<hs.length->hs.getD i 0<n
 inn:∀ a,a<hs.length->In n t (fn (fr.getD a []))
 all:∀ r∈t,In n fr (fn r)
 ech:∀ a,a<hs.length->∀ j,j<hs.getD a 0->at2 fr a j=0
 pos:∀ a,a<hs.length->0<at2 fr a (hs.getD a 0)
 red:∀ a c,a<c->c<hs.length->0<=at2 fr a (hs.getD c 0)/\at2 fr a (hs.getD c 0)<at2 fr c (hs.getD c 0)
 gen:∀ v,In n t v->∀ a,a<hs.length->(∀ j,j<hs.getD a 0->v j=0)->at2 fr a (hs.getD a 0) ∣ v (hs.getD a 0)
 lead:∀ v,In n t v->(∀ a,a<hs.length->v (hs.getD a 0)=0)->∀ j,j<n->v j=0
 fst:∀ v,In n t v->∀ h,h<n->v h≠0->(∀ j,j<h->v j=0)->h∈hs
section
variable {k L n M:Nat}{t:List (List Int)}{s:Cs}(G:Gd n t s)(C:Cl k L n M s)(hn:n<=L)
include G C hn
theorem aN6 {i j:Nat}(hi:i<j)(hj:j<s.hs.length):s.hs.getD i 0<s.hs.getD j 0:=by
 have:=Fe.mp G.up.1 i j (by omega) hj hi
 simpa[Aa,hj,show i<s.hs.length by omega] using this
theorem aJ3:((s.b.toNat:Nat):Int)=s.b:=by have:=C.b0;omega
theorem aBm {sh:List (List Int)}(R:Red s.hs.length d sh)(g:Gen 0 (Lam s.hs.length (aJ n s) s.b.toNat (cI n s.hs)) sh){a:Nat}(ha:a<s.hs.length){j:Nat}(hj:j<n) :
 s.b*at2 (gU n (aJ n s) sh s.b) a j=su s.hs.length fun i=>at2 sh a i*at2 s.t i j:=by
 have ll:=iZ (n:=n) (s:=s) (by rw[C.len];exact C.hm)
 have tl:s.hs.length<=s.t.length:=by rw[C.len];exact C.hm
 have e0:at2 (gU n (aJ n s) sh s.b) a j=(su s.hs.length fun i=>at2 sh a i*at2 s.t i j)/s.b:=by
  have m:=aO1 (w:=n) (cs:=sh.getD a []) (rs:=aJ n s) (by rw[R.T.row ha,ll]) (gL C hn) j
  rw[ll,aM (g:=fun i=>at2 sh a i*at2 s.t i j) fun i hi=>by rw[sY hi tl hj]]at m
  rw[←m];unfold at2 gU;rw[Aa (l:=sh.map _),Ax,Ac (show a<sh.length by rw[R.T.tl];exact ha),show sh.getD a []=sh[a]'(by rw[R.T.tl];exact ha) by rw[Aa,Ac];rfl]
  simp only[Ev,Eb];rw[Aa,Ax,Aa];have:j<(jK n (sh[a]'(by rw[R.T.tl];exact ha)) (aJ n s)).length:=by rw[iR (gL C hn)];exact hj
  rw[Ac this];rfl
 rw[e0];refine Int.mul_ediv_cancel' ?_
 by_cases h:j∈s.hs
 · obtain⟨u,hu,rfl⟩:=Bg.mp h
   rw[aM (g:=fun i=>if i=u then at2 sh a i*s.b else 0) fun i hi=>by
    have:=G.hd i hi u hu
    rw[Aa (l:=s.hs),Ac hu,Eb]at this
    rw[this];split<;>simp,jR _ hu]
   exact Int.dvd_mul_left _ _
 · have:=(g a (by rw[R.T.tl];exact ha)).1 j (Ew.mpr ⟨Bo.mpr hj,by simp[h]⟩)
   rw[aJ3 G C hn]at this;unfold wv at this;rwa [aM (g:=fun i=>at2 sh a i*at2 s.t i j) fun i hi=>by rw[aIg (by rw[ll];exact hi),sY hi tl hj]]at this
theorem aPs {sh:List (List Int)}(R:Red s.hs.length d sh)(g:Gen 0 (Lam s.hs.length (aJ n s) s.b.toNat (cI n s.hs)) sh){a:Nat}(ha:a<s.hs.length){u:Nat}(hu:u<s.hs.length) :
 at2 (gU n (aJ n s) sh s.b) a (s.hs.getD u 0)=at2 sh a u:=by
 have e:=aBm G C hn R g ha (G.ht hu);rw[aM (g:=fun i=>if i=u then at2 sh a i*s.b else 0) fun i hi=>by rw[G.hd i hi u hu];split<;>simp,jR _ hu,Bc]at e
 exact Int.eq_of_mul_eq_mul_right G.b0 e
theorem aQn {v:Vc}(h:In n t v):Lam s.hs.length (aJ n s) s.b.toNat (cI n s.hs) fun i=>v (s.hs.getD i 0):=fun w hw=>by
 have ll:=iZ (n:=n) (s:=s) (by rw[C.len];exact C.hm)
 have tl:s.hs.length<=s.t.length:=by rw[C.len];exact C.hm
 have hw:w<n:=Bo.mp (Ew.mp hw).1;have:=G.mb h w hw
 rw[aJ3 G C hn];unfold wv;rw[aM (g:=fun i=>v (s.hs.getD i 0)*at2 s.t i w) fun i hi=>by rw[aIg (by rw[ll];exact hi),sY hi tl hw],←this]
 exact Int.dvd_mul_right _ _
theorem aO0 {sh:List (List Int)}(R:Red s.hs.length d sh)(g:Gen 0 (Lam s.hs.length (aJ n s) s.b.toNat (cI n s.hs)) sh):Fr n t (gU n (aJ n s) sh s.b) s.hs:=by
 have eq:=@aBm k L n M t s G C hn d sh R g;have hd:=@aPs k L n M t s G C hn d sh R g;have fl:(gU n (aJ n s) sh s.b).length=s.hs.length:=by unfold gU;rw[Ab,R.T.tl]
 have inn:∀ a,a<s.hs.length->In n t (fn ((gU n (aJ n s) sh s.b).getD a [])):=fun a ha=>by
  refine G.back fun j hj=>?_
  show s.b*at2 (gU n (aJ n s) sh s.b) a j=_
  rw[eq ha hj];exact aM fun i hi=>by rw[show fn ((gU n (aJ n s) sh s.b).getD a []) (s.hs.getD i 0)=_ from hd ha hi]
 have lead:∀ v,In n t v->(∀ a,a<s.hs.length->v (s.hs.getD a 0)=0)->∀ j,j<n->v j=0:=fun v hv z j hj=>by
  have:=G.mb hv j hj
  rw[aM (g:=fun _=>0) fun i hi=>by rw[z i hi,Ch],eI]at this
  exact(Il.mp this).resolve_left G.b0
 have up:∀ m i,i<s.hs.length->s.hs.length<=i+m->In n (gU n (aJ n s) sh s.b) (fn (s.t.getD i [])):=fun m=>by
  induction m with
  | zero=>intro i h1 h2;omega
  | succ m ih =>
   intro i h1 _
   have S:In n (gU n (aJ n s) sh s.b) fun j=>su s.hs.length fun x=>(if i<x then at2 sh i x else 0)*(if i<x then fn (s.t.getD x []) j else 0):=In.sum (c:=fun x=>if i<x then at2 sh i x else 0) (f:=fun x j=>if i<x then fn (s.t.getD x []) j else 0) fun x hx=>by
    by_cases q:i<x
    · simp only[if_pos q];exact ih x hx (by omega)
    · simp only[if_neg q];exact .zer fun _ _=>rfl
   refine .lin (at2 sh i i) s.b (-1) (In.row (Mir.bA (d:=[]) (by rw[fl];exact h1)) fun j _=>rfl) S (by have:=(R.T.dia i h1).1;omega) fun j hj=>?_
   show _=s.b*at2 (gU n (aJ n s) sh s.b) i j+_
   rw[eq h1 hj,←jR (fun x=>at2 sh i x*at2 s.t x j) h1,dC,gV];show su s.hs.length (fun x=>if x=i then at2 sh i x*at2 s.t x j else 0)=_
   refine aM fun x hx=>?_
   rcases Ei x i with q | q | q
   · rw[if_neg (by omega),if_neg (by omega),R.T.low i x h1 q];simp
   · subst q;rw[if_pos rfl,if_neg (by omega)];simp
   · rw[if_neg (by omega),if_pos q,if_pos q];show 0=at2 sh i x*at2 s.t x j+-1*(at2 sh i x*at2 s.t x j);omega
 refine⟨fl,fun r hr=>?_,G.up.1,fun i hi=>G.ht hi,inn,fun r hr=>?_,fun a ha j hj=>?_,fun a ha=>by rw[hd ha ha];exact(R.T.dia a ha).1,fun a c h1 h2=>?_,fun v hv a ha z=>?_,lead,fun v hv h hh v0 z=>?_⟩
 · obtain⟨q,hq,rfl⟩:=Ai.mp hr
   rw[Ab,iR (gL C hn)]
 · have I:=In.sum (n:=n) (t:=gU n (aJ n s) sh s.b) (c:=fun i=>fn r (s.hs.getD i 0)) (f:=fun i=>fn (s.t.getD i [])) (k:=s.hs.length) fun i hi=>up s.hs.length i hi (by omega)
   exact .lin s.b 1 0 I I G.b0 fun j hj=>by rw[G.row r hr j hj];simp[at2]
 · have e:=eq ha (Ez hj (G.ht ha))
   rw[aM (g:=fun _=>0) fun i hi=>by
    rcases Gg i a with q | q
    · rw[R.T.low a i ha q,Ch]
    · rw[G.ec i hi j (by
       rcases Gg a i with q | q
       · exact Ez hj (aN6 G C hn q hi)
       · rw[show i=a by omega];exact hj),Eg],eI]at e
   exact(Il.mp e).resolve_left G.b0
 · rw[hd (show a<s.hs.length by omega) h2,hd h2 h2]
   exact R.td a c (De _) h1 h2
 · rw[hd ha ha]
   have:=(g a (by rw[R.T.tl];exact ha)).2.2 _ (aQn G C hn hv) fun i hi=>z _ (aN6 G C hn (by omega) ha)
   rwa [Dp]at this
 · refine Classical.byContradiction fun q=>v0 ?_
   have e:=G.mb hv h hh
   rw[aM (g:=fun _=>0) fun i hi=>by
    rcases Ei (s.hs.getD i 0) h with w | w | w
    · rw[z _ w,Ch]
    · exact absurd (w▸Mir.bA hi) q
    · rw[G.ec i hi h w,Eg],eI]at e
   exact(Il.mp e).resolve_left G.b0
end
theorem aN0:∀ {l m:List Nat},l.Pairwise (·<·)->m.Pairwise (·<·)->(∀ x,x∈l↔x∈m)->l=m
 | [],[],_,_,_=>rfl
 | [],b :: m,_,_,h=>absurd ((h b).mpr Ad) (by simp)
 | a :: l,[],_,_,h=>absurd ((h a).mp Ad) (by simp)
 | a :: l,b :: m,h1,h2,h=>by
  obtain⟨p1,q1⟩:=Fc.mp h1;obtain⟨p2,q2⟩:=Fc.mp h2
  have e:a=b:=by
   rcases Ag.mp ((h a).mp Ad) with x | x
   · exact x
   · rcases Ag.mp ((h b).mpr Ad) with y | y
     · exact y.symm
     · have:=p1 b y;have:=p2 a x;omega
  subst e;refine congrArg _ (aN0 q1 q2 fun x=>⟨fun hx=>?_,fun hx=>?_⟩)
  · rcases Ag.mp ((h x).mp (Ae _ hx)) with y | y
    · have:=p1 x hx;omega
    · exact y
  · rcases Ag.mp ((h x).mpr (Ae _ hx)) with y | y
    · have:=p2 x hx;omega
    · exact y
theorem Fr.ltt {n:Nat}{t fr:List (List Int)}{hs:List Nat}(F:Fr n t fr hs){i j:Nat}(hi:i<j)(hj:j<hs.length):hs.getD i 0<hs.getD j 0:=by
 have:=Fe.mp F.up i j (by omega) hj hi
 simpa[Aa,hj,show i<hs.length by omega] using this
theorem aA5 {n:Nat}{t t' fr fr':List (List Int)}{hs hs':List Nat}(A:Fr n t fr hs)(B:Fr n t' fr' hs')(e:∀ v,In n t v->In n t' v)(x:Nat)(hx:x∈hs):x∈hs':=by
 obtain⟨a,ha,rfl⟩:=Bg.mp hx;have ea:hs.getD a 0=hs[a]:=by rw[Aa,Ac ha];rfl
 rw[←ea];have p:=A.pos a ha;exact B.fst _ (e _ (A.inn a ha)) _ (A.lt a ha) (by show at2 _ a _≠0;omega) fun j hj=>A.ech a ha j hj
theorem aLr {n:Nat}{t t' fr fr':List (List Int)}{hs hs':List Nat}(A:Fr n t fr hs)(B:Fr n t' fr' hs')(e:∀ v,In n t v↔In n t' v):fr=fr'/\hs=hs':=by
 have hh:hs=hs':=by
  exact aN0 A.up B.up fun x=>⟨aA5 A B (fun v=>(e v).mp) x,aA5 B A (fun v=>(e v).mpr) x⟩
 subst hh;refine⟨?_,rfl⟩
 have dia:∀ a,a<hs.length->at2 fr a (hs.getD a 0)=at2 fr' a (hs.getD a 0):=fun a ha =>
  Int.dvd_antisymm (Int.le_of_lt (A.pos a ha)) (Int.le_of_lt (B.pos a ha)) (A.gen _ ((e _).mpr (B.inn a ha)) a ha (B.ech a ha)) (B.gen _ ((e _).mp (A.inn a ha)) a ha (A.ech a ha))
 have ent:∀ a,a<hs.length->∀ c,c<hs.length->at2 fr a (hs.getD c 0)=at2 fr' a (hs.getD c 0):=fun a ha c=>by
  have dif:In n t fun j=>at2 fr a j-at2 fr' a j:=.lin 1 1 (-1) (A.inn a ha) ((e _).mpr (B.inn a ha)) (by decide) fun j _=>by
   show 1*(at2 fr a j-at2 fr' a j)=1*at2 fr a j+-1*at2 fr' a j
   omega
  induction c using Nat.strongRecOn with
  | ind c ih =>
   intro hc;rcases Ei c a with h | h | h
   · rw[A.ech a ha _ (A.ltt h ha),B.ech a ha _ (A.ltt h ha)]
   · rw[h];exact dia a ha
   · -- the difference has nothing ahead of this head
     have z:∀ j,j<hs.getD c 0->at2 fr a j-at2 fr' a j=0:=fun j hj=>by
      refine Classical.byContradiction fun q=>?_
      obtain⟨i,hi,q1,q2⟩:∃ i,i<=j/\at2 fr a i-at2 fr' a i≠0/\∀ x,x<i->at2 fr a x-at2 fr' a x=0:=by
       have:∀ m,m<=j+1->(∃ i,i<=j/\at2 fr a i-at2 fr' a i≠0/\∀ x,x<i->at2 fr a x-at2 fr' a x=0)\/∀ x,x<m->at2 fr a x-at2 fr' a x=0:=fun m=>by
        induction m with
        | zero=>exact fun _=>.inr fun x hx=>absurd hx (by omega)
        | succ m ih =>
         intro hm;rcases ih (by omega) with h | h
         · exact .inl h
         · by_cases w:at2 fr a m-at2 fr' a m=0
           · exact .inr fun x hx=>by
              by_cases y:x=m
              · rw[y];exact w
              · exact h x (by omega)
           · exact .inl ⟨m,by omega,w,h⟩
       rcases this (j+1) (Ah _) with h | h
       · exact h
       · exact absurd (h j (by omega)) q
      have:=A.fst _ dif i (by have:=A.lt c hc;omega) q1 q2
      obtain⟨x,hx,ex⟩:=Bg.mp this;have ex':hs.getD x 0=i:=by rw[Aa,Ac hx];exact ex
      have xc:x<c:=by
       rcases Ei x c with w | w | w
       · exact w
       · rw[w]at ex';omega
       · have:=A.ltt w hx;omega
      have:=ih x xc hx
      rw[ex']at this;omega
     obtain⟨q,hq⟩:=A.gen _ dif c hc z;obtain⟨x1,x2⟩:=A.red a c h hc;obtain⟨y1,y2⟩:=B.red a c h hc;rw[←dia c hc]at y2;have hq:at2 fr a (hs.getD c 0)-at2 fr' a (hs.getD c 0)=at2 fr c (hs.getD c 0)*q:=hq
     have:q=0:=by
      rcases Hg q 0 with z | z | z
      · have:=Ih (show q≤-1 by omega) (show 0<=at2 fr c (hs.getD c 0) by omega)
        omega
      · exact z
      · have:=Ih (show 1<=q by omega) (show 0<=at2 fr c (hs.getD c 0) by omega)
        omega
     rw[this,Eg]at hq;omega
 refine Hs (by rw[A.len,B.len]) fun a h1 h2=>?_
 have ha:a<hs.length:=by rw[←A.len];exact h1
 have e1:fr.getD a []=fr[a]:=by rw[Aa,Ac h1];rfl
 have e2:fr'.getD a []=fr'[a]:=by rw[Aa,Ac h2];rfl
 have l1:=A.row _ (Dd h1);have l2:=B.row _ (Dd h2);refine Hs (by omega) fun j h3 h4=>?_
 have dif:In n t fun j=>at2 fr a j-at2 fr' a j:=.lin 1 1 (-1) (A.inn a ha) ((e _).mpr (B.inn a ha)) (by decide) fun j _=>by
  show 1*(at2 fr a j-at2 fr' a j)=1*at2 fr a j+-1*at2 fr' a j
  omega
 have:=A.lead _ dif (fun c hc=>by show at2 fr a _-at2 fr' a _=0;rw[ent a ha c hc];omega) j (by omega)
 have:at2 fr a j-at2 fr' a j=0:=this
 unfold at2 at this;rw[e1,e2,Aa,Ac h3,Aa,Ac h4]at this;simp only[Eb]at this;omega
end Fm
namespace Hm
open PySem L2 Mir
section
variable {n k L M:Nat}{s:Cs}(C:Cl k L n M s)(hn:n<=L)
include C hn
end
end Hm
namespace Hm
open PySem L2 Mir
theorem aE4 (n:Nat)(hs:List Nat):(cI n hs).length<=n:=by
 have:=Fy (fun w=>!decide (w∈hs)) (Bf n)
 rw[Df]at this;exact this
theorem rH (w:Nat)(hs:List Nat):cI w hs++(if w∈hs then [] else [w])=cI (w+1) hs:=by
 unfold cI;rw[Gr,Gw];congr 1
 by_cases h:w∈hs<;>simp[h]
section
variable {n k L M:Nat}{s:Cs}(C:Cl k L n M s)(hn:n<=L)
include C hn
end
end Hm
namespace Hm
open PySem L2 Mir
section
variable {n k M K:Nat}{s:Cs}{t:List (List Int)}(C:Cl k (n+k) n M s)
include C
end
end Hm
namespace Hm
open PySem L2 Mir
def Fre (w:Nat)(s:Cs):Prop:=(cI w s.hs).length+s.hs.length=w/\∀ h∈s.hs,h<w
theorem aB8 (w:Nat)(hs:List Nat):cI w (hs++[w])=cI w hs:=by
 refine List.filter_congr fun x hx=>?_
 have:=Bo.mp hx
 congr 1
 exact decide_eq_decide.mpr ⟨fun h=>(An.mp h).resolve_right fun q=>by have:=Ap.mp q;omega,fun h=>Bk _ h⟩
theorem Fre.step {w:Nat}{s:Cs}(U:Fre w s):Fre (w+1) (eG s w):=by
 unfold eG;cases fnd s.t s.hs.length w with
 | nil =>
  refine⟨?_,fun h hh=>by have:=U.2 h hh;omega⟩
  show (cI (w+1) s.hs).length+s.hs.length=_
  rw[←rH,Al,if_neg fun h=>by have:=U.2 w h;omega]
  have:=U.1
  show _+1+_=_
  omega
 | cons p r =>
  refine⟨?_,fun h hh=>?_⟩
  · show (cI (w+1) (s.hs++[w])).length+(s.hs++[w]).length=_
    rw[←rH,if_pos (by simp),Cv,aB8,Al]
    have:=U.1
    show _+(_+1)=_
    omega
  · rcases An.mp hh with q | q
    · have:=U.2 h q;omega
    · rw[Ap.mp q];omega
end Hm
namespace Fm
open PySem L2 Mir Hm Be
theorem aI1 {L N n:Nat}{t:List (List Int)}(hr:∀ r∈t,r.length=L)(hn:n<=L)(hN:0<N)(hB:BN N t):Ok t.length L N n (clr t n):=by
 have o0:Ok t.length L N 0 ⟨t,[],1⟩:=⟨rfl,hr,Ah _,De _,fun h q=>absurd q (by simp),(show (1:Int)≠0 by decide),by
  show (1:Nat)<2^N
  exact Af (by decide) (iA (show 1<=N from hN)),hB⟩
 have:=aDk n 0 ⟨t,[],1⟩ o0 (by omega)
 rw[Dp]at this;unfold clr;rw[Ee];exact this
theorem qM {n N M:Nat}{t:List (List Int)}(n5:n<=5)(N0:0<N)(h9:nb N (n-1)<=9000)(hr:∀ r∈t,r.length=n)(ht:t.length<=1000)(hB:BN N t)(hM:n*N+7<=M)(M9:1+M*n<=9000)(M8:M<=9000):Fits n N M t:=by
 have o:=aI1 hr (Ah n) N0 hB;have C:=aK2 hr (Ah n) n5 N0 hB o rfl hM;have mle:M*(cI n (dA t n).hs).length<=M*n:=Ce _ (aE4 n _);exact⟨n5,N0,h9,hr,ht,hB,C,by omega,M8,by omega⟩
theorem sI {n N M:Nat}{t fr:List (List Int)}(F:Fits n N M t)(I:oC n t fr):Fr n t fr (dA t n).hs/\BN (M+3) fr:=by
 obtain⟨sh,S,rfl⟩:=I;have G:=aM6 F.hr (Ah n) F.n5 F.N0 F.hB;have C:=F.C;have b0:=C.b0;have bn:=C.bn;have ll:=iZ (n:=n) (s:=dA t n) (by rw[C.len];exact C.hm)
 have w0:0<(dA t n).b.toNat:=by omega
 have R:=S.red (B:=M) w0 (by omega)
 have g:=aLn (B:=M) w0 (by omega) ll S
 have Ff:=aO0 G C (Ah n) R g;refine⟨Ff,fun r hr x hx=>?_⟩
 obtain⟨a,ha,rfl⟩:=Bg.mp hr;obtain⟨j,hj,rfl⟩:=Bg.mp hx;have ha':a<(dA t n).hs.length:=by rw[←Ff.len];exact ha
 have hj':j<n:=by rw[←Ff.row _ hr];exact hj
 have e:=aBm G C (Ah n) R g ha' hj'
 have ea:at2 (gU n (aJ n (dA t n)) sh (dA t n).b) a j=((gU n (aJ n (dA t n)) sh (dA t n).b)[a])[j]:=by
  unfold at2;simp[Aa,ha,hj]
 rw[←ea];generalize at2 (gU n (aJ n (dA t n)) sh (dA t n).b) a j=y at e
 have dle:∀ i,i<(dA t n).hs.length->at2 sh i i<=(dA t n).b:=fun i hi=>by
  have d:=aL2 (by rw[R.T.tl]) g hi
  have:=Int.le_of_dvd (by omega) d
  omega
 have sb:∀ i,i<(dA t n).hs.length->(at2 sh a i*at2 (dA t n).t i j).natAbs<=(dA t n).b.natAbs*2^M:=fun i hi=>by
  refine aAx ?_ ?_
  · rcases Ei i a with q | q | q
    · rw[R.T.low a i ha' q];exact De _
    · have:=dle i hi;have:=(R.T.dia i hi).1;subst q;omega
    · have:=R.td a i (De _) q hi;have:=dle i hi;omega
  · exact Gh (pH (C.tn _ (Mir.bA (by rw[C.len];have:=C.hm;omega))) j)
 have s:=aJb sb;rw[←e,Eh]at s
 have k5:(dA t n).hs.length<=5:=by
  have:=(aI1 F.hr (Ah n) F.N0 F.hB).hk
  rw[aEs];exact Bp this F.n5
 have s2:(dA t n).b.natAbs*y.natAbs<=(dA t n).b.natAbs*(5*2^M):=Bp s (by
  rw[Fi (dA t n).b.natAbs]
  exact Fk _ k5)
 have s3:=Nat.le_of_mul_le_mul_left s2 (by omega)
 have p:0<2^M:=Dl M;have:2^(M+3)=8*2^M:=by rw[Gy,Ey]
 omega
theorem Fr.short {n:Nat}{t fr:List (List Int)}{hs:List Nat}(F:Fr n t fr hs):fr.length<=n:=by
 rw[F.len]
 have:=List.Nodup.length_le_of_subset (l₁:=hs) (l₂:=Bf n) (F.up.imp fun h=>Cb h) fun x hx=>by
  obtain⟨i,hi,rfl⟩:=Bg.mp hx;have:=F.lt i hi
  rw[Aa,Ac hi]at this;exact Bo.mpr this
 rwa [Df]at this
end Fm
namespace Fm
open PySem L2 Mir Hm Be Sm Dr
def p20:Int:=10^20
abbrev aSc:FE:=sZ (aS (bV (aT (vE 0) (vE 4))) 1 [] (.nm 0) (bE (jZ (vE 0))))
abbrev aRo:FE:=sZ (aS (bV (kG (aT (vE 0) (vE 4)) (aT (vE 0) (vE 5)))) 1 [] (.nm 0) (bE (jZ (vE 0))))
abbrev aOo:FE:=iM (cE (.int 10)) (cE (.int 20))
abbrev kN:FS:=(aI (aC 6 (aT (vE 0) (vE 4))) (aI (gH 0 (vE 4) (aT (vE 0) (vE 5))) (cN 6 (gH 0 (vE 5) (vE 6)))))
abbrev aI8:FS:=(aI (aC 7 (aT (cF [dB (cE (.int 3)),dB (cE (.int 2)),dB (cE (.int 1)),cE (.int 2),cE (.int 3),cE (.int 4)]) (bW (cH (vE 1) (cE (.int 676))) (cE (.int 6)))))
 (ifS (bT (ltE aSc aOo))
  (gH 0 (vE 4) (aS (bV (aT (vE 0) (vE 4))) 1 [7] (.nm 0) (bE (bP (vE 1) (vE 0)))))
  cG))
abbrev aJc:FS:=(aI (aC 7 (fR (bW (cH (vE 1) (cE (.int 676))) (cE (.int 7))) (cE (.int 3))))
 (ifS (bT (ltE aRo aOo))
  (gH 0 (vE 4) (aS (mI (aT (vE 0) (vE 4)) (aT (vE 0) (vE 5))) 2 [7] (.tp [.nm 0,.nm 1]) (bE (cR (vE 0) (bP (vE 2) (vE 1))))))
  cG))
abbrev aHe:FS:=(jY 0 (aS (mI (aT (vE 0) (vE 4)) (aT (vE 0) (vE 5))) 2 [] (.tp [.nm 0,.nm 1]) (bE (cR (vE 0) (vE 1)))))
abbrev aB5:FS :=
 (aI (aC 3 (bW (vE 1) (cE (.int 4))))
 (aI (aC 4 (bW (cH (vE 1) (cE (.int 4))) (bJ (vE 0))))
 (aI (aC 5 (bW (cH (vE 1) (cE (.int 52))) (bJ (vE 0))))
 (ifS (orT (bT (eqE (vE 3) (cE (.int 0)))) (bT (vE 2)))
  kN
  (ifS (bT (eqE (vE 3) (cE (.int 1))))
   aI8
   (ifS (iB (bT (eqE (vE 3) (cE (.int 2)))) (bT (neE (vE 4) (vE 5))))
    aJc
    (ifS (iB (bT (eqE (vE 3) (cE (.int 3)))) (bT (ltE (bJ (vE 0)) (cE (.int 12)))))
     aHe
     cG)))))))
theorem aTi (ρ:Mir.Env):aOo ρ=.ok (sc (.int p20)):=aV (C:=CW) (G:=fun i j=>i^j.toNat) (i:=10) (j:=20) rfl rfl (by decide +kernel)
abbrev hE (fr:Bool)(R:List (List Int))(c:Int)(g:Bool)(a:Int)(p q:Nat)(x6 x7:Option Res):Mir.Env:=[tR fr R,some ⟨.shr,false,.int c⟩,some ⟨.shr,false,.bl g⟩,nR a,nR p,nR q,x6,x7]
theorem zH {f:FE}{ρ:Mir.Env}{k:Kd}{fr:Bool}{r:List Int}(h:f ρ=.ok ⟨k,fr,.lst (li r)⟩)(r0:0<r.length)(r9:r.length<=1000):∃ v:Int,(∀ x∈r,(x.natAbs:Int)<=v)/\sZ (aS (bV f) 1 [] (.nm 0) (bE (jZ (vE 0)))) ρ=.ok (sc (.int v)):=by
 have e:=cB (k:=1) (fs:=[]) (tg:=.nm 0) (b:=bE (jZ (vE 0))) (inj:=D.int) (out:=fun x=>D.int (x.natAbs:Int)) (xs:=r) (fA h) (fun x hx=>by
  refine⟨[some ⟨.shr,fr,.int x⟩],.shr,rfl,dZ ?_,by decide⟩
  have q:jZ (vE 0) [some ⟨.shr,fr,.int x⟩]=.ok (sc (.int (if x<0 then -x else x))):=rfl
  rw[q,show (if x<0 then -x else x)=(x.natAbs:Int) by split<;>omega];rfl) (by rw[sizeLine_eq];omega)
 rw[show (r.map fun x=>D.int (x.natAbs:Int))=li (r.map fun x=>(x.natAbs:Int)) by simp[li]]at e
 refine⟨mxL (r.map fun x=>(x.natAbs:Int)),fun x hx=>?_,?_⟩
 · obtain⟨m,hm⟩:∃ m,r.map (fun x=>(x.natAbs:Int))=m:=⟨_,rfl⟩
   have xm:(x.natAbs:Int)∈m:=hm▸Ex hx;rw[hm];cases m with
   | nil=>cases xm
   | cons n ns =>
    obtain⟨a1,a2,_⟩:=rL ns n;show _<=ns.foldl max n
    rcases Ag.mp xm with h | h
    · omega
    · exact a2 _ h
 · simp only[sZ,e,R.ok_bind,asL,qG,Ab,if_pos r0]
structure Sp (n:Nat)(R R':List (List Int)):Prop where
 row:∀ r∈R',r.length=n
 to:∀ r∈R',In n R (fn r)
 fro:∀ r∈R,In n R' (fn r)
theorem Sp.refl {n:Nat}{R:List (List Int)}(h:∀ r∈R,r.length=n):Sp n R R:=⟨h,fun _ hr=>.row hr fun _ _=>rfl,fun _ hr=>.row hr fun _ _=>rfl⟩
theorem Sp.trans {n:Nat}{A B C:List (List Int)}(h:Sp n A B)(k:Sp n B C):Sp n A C:=⟨k.row,fun r hr=>In.of h.to (k.to r hr),fun r hr=>In.of k.fro (h.fro r hr)⟩
theorem dJ {R:List (List Int)}{i:Nat}(h:i<R.length):R.getD i []∈R:=Mir.bA h
theorem aIo {n p:Nat}{R:List (List Int)}{v:List Int}(hr:∀ r∈R,r.length=n)(hp:p<R.length)(hv:v.length=n)(h1:In n R (fn v))(h2:In n (R.set p v) (fn (R.getD p []))):Sp n R (R.set p v):=by
 refine⟨fun r h=>?_,fun r h=>?_,fun r h=>?_⟩
 · rcases Bt h with z | z
   · exact hr r z
   · rw[z];exact hv
 · rcases Bt h with z | z
   · exact .row z fun _ _=>rfl
   · rw[z];exact h1
 · obtain⟨i,hi,rfl⟩:=Bg.mp h
   by_cases e:i=p
   · subst e
     rw[Aa,Ac hi]at h2;exact h2
   · refine .row (r:=R[i]) ?_ fun _ _=>rfl
     have:(R.set p v)[i]'(by rw[Ar];exact hi)=R[i]:=List.getElem_set_ne (fun h=>e h.symm) _
     rw[←this];exact Dd _
theorem aCi {R:List (List Int)}{p i:Nat}{v:List Int}(hp:p<R.length):(R.set p v).getD i []=if i=p then v else R.getD i []:=aEi hp i
theorem aLj {n p q:Nat}{R:List (List Int)}(hr:∀ r∈R,r.length=n)(hp:p<R.length)(hq:q<R.length):Sp n R ((R.set p (R.getD q [])).set q (R.getD p [])):=by
 have at_:∀ i,((R.set p (R.getD q [])).set q (R.getD p [])).getD i []=if i=q then R.getD p [] else if i=p then R.getD q [] else R.getD i []:=fun i=>by
  rw[aCi (by rw[Ar];exact hq),aCi hp]
 have sub:∀ r∈(R.set p (R.getD q [])).set q (R.getD p []),r∈R:=fun r h=>by
  rcases Bt h with z | z
  · rcases Bt z with z | z
    · exact z
    · rw[z];exact dJ hq
  · rw[z];exact dJ hp
 have sup:∀ i,i<R.length->R.getD i []∈(R.set p (R.getD q [])).set q (R.getD p []):=fun i hi=>by
  have ln:((R.set p (R.getD q [])).set q (R.getD p [])).length=R.length:=by rw[Ar,Ar]
  by_cases e:i=p
  · rw[show R.getD i []=((R.set p (R.getD q [])).set q (R.getD p [])).getD q [] by rw[at_,if_pos rfl,e]]
    exact dJ (by rw[ln];exact hq)
  · by_cases e2:i=q
    · by_cases e3:p=q
      · exact absurd (e2.trans e3.symm) e
      · rw[show R.getD i []=((R.set p (R.getD q [])).set q (R.getD p [])).getD p [] by rw[at_,if_neg e3,if_pos rfl,e2]]
        exact dJ (by rw[ln];exact hp)
    · rw[show R.getD i []=((R.set p (R.getD q [])).set q (R.getD p [])).getD i [] by rw[at_,if_neg e2,if_neg e]]
      exact dJ (by rw[ln];exact hi)
 refine⟨fun r h=>hr r (sub r h),fun r h=>.row (sub r h) fun _ _=>rfl,fun r h=>?_⟩
 obtain⟨i,hi,rfl⟩:=Bg.mp h;have:=sup i hi
 rw[show R.getD i []=R[i] by rw[Aa,Ac hi];rfl]at this
 exact .row this fun _ _=>rfl
theorem aKc (k:Int)(r:List Int)(j:Nat):(r.map fun x=>k*x).getD j 0=k*r.getD j 0:=by
 simp only[Aa,Ax];cases r[j]? with
 | none=>simp
 | some a=>rfl
theorem yP (k:Int):∀ (a b:List Int),a.length=b.length->∀ j,((a.zip b).map fun p=>p.1+k*p.2).getD j 0=a.getD j 0+k*b.getD j 0
 | [],[],_,j=>by simp
 | x :: a,y :: b,h,0=>by simp
 | x :: a,y :: b,h,j+1=>by simpa using yP k a b (by simpa using h) j
theorem aOl {n p:Nat}{R:List (List Int)}{k:Int}(hr:∀ r∈R,r.length=n)(hp:p<R.length)(k0:k≠0):Sp n R (R.set p ((R.getD p []).map fun x=>k*x)):=by
 have m:=dJ hp;refine aIo hr hp (by rw[Ab];exact hr _ m) ?_ ?_
 · exact .lin 1 k 0 (.row m fun _ _=>rfl) (.row m fun _ _=>rfl) (by decide) fun j _=>by show 1*((R.getD p []).map fun x=>k*x).getD j 0=_;rw[aKc];simp
 · have v:(R.getD p []).map (fun x=>k*x)∈R.set p ((R.getD p []).map fun x=>k*x):=List.mem_set hp _
   exact .lin k 1 0 (.row v fun _ _=>rfl) (.row v fun _ _=>rfl) k0 fun j _=>by
    show k*(R.getD p []).getD j 0=1*((R.getD p []).map fun x=>k*x).getD j 0+0*((R.getD p []).map fun x=>k*x).getD j 0
    rw[aKc];omega
theorem aOm {n p q:Nat}{R:List (List Int)}{k:Int}(hr:∀ r∈R,r.length=n)(hp:p<R.length)(hq:q<R.length)(hpq:p≠q):Sp n R (R.set p (((R.getD p []).zip (R.getD q [])).map fun x=>x.1+k*x.2)):=by
 have m:=dJ hp;have m':=dJ hq;have l:(R.getD p []).length=(R.getD q []).length:=by rw[hr _ m,hr _ m']
 refine aIo hr hp (by rw[Ab,Cu,←l,Jk];exact hr _ m) ?_ ?_
 · exact .lin 1 1 k (.row m fun _ _=>rfl) (.row m' fun _ _=>rfl) (by decide) fun j _=>by
    show 1*(((R.getD p []).zip (R.getD q [])).map fun x=>x.1+k*x.2).getD j 0=1*(R.getD p []).getD j 0+k*(R.getD q []).getD j 0
    rw[yP k _ _ l];omega
 · have v:((R.getD p []).zip (R.getD q [])).map (fun x=>x.1+k*x.2)∈R.set p (((R.getD p []).zip (R.getD q [])).map fun x=>x.1+k*x.2):=List.mem_set hp _
   have v':R.getD q []∈R.set p (((R.getD p []).zip (R.getD q [])).map fun x=>x.1+k*x.2):=by
    have:=aCi (R:=R) (p:=p) (i:=q) (v:=((R.getD p []).zip (R.getD q [])).map fun x=>x.1+k*x.2) hp
    rw[if_neg (fun h=>hpq h.symm)]at this;have z:=dJ (R:=R.set p (((R.getD p []).zip (R.getD q [])).map fun x=>x.1+k*x.2)) (i:=q) (by rw[Ar];exact hq)
    rw[this]at z;exact z
   exact .lin 1 1 (-k) (.row v fun _ _=>rfl) (.row v' fun _ _=>rfl) (by decide) fun j _=>by
    show 1*(R.getD p []).getD j 0=1*(((R.getD p []).zip (R.getD q [])).map fun x=>x.1+k*x.2).getD j 0+-k*(R.getD q []).getD j 0
    rw[yP k _ _ l,Em];omega
theorem aPx {n p q:Nat}{R:List (List Int)}(hr:∀ r∈R,r.length=n)(hp:p<R.length)(hq:q<R.length):Sp n R (R++[((R.getD p []).zip (R.getD q [])).map fun x=>x.1+1*x.2]):=by
 have m:=dJ hp;have m':=dJ hq;have l:(R.getD p []).length=(R.getD q []).length:=by rw[hr _ m,hr _ m']
 refine⟨fun r h=>?_,fun r h=>?_,fun r h=>.row (Bk _ h) fun _ _=>rfl⟩<;>rcases An.mp h with z | z
 · exact hr r z
 · rw[Ap.mp z,Ab,Cu,←l,Jk];exact hr _ m
 · exact .row z fun _ _=>rfl
 · rw[Ap.mp z]
   exact .lin 1 1 1 (.row m fun _ _=>rfl) (.row m' fun _ _=>rfl) (by decide) fun j _=>by
    show 1*(((R.getD p []).zip (R.getD q [])).map fun x=>x.1+1*x.2).getD j 0=1*(R.getD p []).getD j 0+1*(R.getD q []).getD j 0
    rw[yP 1 _ _ l];omega
end Fm
namespace Fm
open PySem L2 Mir Hm Be Sm Dr
def cap:Nat:=4*10^20
structure Bnd (g:Bool)(R:List (List Int)):Prop where
 t:g=true->BN 172 R
 f:g=false->∀ r∈R,∀ x∈r,x.natAbs<=cap*2^R.length
structure Gs (n:Nat)(g:Bool)(R R':List (List Int)):Prop where
 sp:Sp n R R'
 l0:0<R'.length
 l1:R'.length<=12
 bd:Bnd g R'
section
variable {n p q:Nat}{g fr:Bool}{R:List (List Int)}{c a:Int}{x6 x7:Option Res}
theorem aKh (x6 x7:Option Res)(hp:p<R.length):∃ f,aT (vE 0) (vE 4) (hE fr R c g a p q x6 x7)=.ok ⟨.shr,f,.lst (li (R.getD p []))⟩:=⟨_,fT (k:=.own) (fr:=fr||(D.lst (lil R)).imm) (ds:=lil R) rfl (k':=.shr) (fr':=true) (i:=p) rfl (hV hp)⟩
theorem aPd (x6 x7:Option Res)(hq:q<R.length):∃ f,aT (vE 0) (vE 5) (hE fr R c g a p q x6 x7)=.ok ⟨.shr,f,.lst (li (R.getD q []))⟩:=⟨_,fT (k:=.own) (fr:=fr||(D.lst (lil R)).imm) (ds:=lil R) rfl (k':=.shr) (fr':=true) (i:=q) rfl (hV hq)⟩
theorem aMu {e j:FE}{i:Nat}{r:List Int}{k k':Kd}{f' f'':Bool}(hf:e (hE fr R c g a p q x6 x7)=.ok ⟨k,f',.lst (li r)⟩)(hk:k≠.own)(hj:j (hE fr R c g a p q x6 x7)=.ok ⟨k',f'',.int (i:Nat)⟩)(hi:i<R.length):∃ f2,gH 0 j e (hE fr R c g a p q x6 x7)=.nx (hE f2 (R.set i r) c g a p q x6 x7):=by
 refine⟨fr&&f',(aCj (i:=0) (fr:=fr) (ds:=lil R) hf hk rfl hj (aJ9 (by omega) (by rw[Ab];omega))).trans ?_⟩
 rw[show (lil R).set ((i:Int)).toNat (.lst (li r))=lil (R.set i r) by simp[lil,List.map_set]]
 rfl
theorem aKl (hr:∀ r∈R,r.length=n)(l1:R.length<=12)(hp:p<R.length)(hq:q<R.length)(B:Bnd g R):∃ f2 R' y6,Gs n g R R'/\kN (hE fr R c g a p q none none)=.nx (hE f2 R' c g a p q y6 none):=by
 obtain⟨f1,e1⟩:=aKh (fr:=fr) (c:=c) (g:=g) (a:=a) (q:=q) none none hp;have s1:aC 6 (aT (vE 0) (vE 4)) (hE fr R c g a p q none none)=.nx (hE fr R c g a p q (some ⟨.shr,f1,.lst (li (R.getD p []))⟩) none):=set_shr e1;obtain⟨f3,e3⟩:=aPd (fr:=fr) (c:=c) (g:=g) (a:=a) (p:=p) (some ⟨.shr,f1,.lst (li (R.getD p []))⟩) none hq;obtain⟨f4,e4⟩:=aMu (j:=vE 4) (i:=p) (k':=.shr) (f'':=true) e3 (by decide) rfl hp
 obtain⟨f5,e5⟩:=aMu (fr:=f4) (c:=c) (g:=g) (a:=a) (p:=p) (q:=q) (x6:=some ⟨.shr,f1,.lst (li (R.getD p []))⟩) (x7:=none) (R:=R.set p (R.getD q [])) (e:=vE 6) (r:=R.getD p []) (k:=.shr) (f':=f1||(D.lst (li (R.getD p []))).imm) (j:=vE 5) (i:=q) (k':=.shr) (f'':=true) rfl (by decide) rfl (by rw[Ar];exact hq)
 have S:=aLj hr hp hq;refine⟨f5,_,_,⟨S,by rw[Ar,Ar];omega,by rw[Ar,Ar];exact l1,⟨fun h r hm x hx=>?_,fun h r hm x hx=>?_⟩⟩,(aF s1).trans ((aF e4).trans e5)⟩
 all_goals
  have rm:r∈R:=by
   rcases Bt hm with z | z
   · rcases Bt z with z | z
     · exact z
     · rw[z];exact dJ hq
   · rw[z];exact dJ hp
 · exact B.t h r rm x hx
 · rw[Ar,Ar];exact B.f h r rm x hx
theorem aNi {v x:Int}(h:(x.natAbs:Int)<=v)(hv:v<p20):x.natAbs<10^20:=by
 have:p20=((10^20:Nat):Int):=by decide +kernel
 omega
theorem aNp:cap=4*10^20:=rfl
theorem aCa (n:Nat):cap<=cap*2^n:=Nat.le_mul_of_pos_right _ (Dl n)
theorem aQl (n1:1<=n)(n5:n<=5)(hg:g=false)(hr:∀ r∈R,r.length=n)(l1:R.length<=12)(hp:p<R.length)(B:Bnd g R):∃ f2 R' y7,Gs n g R R'/\aI8 (hE fr R c g a p q none none)=.nx (hE f2 R' c g a p q none y7):=by
 have rl:=hr _ (dJ hp)
 obtain⟨k,k0,k4,ek⟩:∃ k:Int,k≠0/\k.natAbs<=4/\aT (cF [dB (cE (.int 3)),dB (cE (.int 2)),dB (cE (.int 1)),cE (.int 2),cE (.int 3),cE (.int 4)]) (bW (cH (vE 1) (cE (.int 676))) (cE (.int 6))) (hE fr R c g a p q none none)=.ok (sc (.int k)):=by
  have v:bW (cH (vE 1) (cE (.int 676))) (cE (.int 6)) (hE fr R c g a p q none none)=.ok (sc (.int (c/676%6))):=aV (C:=CP) (G:=fun i j=>i%j) (aV (C:=CD) (G:=fun i j=>i/j) (f:=vE 1) (k:=.shr) (fr:=true) (i:=c) rfl (g:=cE (.int 676)) (k':=.shr) (fr':=true) (j:=676) rfl (nO (by decide) (by decide))) (g:=cE (.int 6)) (k':=.shr) (fr':=true) (j:=6) rfl (gC (by decide))
  have l:cF [dB (cE (.int 3)),dB (cE (.int 2)),dB (cE (.int 1)),cE (.int 2),cE (.int 3),cE (.int 4)] (hE fr R c g a p q none none)=.ok ⟨.tmp,true,.lst (li [-3,-2,-1,2,3,4])⟩:=rfl;have h0:=By (c/676) (show (6:Int)≠0 by decide)
  have h1:=Bq (c/676) (show (0:Int)<6 by decide)
  obtain⟨i,hi⟩:=Dg h0;rw[hi]at v h1;have i6:i<6:=by omega
  have all:∀ z∈([-3,-2,-1,2,3,4]:List Int),z≠0/\z.natAbs<=4:=by decide
  have m:([-3,-2,-1,2,3,4]:List Int).getD i 0∈([-3,-2,-1,2,3,4]:List Int):=Mir.bA i6;exact⟨_,(all _ m).1,(all _ m).2,eU l v (gT i6)⟩
 have s1:aC 7 (aT (cF [dB (cE (.int 3)),dB (cE (.int 2)),dB (cE (.int 1)),cE (.int 2),cE (.int 3),cE (.int 4)]) (bW (cH (vE 1) (cE (.int 676))) (cE (.int 6)))) (hE fr R c g a p q none none)=.nx (hE fr R c g a p q none (nR k)):=set_shr ek;obtain⟨f1,e1⟩:=aKh (fr:=fr) (c:=c) (g:=g) (a:=a) (q:=q) none (nR k) hp;obtain⟨v,hv,em⟩:=zH e1 (by rw[rl];omega) (by rw[rl];omega)
 have t:=dH (cW (G:=fun i j=>decide (i<j)) em (aTi _));by_cases h:v<p20
 · rw[decide_eq_true h]at t
   have sm:∀ x∈R.getD p [],x.natAbs<10^20:=fun x hx=>aNi (hv x hx) h;have pw:(10:Nat)^20<2^1000:=Af (show 10^20<2^70 by decide) (Cp (by decide) (by decide))
   have e:=cB (k:=1) (fs:=[7]) (tg:=.nm 0) (b:=bE (bP (vE 1) (vE 0))) (inj:=D.int) (out:=fun x=>D.int (k*x)) (xs:=R.getD p []) (fA e1) (fun x hx=>by
    have:=sm x hx
    exact⟨[some ⟨.shr,f1,.int x⟩,nR k],.shr,rfl,dZ (aV (C:=CM) (G:=fun i j=>i*j) (f:=vE 1) (k:=.shr) (fr:=true) (i:=k) rfl (g:=vE 0) (k':=.shr) (j:=x) rfl (kH (sm9 (by omega)) (by omega))),by decide⟩) (by rw[rl,sizeLine_eq];omega)
   rw[show ((R.getD p []).map fun x=>D.int (k*x))=li ((R.getD p []).map fun x=>k*x) by simp[li]]at e
   obtain⟨f2,e2⟩:=aMu (j:=vE 4) (i:=p) (k':=.shr) (f'':=true) e (by decide) rfl hp
   refine⟨f2,_,_,⟨aOl hr hp k0,by rw[Ar];omega,by rw[Ar];exact l1,⟨fun h=>absurd h (by rw[hg];decide),fun h r hm x hx=>?_⟩⟩,(aF s1).trans ((cM t).trans e2)⟩
   rw[Ar];rcases Bt hm with z | z
   · exact B.f h r z x hx
   · rw[z]at hx
     obtain⟨y,hy,rfl⟩:=Ai.mp hx;have:=sm y hy
     refine Bp ?_ (aCa R.length)
     rw[Eh,aNp];exact Hd k4 (by omega)
 · rw[decide_eq_false h]at t
   exact⟨fr,R,_,⟨Sp.refl hr,by omega,l1,B⟩,(aF s1).trans ((cM t).trans rfl)⟩
theorem aOw (n1:1<=n)(n5:n<=5)(hg:g=false)(hr:∀ r∈R,r.length=n)(l1:R.length<=12)(hp:p<R.length)(hq:q<R.length)(hpq:p≠q)(B:Bnd g R):∃ f2 R' y7,Gs n g R R'/\aJc (hE fr R c g a p q none none)=.nx (hE f2 R' c g a p q none y7):=by
 have rl:=hr _ (dJ hp);have ql:=hr _ (dJ hq);have h0:=By (c/676) (show (7:Int)≠0 by decide)
 have h1:=Bq (c/676) (show (0:Int)<7 by decide)
 have s1:aC 7 (fR (bW (cH (vE 1) (cE (.int 676))) (cE (.int 7))) (cE (.int 3))) (hE fr R c g a p q none none)=.nx (hE fr R c g a p q none (nR (c/676%7-3))):=set_shr (aV (C:=C0) (G:=fun i j=>i-j) (aV (C:=CP) (G:=fun i j=>i%j) (aV (C:=CD) (G:=fun i j=>i/j) (f:=vE 1) (k:=.shr) (fr:=true) (i:=c) rfl (g:=cE (.int 676)) (k':=.shr) (fr':=true) (j:=676) rfl (nO (by decide) (by decide))) (g:=cE (.int 7)) (k':=.shr) (fr':=true) (j:=7) rfl (gC (by decide))) (g:=cE (.int 3)) (k':=.shr) (fr':=true) (j:=3) rfl rfl)
 generalize hk:c/676%7-3=k at s1
 have k3:k.natAbs<=3:=by omega
 obtain⟨f1,e1⟩:=aKh (fr:=fr) (c:=c) (g:=g) (a:=a) (q:=q) none (nR k) hp;obtain⟨f2,e2⟩:=aPd (fr:=fr) (c:=c) (g:=g) (a:=a) (p:=p) none (nR k) hq;have ec:=vU e1 e2 (by rw[Ab,Ab,rl,ql,sizeLine_eq];omega)
 rw[show li (R.getD p [])++li (R.getD q [])=li (R.getD p []++R.getD q []) by simp[li]]at ec
 obtain⟨v,hv,em⟩:=zH ec (by rw[Al,rl];omega) (by rw[Al,rl,ql];omega)
 have t:=dH (cW (G:=fun i j=>decide (i<j)) em (aTi _));by_cases h:v<p20
 · rw[decide_eq_true h]at t
   have sm:∀ x∈R.getD p []++R.getD q [],x.natAbs<10^20:=fun x hx=>aNi (hv x hx) h;have pw:(10:Nat)^20<2^1000:=Af (show 10^20<2^70 by decide) (Cp (by decide) (by decide))
   have e:=cB (k:=2) (fs:=[7]) (tg:=.tp [.nm 0,.nm 1]) (b:=bE (cR (vE 0) (bP (vE 2) (vE 1)))) (out:=fun x:Int×Int=>D.int (x.1+k*x.2)) (pB e1 e2) (fun x hx=>by
    obtain⟨q1,q2⟩:=Bx (a:=x.1) (b:=x.2) hx;have:=sm x.2 (Ak _ q2)
    exact⟨[some ⟨.shr,f1&&f2,.int x.1⟩,some ⟨.shr,f1&&f2,.int x.2⟩,nR k],.shr,rfl,dZ (aV (C:=C0) (G:=fun i j=>i+j) (f:=vE 0) (k:=.shr) (i:=x.1) rfl (aV (C:=CM) (G:=fun i j=>i*j) (f:=vE 2) (k:=.shr) (fr:=true) (i:=k) rfl (g:=vE 1) (k':=.shr) (j:=x.2) rfl (kH (sm9 (by omega)) (by omega))) rfl),by decide⟩) (by rw[Cu,rl,sizeLine_eq];omega)
   rw[show (((R.getD p []).zip (R.getD q [])).map fun x:Int×Int=>D.int (x.1+k*x.2))=li (((R.getD p []).zip (R.getD q [])).map fun x=>x.1+k*x.2) by simp[li]]at e
   obtain⟨f3,e3⟩:=aMu (j:=vE 4) (i:=p) (k':=.shr) (f'':=true) e (by decide) rfl hp
   refine⟨f3,_,_,⟨aOm hr hp hq hpq,by rw[Ar];omega,by rw[Ar];exact l1,⟨fun h=>absurd h (by rw[hg];decide),fun h r hm x hx=>?_⟩⟩,(aF s1).trans ((cM t).trans e3)⟩
   rw[Ar];rcases Bt hm with z | z
   · exact B.f h r z x hx
   · rw[z]at hx
     obtain⟨y,hy,rfl⟩:=Ai.mp hx;obtain⟨q1,q2⟩:=Bx (a:=y.1) (b:=y.2) hy;have b1:=sm y.1 (Bk _ q1);have b2:=sm y.2 (Ak _ q2);refine Bp ?_ (aCa R.length)
     have b3:(k*y.2).natAbs<=3*10^20:=by rw[Eh];exact Hd k3 (by omega)
     have:=Je y.1 (k*y.2)
     rw[aNp];omega
 · rw[decide_eq_false h]at t
   exact⟨fr,R,_,⟨Sp.refl hr,by omega,l1,B⟩,(aF s1).trans ((cM t).trans rfl)⟩
theorem aMa (n5:n<=5)(hg:g=false)(hr:∀ r∈R,r.length=n)(l1:R.length<12)(hp:p<R.length)(hq:q<R.length)(B:Bnd g R):∃ f2 R',Gs n g R R'/\aHe (hE fr R c g a p q none none)=.nx (hE f2 R' c g a p q none none):=by
 have rl:=hr _ (dJ hp);obtain⟨f1,e1⟩:=aKh (fr:=fr) (c:=c) (g:=g) (a:=a) (q:=q) none none hp;obtain⟨f2,e2⟩:=aPd (fr:=fr) (c:=c) (g:=g) (a:=a) (p:=p) none none hq
 have e:=cB (k:=2) (fs:=[]) (tg:=.tp [.nm 0,.nm 1]) (b:=bE (cR (vE 0) (vE 1))) (out:=fun x:Int×Int=>D.int (x.1+1*x.2)) (pB e1 e2) (fun x hx=>⟨[some ⟨.shr,f1&&f2,.int x.1⟩,some ⟨.shr,f1&&f2,.int x.2⟩],.shr,rfl,dZ (by
  rw[Fh]
  exact aV (C:=C0) (G:=fun i j=>i+j) (f:=vE 0) (k:=.shr) (i:=x.1) rfl (g:=vE 1) (k':=.shr) (j:=x.2) rfl rfl),by decide⟩) (by rw[Cu,rl,sizeLine_eq];omega)
 rw[show (((R.getD p []).zip (R.getD q [])).map fun x:Int×Int=>D.int (x.1+1*x.2))=li (((R.getD p []).zip (R.getD q [])).map fun x=>x.1+1*x.2) by simp[li]]at e
 have e3:=tG (i:=0) (ρ:=hE fr R c g a p q none none) (fr:=fr) (ds:=lil R) rfl e (by decide) (by rw[Ab,sizeLine_eq];omega)
 rw[show lil R++[D.lst (li (((R.getD p []).zip (R.getD q [])).map fun x=>x.1+1*x.2))]=lil (R++[((R.getD p []).zip (R.getD q [])).map fun x=>x.1+1*x.2]) by simp[lil]]at e3
 refine⟨_,_,⟨aPx hr hp hq,by simp,by simp;omega,⟨fun h=>absurd h (by rw[hg];decide),fun h r hm x hx=>?_⟩⟩,e3⟩
 have e2:cap*2^(R++[((R.getD p []).zip (R.getD q [])).map fun (x:Int×Int)=>x.1+1*x.2]).length=2*(cap*2^R.length):=by
  rw[Al,Bn,Ir,←Gm,Ey]
 rw[e2];rcases An.mp hm with z | z
 · have:=B.f h r z x hx;omega
 · rw[Ap.mp z]at hx
   obtain⟨y,hy,rfl⟩:=Ai.mp hx;obtain⟨q1,q2⟩:=Bx (a:=y.1) (b:=y.2) hy;have b1:=B.f h _ (dJ hp) y.1 q1;have b2:=B.f h _ (dJ hq) y.2 q2;have:=Je y.1 (1*y.2)
   rw[Fh]at this ⊢;omega
theorem aQi (n1:1<=n)(n5:n<=5)(c0:0<=c)(hr:∀ r∈R,r.length=n)(l0:0<R.length)(l1:R.length<=12)(B:Bnd g R):∃ R',Gs n g R R'/\aCu 3 8 aB5 (.lst (lil R)) [.int c,.bl g]=.ok (.lst (lil R')):=by
 have st:stO 8 (.lst (lil R)) [.int c,.bl g]=[tR false R,some ⟨.shr,false,.int c⟩,some ⟨.shr,false,.bl g⟩,none,none,none,none,none]:=rfl;obtain⟨a,ha⟩:∃ a,c%4=a:=⟨_,rfl⟩;have m0:=By (c/4) (show (R.length:Int)≠0 by omega)
 have m1:=Bq (c/4) (show (0:Int)<R.length by omega)
 obtain⟨p,hp⟩:=Dg m0;have w0:=By (c/52) (show (R.length:Int)≠0 by omega)
 have w1:=Bq (c/52) (show (0:Int)<R.length by omega)
 obtain⟨q,hq⟩:=Dg w0;rw[hp]at m1;rw[hq]at w1;have p1:p<R.length:=by omega
 have q1:q<R.length:=by omega
 have e1:aC 3 (bW (vE 1) (cE (.int 4))) [tR false R,some ⟨.shr,false,.int c⟩,some ⟨.shr,false,.bl g⟩,none,none,none,none,none]=.nx [tR false R,some ⟨.shr,false,.int c⟩,some ⟨.shr,false,.bl g⟩,nR a,none,none,none,none]:=by
  have:=aV (C:=CP) (G:=fun i j=>i%j) (f:=vE 1) (ρ:=[tR false R,some ⟨.shr,false,.int c⟩,some ⟨.shr,false,.bl g⟩,none,none,none,none,none]) (k:=.shr) (fr:=true) (i:=c) rfl (g:=cE (.int 4)) (k':=.shr) (fr':=true) (j:=4) rfl (gC (by decide))
  rw[ha]at this;exact set_shr this
 have ln:∀ x3 x4 x5 x6 x7,bJ (vE 0) [tR false R,some ⟨.shr,false,.int c⟩,some ⟨.shr,false,.bl g⟩,x3,x4,x5,x6,x7]=.ok (sc (.int (R.length:Nat))):=fun x3 x4 x5 x6 x7=>by
  have:=eF (f:=vE 0) (ρ:=[tR false R,some ⟨.shr,false,.int c⟩,some ⟨.shr,false,.bl g⟩,x3,x4,x5,x6,x7]) (k:=.own) (fr:=false||(D.lst (lil R)).imm) (ds:=lil R) rfl
  rwa [Ab]at this
 have e2:aC 4 (bW (cH (vE 1) (cE (.int 4))) (bJ (vE 0))) [tR false R,some ⟨.shr,false,.int c⟩,some ⟨.shr,false,.bl g⟩,nR a,none,none,none,none]=.nx [tR false R,some ⟨.shr,false,.int c⟩,some ⟨.shr,false,.bl g⟩,nR a,nR p,none,none,none]:=by
  have:=aV (C:=CP) (G:=fun i j=>i%j) (aV (C:=CD) (G:=fun i j=>i/j) (f:=vE 1) (ρ:=[tR false R,some ⟨.shr,false,.int c⟩,some ⟨.shr,false,.bl g⟩,nR a,none,none,none,none]) (k:=.shr) (fr:=true) (i:=c) rfl (g:=cE (.int 4)) (k':=.shr) (fr':=true) (j:=4) rfl (nO (by decide) (by decide))) (ln _ _ _ _ _) (gC (by omega))
  rw[hp]at this;exact set_shr this
 have e3:aC 5 (bW (cH (vE 1) (cE (.int 52))) (bJ (vE 0))) [tR false R,some ⟨.shr,false,.int c⟩,some ⟨.shr,false,.bl g⟩,nR a,nR p,none,none,none]=.nx (hE false R c g a p q none none):=by
  have:=aV (C:=CP) (G:=fun i j=>i%j) (aV (C:=CD) (G:=fun i j=>i/j) (f:=vE 1) (ρ:=[tR false R,some ⟨.shr,false,.int c⟩,some ⟨.shr,false,.bl g⟩,nR a,nR p,none,none,none]) (k:=.shr) (fr:=true) (i:=c) rfl (g:=cE (.int 52)) (k':=.shr) (fr':=true) (j:=52) rfl (nO (by decide) (by decide))) (ln _ _ _ _ _) (gC (by omega))
  rw[hq]at this;exact set_shr this
 have fin:∀ {A:FS} {f2:Bool} {R':List (List Int)} {y6 y7:Option Res},Gs n g R R'->(ifS (orT (bT (eqE (vE 3) (cE (.int 0)))) (bT (vE 2))) kN (ifS (bT (eqE (vE 3) (cE (.int 1)))) aI8 (ifS (iB (bT (eqE (vE 3) (cE (.int 2)))) (bT (neE (vE 4) (vE 5)))) aJc (ifS (iB (bT (eqE (vE 3) (cE (.int 3)))) (bT (ltE (bJ (vE 0)) (cE (.int 12))))) aHe cG)))) (hE false R c g a p q none none)=.nx (hE f2 R' c g a p q y6 y7)->∃ R',Gs n g R R'/\aCu 3 8 aB5 (.lst (lil R)) [.int c,.bl g]=.ok (.lst (lil R')):=fun {A f2 R' y6 y7} G e=>by
  refine⟨R',G,?_⟩
  have:aB5 (stO 8 (.lst (lil R)) [.int c,.bl g])=.nx (hE f2 R' c g a p q y6 y7):=by
   rw[st];exact(aF e1).trans ((aF e2).trans ((aF e3).trans e))
  unfold aCu;rw[if_pos (show [D.int c,D.bl g].length+1=3 from rfl)]
  simp only[this];rfl
 have ea:∀ z:Int,eqE (vE 3) (cE (.int z)) (hE false R c g a p q none none)=.ok (sc (.bl (decide (a=z)))):=fun z=>jS (k:=.shr) (fr:=true) (i:=a) rfl (k':=.shr) (fr':=true) (j:=z) rfl
 have t0:orT (bT (eqE (vE 3) (cE (.int 0)))) (bT (vE 2)) (hE false R c g a p q none none)=.ok (decide (a=0)||g):=by
  have b2:bT (vE 2) (hE false R c g a p q none none)=.ok g:=rfl;rw[yI (dH (ea 0)) fun _=>b2];cases decide (a=0)<;>rfl
 by_cases h0:(decide (a=0)||g)=true
 · rw[h0]at t0
   obtain⟨f2,R',y6,G,e⟩:=aKl (fr:=false) (c:=c) (a:=a) hr l1 p1 q1 B;exact fin (A:=kN) G ((cM t0).trans e)
 · rw[Et.mpr h0]at t0
   have hg:g=false:=by cases g<;>simp_all
   have t1:=dH (ea 1);by_cases h1:a=1
   · rw[decide_eq_true h1]at t1
     obtain⟨f2,R',y7,G,e⟩:=aQl (fr:=false) (c:=c) (a:=a) (q:=q) n1 n5 hg hr l1 p1 B;exact fin (A:=kN) G ((cM t0).trans ((cM t1).trans e))
   · rw[decide_eq_false h1]at t1
     have t2:=zJ (ea 2) (rW (f:=vE 4) (g:=vE 5) (ρ:=hE false R c g a p q none none) (k:=.shr) (fr:=true) (i:=(p:Int)) rfl (k':=.shr) (fr':=true) (j:=(q:Int)) rfl);by_cases h2:(decide (a=2)&&!decide ((p:Int)=q))=true
     · rw[h2]at t2
       have hpq:p≠q:=by simp at h2;omega
       obtain⟨f2,R',y7,G,e⟩:=aOw (fr:=false) (c:=c) (a:=a) n1 n5 hg hr l1 p1 q1 hpq B;exact fin (A:=kN) G ((cM t0).trans ((cM t1).trans ((cM t2).trans e)))
     · rw[Et.mpr h2]at t2
       have t3:=zJ (ea 3) (cW (G:=fun i j=>decide (i<j)) (ln (nR a) (nR p) (nR q) none none) (g:=cE (.int 12)) (k':=.shr) (fr':=true) (j:=12) rfl);by_cases h3:(decide (a=3)&&decide ((R.length:Int)<12))=true
       · rw[h3]at t3
         have l12:R.length<12:=by simp at h3;omega
         obtain⟨f2,R',G,e⟩:=aMa (fr:=false) (c:=c) (a:=a) n5 hg hr l12 p1 q1 B;exact fin (A:=kN) G ((cM t0).trans ((cM t1).trans ((cM t2).trans ((cM t3).trans e))))
       · rw[Et.mpr h3]at t3
         exact fin (A:=kN) (f2:=false) ⟨Sp.refl hr,l0,l1,B⟩ ((cM t0).trans ((cM t1).trans ((cM t2).trans ((cM t3).trans rfl))))
end
end Fm
namespace Fm
open PySem L2 Mir Hm Be
abbrev aB7 (X:FS):FS:=ifS (bT (neE (bJ (vE 3)) (vE 0))) X cG
abbrev aIc (φ:Φ)(X:FS):FS:=aI (kP (aL φ [vE 0])) (dY (mU (vE 1)) (.tp [.nm 2,.nm 3]) (aB7 X))
theorem aGt {φ:Φ}{X:FS}{m:Nat}{rows:List (List Int)}(h:φ [.int m]=.ok (sc .non))(hr:∀ r∈rows,r.length=m):bY 2 4 (aIc φ X) [.int m,.lst (lil rows)]=.ok (sc .non):=by
 have lp:∀ (rs:List (List Int)) (k:Nat) (fr:Bool) (x2 x3:Option Res),(∀ r∈rs,r.length=m)->∃ y2 y3,fZ (.tp [.nm 2,.nm 3]) (aB7 X) fr ((rs.zipIdx k).map fun p=>.tup [.int (p.2:Nat),.lst (li p.1)]) [some ⟨.shr,false,.int m⟩,some ⟨.shr,false,.lst (lil rows)⟩,x2,x3]=.nx [some ⟨.shr,false,.int m⟩,some ⟨.shr,false,.lst (lil rows)⟩,y2,y3]:=by
  intro rs;induction rs with
  | nil=>intro k fr x2 x3 _;exact⟨x2,x3,rfl⟩
  | cons r rs ih =>
   intro k fr x2 x3 hr;obtain⟨y2,y3,e⟩:=ih (k+1) fr (some ⟨.shr,fr,.int k⟩) (some ⟨.shr,fr,.lst (li r)⟩) fun q hq=>hr q (Ae _ hq);refine⟨y2,y3,?_⟩
   have t:bT (neE (bJ (vE 3)) (vE 0)) [some ⟨.shr,false,.int m⟩,some ⟨.shr,false,.lst (lil rows)⟩,some ⟨.shr,fr,.int k⟩,some ⟨.shr,fr,.lst (li r)⟩]=.ok (!decide (((li r).length:Int)=(m:Int))):=dH (rW (eF (k:=.shr) (fr:=fr||(D.lst (li r)).imm) (ds:=li r) rfl) (k':=.shr) (fr':=true) (j:=(m:Int)) rfl);rw[decide_eq_true (by rw[Ab,hr r Ad])]at t
   have s:=cM (A:=X) (B:=cG) t;rw[Hr,Aj];exact(eA (tg:=.tp [.nm 2,.nm 3]) (b:=aB7 X) (fr:=fr) (d:=.tup [.int (k:Nat),.lst (li r)]) (ρ:=[some ⟨.shr,false,.int m⟩,some ⟨.shr,false,.lst (lil rows)⟩,x2,x3]) rfl (s.trans rfl)).trans e
 have c:kP (aL φ [vE 0]) (stE 4 [.int m,.lst (lil rows)])=.nx [some ⟨.shr,false,.int m⟩,some ⟨.shr,false,.lst (lil rows)⟩,none,none]:=wP (gF (rs:=[⟨.shr,true,.int m⟩]) (aB rfl aY) h);obtain⟨y2,y3,e⟩:=lp rows 0 (false||(D.lst (lil rows)).imm) none none hr
 have it:mU (vE 1) [some ⟨.shr,false,.int m⟩,some ⟨.shr,false,.lst (lil rows)⟩,none,none]=.ok ⟨true,false||(D.lst (lil rows)).imm,(rows.zipIdx 0).map fun p=>.tup [.int (p.2:Nat),.lst (li p.1)]⟩:=by
  have v:vE 1 [some ⟨.shr,false,.int m⟩,some ⟨.shr,false,.lst (lil rows)⟩,none,none]=.ok ⟨.shr,false||(D.lst (lil rows)).imm,.lst (lil rows)⟩:=rfl;simp only[mU,v,R.ok_bind,asL];rw[show rV (lil rows)=(rows.zipIdx 0).map fun p=>.tup [.int (p.2:Nat),.lst (li p.1)] from yG (fun xs=>.lst (li xs)) rows]
  rfl
 exact aCr (np:=2) (n:=4) (s:=aIc φ X) (ds:=[.int m,.lst (lil rows)]) rfl ((aF c).trans ((gA it).trans e))
end Fm
namespace N12
open PySem L2 Mir Hm Be Sm Dr Fm
theorem aKk {m:Nat}(m1:1<=m)(m5:m<=5):(decide ((m:Int)<1)||decide (5<(m:Int)))=false:=by rw[decide_eq_false (by omega),decide_eq_false (by omega)];rfl
theorem aP6 {m:Nat}(m1:1<=m)(m5:m<=5):eS [.int m]=.ok (sc .non):=by
 have t:=aSg (m:Int);rw[aKk m1 m5]at t;exact aCr (ρ:=[some ⟨.shr,false,.int m⟩]) rfl ((cM t).trans rfl)
theorem aUg {m:Nat}(m1:1<=m)(m5:m<=5){rows:List (List Int)}(hr:∀ r∈rows,r.length=m):fN [.int m,.lst (lil rows)]=.ok (sc .non):=aGt (aP6 m1 m5) hr
theorem aHm:nD gG:=fun h=>aK5 (φ:=eQ) (aLk h)
theorem aUb:qV nV:=fun a b c d e f g h i=>aMo a b c d e f g h i
theorem aUk:aG5 jC:=fun a b c d e f g=>aFu aUb a b c d e f g
theorem aU2:aJ8 nG:=fun h=>aLs h
theorem aT6:xT iV:=aJk aHm
theorem aNj:qX mB:=aJv aHm
theorem aN2:pY iD:=aIx
theorem aTb:xC kC:=aJo
theorem zH:qO jP:=aGe aHm
theorem aT2:qH hU:=fun a b c d e f g h i j k=>aTo aT6 aTb aNj aN2 zH a b c d e f g h i j k
theorem aT9:rA kM:=fun a b c d e f=>(aRk aNj aN2 a b c d e f).2
theorem aRl:aEp cP:=fun C a b c d e f g h=>aSx C a aU2 aT2 aT9 zH b c d e f g h
theorem aR9:aEj gQ:=fun F=>aLb aRl aUk F
theorem aRw {n N M:Nat}{t:List (List Int)}(n1:1<=n)(F:Fits n N M t):∃ fr,oC n t fr/\bX [.int n,.lst (lil t)]=.ok ⟨.shr,true,.obj 0 [.int n,.lst (lil fr)]⟩:=aP4 aR9 F (aUg n1 F.n5 F.hr)
theorem aKe:aEo bC:=fun ns k=>aQj ns k
theorem aRv:aEn eC:=fun ns st m {z} h a b=>aOu ns st m h a b
theorem aSa (ns:List Int)(n:Nat)(n1:1<=n)(n5:n<=5):∃ g R,Drw n R/\dN [.lst (li ns),.int 1,.int n]=.ok ⟨.tmp,g,.lst (lil R)⟩:=aLh aKe aRv ns 1 n (by decide) n1 n5
end N12
namespace N12
open PySem L2 Mir Hm Be Sm Dr Fm
structure Cls (n N M:Nat):Prop where
 fit:∀ {t:List (List Int)},(∀ r∈t,r.length=n)->t.length<=1000->BN N t->Fits n N M t
abbrev lE (ns:List Int)(n:Nat)(x2 x3 x4 x5:Option Res):Mir.Env:=[some ⟨.shr,false,.lst (li ns)⟩,nR n,x2,x3,x4,x5]
abbrev bR (g:Bool):Option Res:=some ⟨.shr,true,.bl g⟩
theorem aP7 {ns:List Int}{n:Nat}{x3:Option Res}{f g:Bool}{R:List (List Int)}(k:Nat)(n1:1<=n)(n5:n<=5)(hr:∀ r∈R,r.length=n)(l0:0<R.length)(l1:R.length<=12)(B:Bnd g R) :
 ∃ R',Gs n g R R'/\aGf 2 dI [aL bC [vE 0,vE 5],vE 4] (lE ns n (tR f R) x3 (bR g) (nR k))=.nx (lE ns n (tR false R') x3 (bR g) (nR k)):=by
 obtain⟨R',G,e⟩:=aQi (c:=fD ns k) n1 n5 (aA9 ns k).1 hr l0 l1 B;refine⟨R',G,?_⟩
 have c:aL bC [vE 0,vE 5] (lE ns n (tR f R) x3 (bR g) (nR k))=.ok ⟨.shr,true,.int (fD ns k)⟩:=gF (rs:=[⟨.shr,false||(D.lst (li ns)).imm,.lst (li ns)⟩,⟨.shr,true,.int k⟩]) (aB rfl (aB rfl aY)) (aKe ns k);have ev:evs [aL bC [vE 0,vE 5],vE 4] (lE ns n (tR f R) x3 (bR g) (nR k))=.ok [⟨.shr,true,.int (fD ns k)⟩,⟨.shr,true,.bl g⟩]:=aB c (aB rfl aY);have gv:gives [⟨.shr,true,.int (fD ns k)⟩,⟨.shr,true,.bl g⟩]=.ok (true,[.int (fD ns k),.bl g]):=rfl;have e:dI (.lst (lil R)) [.int (fD ns k),.bl g]=.ok (.lst (lil R')):=e;show aHv 2 _ _ _=_
 unfold aHv;show (evs [aL bC [vE 0,vE 5],vE 4] (lE ns n (tR f R) x3 (bR g) (nR k))).at (lE ns n (tR f R) x3 (bR g) (nR k)) _=_
 rw[ev];simp only[Mir.R.at,gv,e];rfl
theorem aDw {ns:List Int}{n:Nat}{x3:Option Res}{g:Bool}(n1:1<=n)(n5:n<=5):∀ (m k:Nat) {R:List (List Int)} (f:Bool) (x5:Option Res),(∀ r∈R,r.length=n)->0<R.length->R.length<=12->Bnd g R ->
 ∃ f' R' y5,Gs n g R R'/\fZ (.nm 5) (aGf 2 dI [aL bC [vE 0,vE 5],vE 4]) true ((Bv k m).map fun (i:Nat)=>.int (i:Int)) (lE ns n (tR f R) x3 (bR g) x5)=.nx (lE ns n (tR f' R') x3 (bR g) y5)
 | 0,k,R,f,x5,hr,l0,l1,B=>⟨f,R,x5,⟨Sp.refl hr,l0,l1,B⟩,rfl⟩
 | m+1,k,R,f,x5,hr,l0,l1,B=>by
  obtain⟨R1,G1,e1⟩:=aP7 (ns:=ns) (x3:=x3) (f:=f) k n1 n5 hr l0 l1 B;obtain⟨f2,R2,y5,G2,e2⟩:=aDw (ns:=ns) (x3:=x3) n1 n5 m (k+1) false (nR k) G1.sp.row G1.l0 G1.l1 G1.bd;have bd:Tg.bind true (.nm 5) (.int (k:Int)) (lE ns n (tR f R) x3 (bR g) x5)=.ok (lE ns n (tR f R) x3 (bR g) (nR k)):=rfl;refine⟨f2,R2,y5,⟨G1.sp.trans G2.sp,G2.l0,G2.l1,G2.bd⟩,?_⟩
  rw[Dc,Aj];exact(eA bd e1).trans e2
theorem xV {n N M:Nat}(n1:1<=n)(C:Cls n N M){e:FE}{ρ:Mir.Env}{k:Kd}{f:Bool}{t:List (List Int)}(hv:vE 1 ρ=.ok ⟨.shr,true,.int n⟩)(he:e ρ=.ok ⟨k,f,.lst (lil t)⟩)(hr:∀ r∈t,r.length=n)(ht:t.length<=1000)(hB:BN N t) :
 ∃ fr,oC n t fr/\eH 0 1 (aL bX [vE 1,e]) ρ=.ok ⟨.shr,true,.lst (lil fr)⟩:=by
 obtain⟨fr,I,q⟩:=aRw n1 (C.fit hr ht hB);refine⟨fr,I,?_⟩
 have c:=gF (φ:=bX) (aB hv (aB he aY)) q;simp only[eH,c,Mir.R.ok_bind];rfl
theorem wY {n N M N' M':Nat}{t t' fr fr':List (List Int)}(F:Fits n N M t)(F':Fits n N' M' t')(I:oC n t fr)(I':oC n t' fr')(h1:∀ r∈t,In n t' (fn r))(h2:∀ r∈t',In n t (fn r)):fr'=fr :=
 (aLr (sI F' I').1 (sI F I).1 fun v=>⟨In.of h2,In.of h1⟩).1
theorem aTw {n:Nat}(n5:n<=5):Cls n 185 932:=⟨fun hr ht hB=>qM n5 (by decide) (by
 have:=pM 185 (show n-1<=4 by omega)
 have:nb 185 4<=9000:=by decide
 omega) hr ht hB (by omega) (by omega) (by decide)⟩
theorem aSm {n:Nat}(n3:n<=3):Cls n 526 1585:=⟨fun hr ht hB=>qM (by omega) (by decide) (by
 have:=pM 526 (show n-1<=2 by omega)
 have:nb 526 2<=9000:=by decide
 omega) hr ht hB (by omega) (by omega) (by decide)⟩
theorem aH8 {a b:FE}{ρ:Mir.Env}{x y:Res}{i j:Int}(ha:a ρ=.ok x)(hx:x.d=.int i)(hb:b ρ=.ok y)(hy:y.d=.int j)(c:-(2^62)<=i/\i<2^62/\-(2^62)<=j/\j<2^62):gY a b ρ=.ok ⟨true,true,kS i (j-i).toNat⟩:=by
 simp only[gY,ha,hb,hx,hy,asI,Mir.R.ok_bind];rw[if_pos c]
theorem aSs (R:List (List Int)):∃ v:Int,(∀ r∈R,∀ x∈r,(x.natAbs:Int)<=v)/\(v=0\/∃ r∈R,∃ x∈r,v=(x.natAbs:Int))/\eY [.lst (lil R)]=.ok (sc (.int v)):=aS7 R
theorem law_ok (ns:List Int):uU [.lst (ns.map .int)]=.ok (sc (.bl true)):=by
 have h5:=By (fD ns 0) (show (5:Int)≠0 by decide)
 have h5':=Bq (fD ns 0) (show (0:Int)<5 by decide)
 obtain⟨n0,hn0⟩:=Dg h5;rw[hn0]at h5';obtain⟨n,hn⟩:∃ n,n=n0+1:=⟨_,rfl⟩;have n1:1<=n:=by omega
 have n5:n<=5:=by omega
 have e1:aC 1 (cR (cE (.int 1)) (bW (aL bC [vE 0,cE (.int 0)]) (cE (.int 5)))) (stE 6 [.lst (li ns)])=.nx (lE ns n none none none none):=by
  have c:aL bC [vE 0,cE (.int 0)] (stE 6 [.lst (li ns)])=.ok ⟨.shr,true,.int (fD ns 0)⟩:=gF (rs:=[⟨.shr,false||(D.lst (li ns)).imm,.lst (li ns)⟩,⟨.shr,true,.int (0:Nat)⟩]) (aB rfl (aB rfl aY)) (aKe ns 0);have:=aV (C:=C0) (G:=fun i j=>i+j) (f:=cE (.int 1)) (k:=.shr) (fr:=true) (i:=1) rfl (aV (C:=CP) (G:=fun i j=>i%j) c (g:=cE (.int 5)) (k':=.shr) (fr':=true) (j:=5) rfl (gC (by decide))) rfl
  rw[show 1+fD ns 0%5=(n:Int) by rw[hn0];omega]at this
  exact set_shr this
 obtain⟨f0,R,hD,eD⟩:=aSa ns n n1 n5;obtain⟨f1,cD⟩:=Hm.aAf (φ:=dN) (fs:=[vE 0,cE (.int 1),vE 1]) (ρ:=lE ns n none none none none) (aB rfl (aB rfl (aB rfl aY))) eD rfl;have e2:aC 2 (aL dN [vE 0,cE (.int 1),vE 1]) (lE ns n none none none none)=.nx (lE ns n (tR f1 R) none none none):=cS cD;obtain⟨v,v1,v2,ev⟩:=aSs R
 obtain⟨N,M,C,bR0,bf,bg⟩:∃ N M,Cls n N M/\BN N R/\(∀ fr,oC n R fr->BN N fr)/\∀ R',Bnd (decide ((1000000000000:Int)<v)) R'->R'.length<=12->BN N R':=by
  have Lr:=hD.row;have Ll:=hD.len
  have small:v<=1000000000000->∀ R',Bnd (decide ((1000000000000:Int)<v)) R'->R'.length<=12->BN 81 R':=fun h R' B l r hr x hx=>by
   have a:=B.f (decide_eq_false (by omega)) r hr x hx
   have b:cap*2^R'.length<=cap*2^12:=Ce _ (Cp (by decide) l)
   have c:cap*2^12<2^81:=by decide +kernel
   omega
  rcases hD.bd with h | ⟨n3,l3,h⟩
  · have F:Fits n 35 182 R:=qM n5 (by decide) (by
     have:=pM 35 (show n-1<=4 by omega)
     have:nb 35 4<=9000:=by decide
     omega) Lr (by omega) h (by omega) (by omega) (by decide)
    have hv:v<=1000000000000:=by
     rcases v2 with z | ⟨r,hr,x,hx,z⟩
     · omega
     · have:=h r hr x hx
       have:(2:Nat)^35=34359738368:=by decide
       omega
    exact⟨185,932,aTw n5,BN.up h (by decide),fun fr I=>(sI F I).2,fun R' B l=>BN.up (small hv R' B l) (by decide)⟩
  · have F:Fits n 172 523 R:=qM n5 (by decide) (by
     have:=pM 172 (show n-1<=2 by omega)
     have:nb 172 2<=9000:=by decide
     omega) Lr (by omega) h (by omega) (by omega) (by decide)
    refine⟨526,1585,aSm n3,BN.up h (by decide),fun fr I=>(sI F I).2,fun R' B l=>?_⟩
    by_cases hv:(1000000000000:Int)<v
    · exact BN.up (B.t (decide_eq_true hv)) (by decide)
    · exact BN.up (small (by omega) R' B l) (by decide)
 have rl:=hD.row;have ll:=hD.len;obtain⟨f2,ec⟩:=qQ (it:=bV (vE 2)) (ρ:=lE ns n (tR f1 R) none none none) (k:=1) (fs:=[]) (tg:=.nm 0) (b:=bE (tH (vE 0))) (inj:=fun l:List Int=>D.lst (li l)) (out:=fun l:List Int=>D.lst (li l)) (xs:=R) (fA (f:=vE 2) (k:=.own) (fr:=f1||(D.lst (lil R)).imm) (ds:=lil R) rfl) (fun l hl=>⟨[some ⟨.shr,f1||(D.lst (lil R)).imm,.lst (li l)⟩],.tmp,_,rfl,rfl,by decide⟩) (by rw[sizeLine_eq];omega)
 obtain⟨fr,I,ef⟩:=xV (ρ:=lE ns n (tR f1 R) none none none) n1 C rfl ec rl (by omega) bR0
 have e3:aC 3 (eH 0 1 (aL bX [vE 1,aS (bV (vE 2)) 1 [] (.nm 0) (bE (tH (vE 0)))])) (lE ns n (tR f1 R) none none none)=.nx (lE ns n (tR f1 R) (some ⟨.shr,true,.lst (lil fr)⟩) none none):=set_shr ef;have F0:=C.fit rl (by omega) bR0
 have Ff:=(sI F0 I).1;have fl:=Ff.short
 have frr:∀ r∈fr,In n R (fn r):=fun r hr=>by
  obtain⟨i,hi,rfl⟩:=Bg.mp hr;have:=Ff.inn i (by rw[←Ff.len];exact hi)
  rwa [show fr.getD i []=fr[i] by rw[Aa,Ac hi];rfl]at this
 generalize hg:decide ((1000000000000:Int)<v)=g at bg
 have e4:aC 4 (gtE (aL eY [vE 2]) (iM (cE (.int 10)) (cE (.int 12)))) (lE ns n (tR f1 R) (some ⟨.shr,true,.lst (lil fr)⟩) none none)=.nx (lE ns n (tR f1 R) (some ⟨.shr,true,.lst (lil fr)⟩) (bR g) none):=by
  have c:=gF (φ:=eY) (fs:=[vE 2]) (ρ:=lE ns n (tR f1 R) (some ⟨.shr,true,.lst (lil fr)⟩) none none) (aB rfl aY) ev;have p12:iM (cE (.int 10)) (cE (.int 12)) (lE ns n (tR f1 R) (some ⟨.shr,true,.lst (lil fr)⟩) none none)=.ok (sc (.int 1000000000000)):=(aV (C:=CW) (G:=fun i j=>i^j.toNat) (i:=10) (j:=12) rfl rfl (by decide +kernel)).trans rfl
  have:=cW (G:=fun i j=>decide (j<i)) c p12
  rw[hg]at this;exact set_shr this
 have B0:Bnd g R:=⟨fun h=>by
  have hv:(1000000000000:Int)<v:=by rw[h]at hg;exact of_decide_eq_true hg
  rcases hD.bd with q | q
  · exact BN.up q (by decide)
  · exact q.2.2,fun h r hr x hx=>by
  have hv:¬ (1000000000000:Int)<v:=by rw[h]at hg;exact of_decide_eq_false hg
  have:=v1 r hr x hx
  have:=aCa R.length
  have:1000000000000<=cap:=by decide +kernel
  omega⟩
 obtain⟨f3,R',y5,⟨S,l1,B1⟩,e5⟩:∃ f' R' y5,(Sp n R R'/\R'.length<=12/\Bnd g R')/\ifS (bT (gtE (bJ (vE 2)) (cE (.int 0)))) (dY (gY (cE (.int 3)) (uI (bJ (vE 0)) (cE (.int 63)))) (.nm 5) (aGf 2 dI [aL bC [vE 0,vE 5],vE 4])) cG (lE ns n (tR f1 R) (some ⟨.shr,true,.lst (lil fr)⟩) (bR g) none)=.nx (lE ns n (tR f' R') (some ⟨.shr,true,.lst (lil fr)⟩) (bR g) y5):=by
  have t:=dH (cW (G:=fun i j=>decide (j<i)) (eF (f:=vE 2) (ρ:=lE ns n (tR f1 R) (some ⟨.shr,true,.lst (lil fr)⟩) (bR g) none) (k:=.own) (fr:=f1||(D.lst (lil R)).imm) (ds:=lil R) rfl) (g:=cE (.int 0)) (k':=.shr) (fr':=true) (j:=0) rfl);by_cases h:0<R.length
  · rw[decide_eq_true (by rw[Ab];omega)]at t
    obtain⟨m,hm⟩:∃ m:Nat,m=min ns.length 63-3:=⟨_,rfl⟩;obtain⟨f',R',y5,G,e⟩:=aDw (ns:=ns) (x3:=some ⟨.shr,true,.lst (lil fr)⟩) n1 n5 m 3 f1 none rl h ll B0;refine⟨f',R',y5,⟨G.sp,G.l1,G.bd⟩,(cM t).trans ?_⟩
    have mn:uI (bJ (vE 0)) (cE (.int 63)) (lE ns n (tR f1 R) (some ⟨.shr,true,.lst (lil fr)⟩) (bR g) none)=.ok (sc (.int ((min ns.length 63:Nat):Int))):=by
     have a:=eF (f:=vE 0) (ρ:=lE ns n (tR f1 R) (some ⟨.shr,true,.lst (lil fr)⟩) (bR g) none) (k:=.shr) (fr:=false||(D.lst (li ns)).imm) (ds:=li ns) rfl;have b:cE (.int 63) (lE ns n (tR f1 R) (some ⟨.shr,true,.lst (lil fr)⟩) (bR g) none)=.ok (sc (.int 63)):=rfl;rw[Ab]at a;simp only[uI,a,b,Mir.R.ok_bind,sc,asI];congr 3
     split<;>omega
    have it:=aH8 (a:=cE (.int 3)) (ρ:=lE ns n (tR f1 R) (some ⟨.shr,true,.lst (lil fr)⟩) (bR g) none) (x:=sc (.int ((3:Nat):Int))) (i:=((3:Nat):Int)) rfl rfl mn rfl ⟨by omega,by omega,by omega,by omega⟩
    rw[show (((min ns.length 63:Nat):Int)-((3:Nat):Int)).toNat=m by omega,aBu]at it
    exact(gA it).trans e
  · rw[decide_eq_false (by rw[Ab];omega)]at t
    exact⟨f1,R,none,⟨Sp.refl rl,ll,B0⟩,(cM t).trans rfl⟩
 have bR':=bg R' B1 l1;have bfr:=bf fr I;generalize hρ:lE ns n (tR f3 R') (some ⟨.shr,true,.lst (lil fr)⟩) (bR g) y5=ρ at e5
 have v1':vE 1 ρ=.ok ⟨.shr,true,.int n⟩:=by subst hρ;rfl
 have v2':vE 2 ρ=.ok ⟨.own,f3||(D.lst (lil R')).imm,.lst (lil R')⟩:=by subst hρ;rfl
 have v3':vE 3 ρ=.ok ⟨.shr,true,.lst (lil fr)⟩:=by subst hρ;rfl
 obtain⟨fa,Ia,ea⟩:=xV n1 C v1' v2' S.row (by omega) bR'
 have qa:fa=fr:=wY F0 (C.fit S.row (by omega) bR') I Ia S.fro S.to
 obtain⟨fb,Ib,eb⟩:=xV n1 C v1' v3' Ff.row (by omega) bfr
 have qb:fb=fr:=wY F0 (C.fit Ff.row (by omega) bfr) I Ib Ff.all frr
 subst qa;have ne:∀ {e:FE} {k:Kd} {f:Bool},e ρ=.ok ⟨k,f,.lst (lil fa)⟩->neE e (vE 3) ρ=.ok (sc (.bl false)):=fun h=>(aTy h v3' (zQ fa fa)).trans (by rw[decide_eq_true rfl];rfl)
 have t6:orT (bT (neE (eH 0 1 (aL bX [vE 1,vE 2])) (vE 3))) (bT (neE (eH 0 1 (aL bX [vE 1,vE 3])) (vE 3))) ρ=.ok false:=by
  rw[yI (dH (ne ea)) fun _=>dH (ne (qb▸eb))];rfl
 have e6:=(cM (A:=bS (cE (.bl false))) (B:=cG) t6).trans (show (if false=true then bS (cE (.bl false)) ρ else cG ρ)=.nx ρ from rfl)
 have l3:bJ (vE 3) ρ=.ok (sc (.int (fa.length:Nat))):=by
  have:=eF v3'
  rwa [Ab]at this
 have sl:fH (vE 2) noO (soO (fR (cE (.int 12)) (bJ (vE 3)))) ρ=.ok ⟨.tmp,f3||(D.lst (lil R')).imm,.lst (lil (R'.take (12-fa.length)))⟩:=by
  have s:=aV (C:=C0) (G:=fun i j=>i-j) (f:=cE (.int 12)) (ρ:=ρ) (k:=.shr) (fr:=true) (i:=12) rfl l3 rfl;rw[show (12:Int)-((fa.length:Nat):Int)=((12-fa.length:Nat):Int) by omega]at s
  have:=kJ (lo:=noO) v2' (a:=none) rfl (nY s)
  rwa [aDz,←Ht]at this
 have ct:=vU v3' sl (by rw[Ab,Ab,Bj,sizeLine_eq];omega)
 rw[show lil fa++lil (R'.take (12-fa.length))=lil (fa++R'.take (12-fa.length)) by simp[lil]]at ct
 have rowc:∀ r∈fa++R'.take (12-fa.length),r.length=n:=fun r hr=>by
  rcases An.mp hr with z | z
  · exact Ff.row r z
  · exact S.row r (Cf z)
 have bc:BN N (fa++R'.take (12-fa.length)):=fun r hr=>by
  rcases An.mp hr with z | z
  · exact bfr r z
  · exact bR' r (Cf z)
 have lc:(fa++R'.take (12-fa.length)).length<=1000:=by rw[Al,Bj];omega
 obtain⟨fc,Ic,ecc⟩:=xV n1 C v1' ct rowc lc bc
 have qc:fc=fa:=wY F0 (C.fit rowc lc bc) I Ic (fun r hr=>In.of (fun q hq=>.row (Bk _ hq) fun _ _=>rfl) (Ff.all r hr)) fun r hr=>by
  rcases An.mp hr with z | z
  · exact frr r z
  · exact S.to r (Cf z)
 have e7:aF8 (aF7 .list (vE 3)) (eqE (eH 0 1 (aL bX [vE 1,kG (vE 3) (fH (vE 2) noO (soO (fR (cE (.int 12)) (bJ (vE 3)))))])) (vE 3)) ρ=.ok (sc (.bl true)):=by
  have a:aF7 .list (vE 3) ρ=.ok (sc (.bl true)):=by
   simp only[aF7,v3',Mir.R.ok_bind];rfl
  have b:=aRp ecc v3' (zQ fc fa);rw[decide_eq_true qc]at b;simp only[aF8,a,Mir.R.ok_bind,sc,asB,if_true];exact b
 have e8:bS (aF8 (aF7 .list (vE 3)) (eqE (eH 0 1 (aL bX [vE 1,kG (vE 3) (fH (vE 2) noO (soO (fR (cE (.int 12)) (bJ (vE 3)))))])) (vE 3))) ρ=.rt ⟨.shr,true,.bl true⟩:=jQ e7;exact(dG (np:=1) (n:=6) (s:=aNq) (ds:=[.lst (li ns)]) rfl ((aF e1).trans ((aF e2).trans ((aF e3).trans ((aF e4).trans ((aF e5).trans ((aF e6).trans e8))))))).trans rfl
end N12
namespace He
open PySem PySem.W
section
variable (tb:String->Option Builtin)(p:Program)(w:World)(m:Nat)(an:Option Value)
noncomputable def one (ih:SharedT->Thread->Option SharedT)(s:SharedT)(t:Thread):Option SharedT :=
 @Bool.rec (fun _=>Option SharedT) (@Bool.rec (fun _=>Option SharedT) none (@Option.rec (SharedT×Thread) (fun _=>Option SharedT) none (fun r=>ih r.1 r.2) (stepT (denote tb) p w s t)) (stepOk m an t)) (some s) (through t)
noncomputable def run (n:Nat):SharedT->Thread->Option SharedT :=
 @Nat.rec (fun _=>SharedT->Thread->Option SharedT) (fun _ _=>none) (fun _ ih=>one tb p w m an ih) n
end
theorem aK4 {tb:String->Option Builtin}{p:Program}{w:World}{m:Nat}{an:Option Value}(n:Nat):∀ {s s':SharedT} {t:Thread},run tb p w m an n s t=some s'->topRun tb p w m an n s.abs t=some s'.abs:=by
 induction n with
 | zero=>intro s s' t h;cases h
 | succ n ih =>
  intro s s' t h;have h1:one tb p w m an (run tb p w m an n) s t=some s':=h;unfold one at h1;unfold topRun;cases a:through t with
  | true=>rw[a]at h1;cases h1;rfl
  | false =>
   rw[a]at h1;cases b:stepOk m an t with
   | false=>rw[b]at h1;cases h1
   | true =>
    rw[b]at h1;cases c:stepT (denote tb) p w s t with
    | none=>rw[c]at h1;cases h1
    | some r =>
     rw[c]at h1;obtain⟨s1,t1⟩:=r;have d:=stepT_spec c;simp only[d];exact ih h1
noncomputable def aUn (P:Params):BT :=
 .node (boot_o_0 P) (.node (boot_o_1 P) (.node (boot_o_3 P) (.node (boot_o_7 P) .nil .nil) .nil) (.node (boot_o_5 P) (.node (boot_o_9 P) .nil .nil) .nil))
  (.node (boot_o_2 P) (.node (boot_o_4 P) (.node (boot_o_8 P) .nil .nil) .nil) (.node (boot_o_6 P) (.node (boot_o_10 P) .nil .nil) .nil))
noncomputable def aSt (w:World)(os:OsState):SharedT:=⟨aUn w.params,11,(boot_heap w.params).life,⟨[]⟩,boot_drawn,boot_toks,os⟩
theorem aJi (w:World)(os:OsState):(aSt w os).abs=⟨boot_heap w.params,⟨[]⟩,boot_drawn,boot_toks,os⟩:=rfl
noncomputable def sz (w:World):Bool×Nat×Option Value:=((boot_heap w.params).isNs mainGlobals,(boot_heap w.params).objs.size,(boot_heap w.params).nsMap mainGlobals "__annotations__")
theorem aH4 (w:World):sz w=(true,11,some (.ref 6)):=by kernel_rfl
noncomputable def zA (p:Program)(w:World)(s:SharedT):Bool:=staticsOk (importedModules p.main.body) (boot_heap w.params) s.abs.heap&&namesBound p s.abs.heap&&gensDone s.abs&&laidKept (boot_heap w.params) s.abs.heap
theorem join {σ α β γ:Type}{o:Option σ}{f:σ->Bool}{g:σ->α×β}{h:σ->γ}{a:α×β}{c:γ}(h1:(o.map fun s=>(f s,(g s).1))=some (true,a.1))(h2:(o.map fun s=>(g s).2)=some a.2)(h3:o.map h=some c):(o.map fun s=>(f s,g s,h s))=some (true,a,c):=by
 cases o with
 | none=>cases h1
 | some s =>
  simp only[Ev,Dh.injEq,Prod.mk.injEq]at h1 h2 h3 ⊢;exact⟨h1.1,Prod.ext h1.2 h2,h3⟩
section
variable (p q:Program)(Xt:Shared->Bool){α:Type}(Yf:Shared->α)(N:Nat)
noncomputable def aD9 (w:World)(os:OsState):=(run treeTable p w 11 (some (.ref 6)) N (aSt w os) (topStub p)).map fun s =>
 ((staticsOk (importedModules p.main.body) (boot_heap w.params) s.abs.heap&&namesBound p s.abs.heap&&gensDone s.abs&&laidKept (boot_heap w.params) s.abs.heap),openSeen q [] (importedModules p.main.body) Xt true s.abs,Yf s.abs)
end
theorem left {p q:Program}{Xt:Shared->Bool}{α:Type}{Yf:Shared->α}{Ya:World->α}{N:Nat}(hb:∀ w:World,(fencedOpening treeTable p w N).map (fun s=>(s.heap,s.gens,s.drawn,s.toks))=some (boot_heap w.params,{ toList:=[] },boot_drawn,boot_toks))(hz:∀ w,sz w=(true,11,some (.ref 6)))
 (h:∀ w os,aD9 p q Xt Yf N w os=some (true,openGood q [],Ya w)):LeftO p q [] Xt Yf Ya N:=fun w=>by
 obtain⟨s0,a,b⟩:=Option.map_eq_some_iff.mp (hb w);obtain⟨s1,c,d⟩:=Option.map_eq_some_iff.mp (h w s0.os);simp only[Prod.mk.injEq]at b d;have z:=hz w;simp only[sz,Prod.mk.injEq]at z;have e:=aK4 N c;rw[aJi]at e
 have f:s0=⟨boot_heap w.params,{ toList:=[] },boot_drawn,boot_toks,s0.os⟩:=by
  obtain⟨x1,x2,x3,x4,x5⟩:=s0;obtain⟨b1,b2,b3,b4⟩:=b;dsimp only at b1 b2 b3 b4
  rw[b1,b2,b3,b4]
 unfold openEnds;rw[a,Option.bind_some,f];unfold topFrom;dsimp only
 rw[z.1,z.2.1,z.2.2,e];simp only[Option.bind_some,d.1];show some (_,_)=_
 rw[d.2.1,d.2.2]
end He
namespace H12
open PySem PySem.W
local macro_rules | `(tactic| o_head $H)=>`(tactic| (have _:=$H;assumption))
theorem kk (h:PySem.Challenge.rw_flatmeet_k12_whole_one_frame_for_each_fl.row.Holds):PySem.Challenge.rw_flatmeet_k12_whole_one_frame_for_each_fl.row.Holds:=by k_head
abbrev pr:Program:=PySem.Challenge.pw_flatmeet_k12_whole_one_frame_for_each_fl
abbrev ad:List Addr:=[2,3,15,22,23,24,25,28,35,36,37,40,47,48,49,52,59,61,62,64,65,66,67,68,71,73,74,76,77,78,80,81,83,84,85,87,88,90,91,92,94,95,97,98,99,102,103,104,107,108,109,112,113,114,117,118,126,128,129,131,132,133,134,135,136,137,140,143,144,145,148,149,150,153,154,155,158,159,167,169,170,172,173,174,175,176,177,178,181,183,184,186,187,188,190,191,193,194,195,198,199,200,202,203,205,206,207,209,210,212,213,214,216,217,219,220,221,223,224,226,227,228,231,232,233,236,237,238,240,241,243,244,245,248,249]
theorem aNv (P:Params):ad=(kk.heap_1 P).map (·.1):=by kernel_rfl
noncomputable abbrev hk:Hook:=kHook kk.heap_1 ad aNv
def vw:Program:=view pr [1,2,3,4,6,7,8,9,10,11,12,13,14,15,16,18,19,20,22,23,24,25,26,27,29,30,31,32,33,34]
noncomputable def lk (w:World)(os:OsState):=He.aD9 pr vw (fun s=>xlAt vw [] s&&recOk [] s) (fun s=>ad.map s.heap.get?) 4172 w os
noncomputable def gd (w:World)(os:OsState):=some (true,openGood vw [],(kk.heap_1 w.params).map fun p=>some p.2)
theorem same (w:World)(os:OsState):lk w os=gd w os:=by kernel_rfl
theorem lo:LeftO pr vw [] (fun s=>xlAt vw [] s&&recOk [] s) hk.obs hk.val 4172:=He.left (boot_open rfl rfl fun s=>rfl) He.aH4 fun w os=>same w os
theorem go (hs:PySem.Challenge.rw_flatmeet_k12_whole_one_frame_for_each_fl.row.wellSaid=true)(h:PySem.Challenge.rw_flatmeet_k12_whole_one_frame_for_each_fl.row.promised){d:DefRec}{kw:List (Str×Expr)}(h1:defOf vw PySem.Challenge.rw_flatmeet_k12_whole_one_frame_for_each_fl.row.name=some (d,kw))(h2:PySem.Challenge.rw_flatmeet_k12_whole_one_frame_for_each_fl.row.prog.theDef PySem.Challenge.rw_flatmeet_k12_whole_one_frame_for_each_fl.row.name=some (d.params,d.body,d.scope))(h3:kwWritten? d.params.kwonlyargs d.params.kw_defaults=some kw)
 (g:WalkO vw [] (XL vw []) (kHook kk.heap_1 ad aNv).says PySem.Challenge.rw_flatmeet_k12_whole_one_frame_for_each_fl.row.toRowW d kw fun f vs=>call f vs):PySem.Challenge.rw_flatmeet_k12_whole_one_frame_for_each_fl.row.Holds :=
 W.holds_open lo hk.of hk.keeps (fun s e=>xl_of s (Da.mp e).1) XL.keeps h1 h2 h3 (fun s e=>recFacts_of (Da.mp e).2) rfl hs (by decide +kernel) ⟨rfl,rfl,rfl,rfl,rfl,by decide +kernel⟩ h g
end H12
open PySem PySem.W PyProof.Rows
set_option maxRecDepth 100000 in
set_option maxHeartbeats 0 in
theorem PySem.Challenge.cw_flatmeet_k12_whole_one_frame_for_each_fl_holds : PySem.Challenge.rw_flatmeet_k12_whole_one_frame_for_each_fl.Holds := by
  w_on; o_law
  refine H12.go (by assumption) ?hw (by rfl) (by rfl) (by rfl) ?hc
  (case hw => w_witness2)
  k_fill
  refine N12.walk (l := PySem.Challenge.rw_flatmeet_k12_whole_one_frame_for_each_fl) rfl rfl (fun ns _ => N12.law_ok ns) (fun w h Y => PySem.W.kIn_of Y) ?L ?F
  case L => intro P; kernel_rfl
  case F =>
    intro w mg fa h KX G hmg
    refine' N12.all_mk KX G hmg ⟨?n0, ?l0, ?c0, ?k0⟩ ⟨?n1, ?l1, ?c1, ?k1⟩ ⟨?n2, ?l2, ?c2, ?k2⟩ ⟨?n3, ?l3, ?c3, ?k3⟩ ⟨?n4, ?l4, ?c4, ?k4⟩ ⟨?n5, ?l5, ?c5, ?k5⟩ ⟨?n6, ?l6, ?c6, ?k6⟩ ⟨?n7, ?l7, ?c7, ?k7⟩ ⟨?n8, ?l8, ?c8, ?k8⟩ ⟨?n9, ?l9, ?c9, ?k9⟩ ⟨?n10, ?l10, ?c10, ?k10⟩ ⟨?n11, ?l11, ?c11, ?k11⟩ ⟨?n12, ?l12, ?c12, ?k12⟩ ⟨?n13, ?l13, ?c13, ?k13⟩ ⟨?n14, ?l14, ?c14, ?k14⟩ ⟨?n15, ?l15, ?c15, ?k15⟩ ⟨?n16, ?l16, ?c16, ?k16⟩ ⟨?n17, ?l17, ?c17, ?k17⟩ ⟨?n18, ?l18, ?c18, ?k18⟩ ⟨?n19, ?l19, ?c19, ?k19⟩ ⟨?n20, ?l20, ?c20, ?k20⟩ ⟨?n21, ?l21, ?c21, ?k21⟩ ⟨?n22, ?l22, ?c22, ?k22⟩ ⟨?o0a, ?o0b, ?o0c, ?o0d, ?o0e, ?o0f, ?o0g, ?o0h, ?o0i⟩ ?on00 ?on01 ?ol0 ?oc0 ?ok0 ⟨?o1a, ?o1b, ?o1c, ?o1d, ?o1e, ?o1f, ?o1g, ?o1h, ?o1i⟩ ?on10 ?on11 ?on12 ?ol1 ?oc1 ?ok1 ?z0 ?z1 ?z2 ?z3 ?z4 ?z5 ?z6 ?z7 ?z8 ?z9 ?z10 ?gq0
    (case n0 => k_is); (case l0 => k_is); (case c0 => k_is); (case k0 => k_is)
    (case n1 => k_is); (case l1 => k_is); (case c1 => k_is); (case k1 => k_is)
    (case n2 => k_is); (case l2 => k_is); (case c2 => k_is); (case k2 => k_is)
    (case n3 => k_is); (case l3 => k_is); (case c3 => k_is); (case k3 => k_is)
    (case n4 => k_is); (case l4 => k_is); (case c4 => k_is); (case k4 => k_is)
    (case n5 => k_is); (case l5 => k_is); (case c5 => k_is); (case k5 => k_is)
    (case n6 => k_is); (case l6 => k_is); (case c6 => k_is); (case k6 => k_is)
    (case n7 => k_is); (case l7 => k_is); (case c7 => k_is); (case k7 => k_is)
    (case n8 => k_is); (case l8 => k_is); (case c8 => k_is); (case k8 => k_is)
    (case n9 => k_is); (case l9 => k_is); (case c9 => k_is); (case k9 => k_is)
    (case n10 => k_is); (case l10 => k_is); (case c10 => k_is); (case k10 => k_is)
    (case n11 => k_is); (case l11 => k_is); (case c11 => k_is); (case k11 => k_is)
    (case n12 => k_is); (case l12 => k_is); (case c12 => k_is); (case k12 => k_is)
    (case n13 => k_is); (case l13 => k_is); (case c13 => k_is); (case k13 => k_is)
    (case n14 => k_is); (case l14 => k_is); (case c14 => k_is); (case k14 => k_is)
    (case n15 => k_is); (case l15 => k_is); (case c15 => k_is); (case k15 => k_is)
    (case n16 => k_is); (case l16 => k_is); (case c16 => k_is); (case k16 => k_is)
    (case n17 => k_is); (case l17 => k_is); (case c17 => k_is); (case k17 => k_is)
    (case n18 => k_is); (case l18 => k_is); (case c18 => k_is); (case k18 => k_is)
    (case n19 => k_is); (case l19 => k_is); (case c19 => k_is); (case k19 => k_is)
    (case n20 => k_is); (case l20 => k_is); (case c20 => k_is); (case k20 => k_is)
    (case n21 => k_is); (case l21 => k_is); (case c21 => k_is); (case k21 => k_is)
    (case n22 => k_is); (case l22 => k_is); (case c22 => k_is); (case k22 => k_is)
    (case o0a => k_is); (case o0b => k_is); (case o0c => k_is); (case o0d => k_is); (case o0e => k_is); (case o0f => k_is); (case o0g => k_is); (case o0h => k_is); (case o0i => k_is); (case on00 => k_is); (case on01 => k_is); (case ol0 => k_is); (case oc0 => k_is); (case ok0 => k_is)
    (case o1a => k_is); (case o1b => k_is); (case o1c => k_is); (case o1d => k_is); (case o1e => k_is); (case o1f => k_is); (case o1g => k_is); (case o1h => k_is); (case o1i => k_is); (case on10 => k_is); (case on11 => k_is); (case on12 => k_is); (case ol1 => k_is); (case oc1 => k_is); (case ok1 => k_is)
    (case z0 => k_is); (case z1 => k_is); (case z2 => k_is); (case z3 => k_is); (case z4 => k_is); (case z5 => k_is); (case z6 => k_is); (case z7 => k_is); (case z8 => k_is); (case z9 => k_is); (case z10 => k_is)
    (case gq0 => k_is)
