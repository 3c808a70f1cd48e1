import PyProof.Rows.All
import Wide.All
import OpenK.KMake
import OpenK.KDescr
import OpenK.KGet
import OpenK.KEqL
import OpenK.KMore
import OpenK.KCls
import OpenK.KCall
import OpenK.KWalk
import OpenK.Peek
import OpenK.KLine
import KE.KIsAll
import KE.KItem
import KE.LcSums
import KE.KTryMore
import Wide.FinOn
import Lean
import PyProof.EqAt
import PyProof.EqKinds
import PyProof.TupleCall
import PyProof.ZipIter
import PyProof.ListNew
import PySem.Sem
import PyProof.WalksEnum
import PyProof.EnumMake
import KE.KSortTup
import PyProof.DictIter
import KE.KDictList
import PyProof.DictItems
import KE.KPairComp
import PyProof.Rows.TupIter
import PyProof.Rows.SetFrom
import PyProof.WalksMore
import PyProof.ListRange
import PySem.Challenge.RW_flatmeet_k32_sums_and_products
set_option Elab.async false
set_option linter.all false
set_option maxRecDepth 100000
namespace L2
open PySem PySem.Spec PyProof.Rows
abbrev Key := Sum Int Str
def keyIs : Key → Value → Bool
  | .inl k, v => Value.isInt k v
  | .inr x, v => Value.isStrOf x v
def keyH (w : World) : Key → Int
  | .inl k => hashInt k
  | .inr x => hashStr w x
theorem keyIs_shape : ∀ {k : Key} {v : Value}, keyIs k v = true → (∃ i t, k = Sum.inl i ∧ v = Value.int i t) ∨ (∃ x t, k = Sum.inr x ∧ v = Value.str x t)
  | .inl i, v, h => by
    obtain ⟨t, e⟩ := Value.isInt_shape (k := i) (v := v) h
    exact .inl ⟨i, t, rfl, e⟩
  | .inr x, v, h => by
    obtain ⟨t, e⟩ := Value.isStrOf_shape (x := x) (v := v) h
    exact .inr ⟨x, t, rfl, e⟩
theorem keyIs_int (i : Int) (t : Tok) : keyIs (.inl i) (.int i t) = true := by simp [keyIs, Value.isInt]
theorem keyIs_str (x : Str) (t : Tok) : keyIs (.inr x) (.str x t) = true := by simp [keyIs, Value.isStrOf]
theorem key_ll (a b : Int) : decide ((Sum.inl a : Key) = Sum.inl b) = (a == b) := by
  by_cases e : a = b
  · subst e; simp
  · have h : ¬ (Sum.inl a : Key) = Sum.inl b := fun q => e (Sum.inl.inj q)
    rw [decide_eq_false h]
    exact (beq_eq_false_iff_ne.mpr e).symm
theorem key_rr (a b : Str) : decide ((Sum.inr a : Key) = Sum.inr b) = decide (a = b) := by
  by_cases e : a = b
  · subst e; simp
  · have h : ¬ (Sum.inr a : Key) = Sum.inr b := fun q => e (Sum.inr.inj q)
    rw [decide_eq_false h, decide_eq_false e]
theorem key_lr (a : Int) (b : Str) : decide ((Sum.inl a : Key) = Sum.inr b) = false := decide_eq_false (fun q => nomatch q)
theorem key_rl (a : Str) (b : Int) : decide ((Sum.inr a : Key) = Sum.inl b) = false := decide_eq_false (fun q => nomatch q)
def mixKind (prog : Program) (w : World) : PySem.KeyKind prog w Key where
  is := keyIs
  hash := keyH w
  inj := fun v a b ha hb => by
    rcases keyIs_shape ha with ⟨i, t, rfl, rfl⟩ | ⟨x, t, rfl, rfl⟩
    · rcases keyIs_shape hb with ⟨j, u, rfl, e⟩ | ⟨y, u, rfl, e⟩
      · injection e with e1 _; rw [e1]
      · exact nomatch e
    · rcases keyIs_shape hb with ⟨j, u, rfl, e⟩ | ⟨y, u, rfl, e⟩
      · exact nomatch e
      · injection e with e1 _; rw [e1]
  byValue := fun k v h => by
    rcases keyIs_shape h with ⟨i, t, rfl, rfl⟩ | ⟨x, t, rfl, rfl⟩ <;> rfl
  pyHash := fun hv h => by
    rcases keyIs_shape hv with ⟨i, t, rfl, rfl⟩ | ⟨x, t, rfl, rfl⟩
    · exact wpAny_pyHash_int h
    · exact wpAny_pyHash_str h
  eqBool := fun hu hv h => by
    rcases keyIs_shape hu with ⟨i, t, rfl, rfl⟩ | ⟨x, t, rfl, rfl⟩
    · rcases keyIs_shape hv with ⟨j, u, rfl, rfl⟩ | ⟨y, u, rfl, rfl⟩
      · rw [key_ll] at h; exact wpAny_eqBool_int h
      · rw [key_lr] at h; exact SeqAt.EqAt.int_str i t y u _ _ _ _ h
    · rcases keyIs_shape hv with ⟨j, u, rfl, rfl⟩ | ⟨y, u, rfl, rfl⟩
      · rw [key_rl] at h; exact SeqAt.EqAt.str_int x t j u _ _ _ _ h
      · rw [key_rr] at h; exact wpAny_eqBool_str h
  «strs» := fun k x t v h => by
    rcases keyIs_shape h with ⟨i, u, rfl, e⟩ | ⟨y, u, rfl, e⟩
    · exact nomatch e
    · injection e with e1 _
      subst e1
      cases v <;> rfl
theorem mixKind_int (prog : Program) (w : World) (i : Int) (t : Tok) : (mixKind prog w).is (.inl i) (.int i t) = true := keyIs_int i t
theorem mixKind_str (prog : Program) (w : World) (x : Str) (t : Tok) : (mixKind prog w).is (.inr x) (.str x t) = true := keyIs_str x t
end L2
namespace L2
open PySem PySem.Spec PyProof.Rows
inductive V where
  | non | bl (b : Bool) | int (i : Int) | str (x : Str) | byt (b : Array UInt8) | flt (b : UInt64) | ref (a : Addr) | ty (n : String)
  deriving DecidableEq
def RelV : V → Value → Prop
  | .non, u => u = Value.none
  | .bl b, u => u = Value.bool b
  | .int i, u => ∃ t, u = Value.int i t
  | .str x, u => ∃ t, u = Value.str x t
  | .byt b, u => ∃ t, u = Value.bytes b t
  | .flt b, u => ∃ t, u = Value.float b t
  | .ref a, u => u = Value.ref a
  | .ty n, u => u = Value.type n
abbrev Vals : List V → List Value → Prop := Paired RelV
theorem Vals.length {xs : List V} {us : List Value} (r : Vals xs us) : xs.length = us.length := Paired.length r
theorem Vals.get : ∀ {xs : List V} {us : List Value} {i : Nat} {x : V}, Vals xs us → xs[i]? = some x → ∃ u, us[i]? = some u ∧ RelV x u
  | _, _, _, _, .nil, e => by simp at e
  | _, _, 0, _, .cons r _, e => by simp at e; subst e; exact ⟨_, rfl, r⟩
  | _, _, i + 1, x, .cons _ t, e => by
    obtain ⟨u, h1, h2⟩ := Vals.get (i := i) (x := x) t (by simpa using e)
    exact ⟨u, by simpa using h1, h2⟩
theorem Vals.set {x : V} {u : Value} (r : RelV x u) : ∀ {xs : List V} {us : List Value} (i : Nat), Vals xs us → Vals (xs.set i x) (us.set i u)
  | _, _, _, .nil => .nil
  | _, _, 0, .cons _ t => .cons r t
  | _, _, i + 1, .cons q t => .cons q (Vals.set r i t)
theorem Vals.append : ∀ {xs ys : List V} {us ws : List Value}, Vals xs us → Vals ys ws → Vals (xs ++ ys) (us ++ ws)
  | _, _, _, _, .nil, s => s
  | _, _, _, _, .cons r t, s => .cons r (Vals.append t s)
theorem Vals.take : ∀ {xs : List V} {us : List Value} (n : Nat), Vals xs us → Vals (xs.take n) (us.take n)
  | _, _, 0, _ => .nil
  | _, _, _ + 1, .nil => .nil
  | _, _, n + 1, .cons r t => .cons r (Vals.take n t)
theorem Vals.drop : ∀ {xs : List V} {us : List Value} (n : Nat), Vals xs us → Vals (xs.drop n) (us.drop n)
  | _, _, 0, r => r
  | _, _, _ + 1, .nil => .nil
  | _, _, n + 1, .cons _ t => Vals.drop n t
def RelO : Option V → Option Value → Prop
  | some v, some u => RelV v u
  | none, none => True
  | _, _ => False
def KV {κ : Type} : List (κ × V) → List (κ × Value) → Prop := Paired fun (p : κ × V) (q : κ × Value) => p.1 = q.1 ∧ RelV p.2 q.2
def kV : Key → V
  | .inl i => .int i
  | .inr x => .str x
inductive HO where
  /-- a list -/
  | lst (xs : List V)
  /-- a tuple (never changes) -/
  | tup (xs : List V)
  /-- a dict whose keys are ints and texts; one whose keys are tuples of ints and texts (the empty one is both) -/
  | dK (kvs : List (Key × V)) | dT (kvs : List (List Key × V))
  /-- a set of ints: its members, its size -/
  | set (S : Int → Bool) (n : Nat)
  /-- an instance of the class at C, its dict at dx, its attributes -/
  | ins (C dx : Addr) (fs : List (Str × V))
  /-- the dict of the instance at x -/
  | own (x : Addr)
  /-- the dict of an exception -/
  | xd (fs : List (Str × V))
  /-- a bound method, f of x -/
  | met (f x : Addr)
  /-- a range object lo, lo + 1, .. below hi -/
  | rng (lo hi : Int)
  /-- a thing that is known to the object (the script; a dict while a loop walks it): read, never written while it is so -/
  | frz (o : Obj) (u : HO)
  /-- a code object's table -/
  | tbl (ps : Array Value)
  /-- any other thing, by what is true of its one object (a def of one's own: SetO a S n := HO.ext fun h => ..) -/
  | ext (φ : Heap → Prop)
abbrev Hp := Addr → Option HO
def upd (H : Hp) (a : Addr) (o : HO) : Hp := fun b => if b = a then some o else H b
theorem upd_same {H : Hp} {a : Addr} {o : HO} : upd H a o a = some o := by unfold upd; rw [if_pos rfl]
theorem upd_ne {H : Hp} {a b : Addr} {o : HO} (h : b ≠ a) : upd H a o b = H b := by unfold upd; rw [if_neg h]
theorem ne_of {H : Hp} {a b : Addr} {o u : HO} (h : H a = some o) (h' : H b = some u) (d : o ≠ u) : a ≠ b := by
  intro e; subst e; rw [h] at h'; exact d (Option.some.inj h')
theorem ne_of_none {H : Hp} {a b : Addr} {o : HO} (h : H a = some o) (h' : H b = none) : a ≠ b := by
  intro e; subst e; rw [h] at h'; cases h'
section
variable (P : Program) (w : World)
def ObjOk (H : Hp) (h : Heap) (a : Addr) : HO → Prop
  | .lst xs => xs.length ≤ sizeLine ∧ ∃ (its : List Value) (n : Nat), Vals xs its ∧ h.get? a = some { cls := .type "list", data := .seq its.toArray n }
  | .tup xs => xs.length ≤ sizeLine ∧ ∃ its : List Value, Vals xs its ∧ IsTup h a its.toArray
  | .dK kvs => kvs.length ≤ sizeLine ∧ (a == sysModules) = false ∧ ∃ vs, KV kvs vs ∧ h.DictOf (mixKind P w) a vs
  | .dT kvs => kvs.length ≤ sizeLine ∧ (a == sysModules) = false ∧ ∃ xs : List (List Key × Addr × Value),
      Paired (fun (p : List Key × V) (q : List Key × Addr × Value) => p.1 = q.1 ∧ H q.2.1 = some (.tup (p.1.map kV)) ∧ RelV p.2 q.2.2) kvs xs ∧
      ∃ o es ep, h.get? a = some o ∧ o.ExactDict ∧ o.data = .dict es ep ∧ es.toList = xs.map (entryOfKey (tupleKind (mixKind P w))) ∧ (xs.map (·.1)).Nodup
  | .set S n => h.SetOf (intKind P w) a S n
  | .ins C dx fs => H dx = some (.own a) ∧ fs.length ≤ 1000 ∧ dx ≠ a ∧ h.get? a = some (PySem.W.instObj C dx) ∧
      ∃ mA, h.Ns1 dx mA ∧ (∀ f, RelO (fs.lookup f) (mA f)) ∧ PySem.Within mA (fs.map (·.1))
  | .own _ => ∃ o, h.get? a = some o
  | .xd fs => ∃ mA, h.Ns1 a mA ∧ ∀ f, RelO (fs.lookup f) (mA f)
  | .rng lo hi => ∃ t u v, h.get? a = some { cls := .type "range", data := .fields #[.int lo t, .int hi u, .int 1 v] }
  | .frz o u => h.get? a = some o ∧ ObjOk H h a u
  | .tbl ps => h.get? a = some { cls := .none, data := .fields ps }
  | .met f x => h.get? a = some (PySem.W.methodObj (.ref f) (.ref x))
  | .ext φ => φ h ∧ (∃ o, h.get? a = some o) ∧ ∀ h1 h2 : Heap, φ h1 → (∀ o, h1.get? a = some o → h2.get? a = some o) → φ h2
def HOk (H : Hp) (h : Heap) : Prop := ∀ a o, H a = some o → ObjOk P w H h a o
end
section
variable {P : Program} {w : World} {H H' : Hp} {h h' : Heap} {a : Addr} {o : HO}
theorem ObjOk.lt (x : ObjOk P w H h a o) : a < h.objs.size := by
  cases o with
  | lst xs => obtain ⟨_, _, _, _, e⟩ := x; exact Heap.lt_size e
  | tup xs => obtain ⟨_, _, _, p⟩ := x; exact p.lt
  | dK kvs => obtain ⟨_, _, _, _, o, _, _, e, _⟩ := x; exact Heap.lt_size e
  | dT kvs => obtain ⟨_, _, _, _, o, _, _, e, _⟩ := x; exact Heap.lt_size e
  | set S n => obtain ⟨o, _, _, _, e, _⟩ := x; exact Heap.lt_size e
  | ins C dx fs => obtain ⟨_, _, _, e, _⟩ := x; exact Heap.lt_size e
  | own y => obtain ⟨_, e⟩ := x; exact Heap.lt_size e
  | xd fs => obtain ⟨_, ⟨_, _, _, e, _⟩, _⟩ := x; exact Heap.lt_size e
  | rng lo hi => obtain ⟨_, _, _, e⟩ := x; exact Heap.lt_size e
  | frz ob u => obtain ⟨e, _⟩ := x; exact Heap.lt_size e
  | tbl ps => exact Heap.lt_size (show h.get? a = some _ from x)
  | met f y => exact Heap.lt_size (show h.get? a = some _ from x)
  | ext φ => obtain ⟨_, ⟨_, e⟩, _⟩ := x; exact Heap.lt_size e
theorem Paired.mapP {α β : Type} {F G : α → β → Prop} : ∀ {l₁ : List α} {l₂ : List β}, Paired F l₁ l₂ → (∀ a b, F a b → G a b) → Paired G l₁ l₂
  | _, _, .nil, _ => .nil
  | _, _, .cons r t, f => .cons (f _ _ r) (Paired.mapP t f)
theorem ObjOk.stay (x : ObjOk P w H h a o) (k : ∀ b u, (b = a ∨ H b = some (.own a)) → h.get? b = some u → h'.get? b = some u)
    (ho : ∀ b, H b = some (.own a) → H' b = some (.own a)) (ht : ∀ b xs, H b = some (.tup xs) → H' b = some (.tup xs)) : ObjOk P w H' h' a o := by
  induction o with
  | lst xs => obtain ⟨z, its, n, r, e⟩ := x; exact ⟨z, its, n, r, k _ _ (.inl rfl) e⟩
  | tup xs => obtain ⟨z, its, r, ob, e, c⟩ := x; exact ⟨z, its, r, ob, k _ _ (.inl rfl) e, c⟩
  | dK kvs => obtain ⟨z, y, vs, r, ob, es, ep, e, c⟩ := x; exact ⟨z, y, vs, r, ob, es, ep, k _ _ (.inl rfl) e, c⟩
  | dT kvs =>
    obtain ⟨z, y, xs, r, ob, es, ep, e, c⟩ := x
    exact ⟨z, y, xs, Paired.mapP r fun p q z => ⟨z.1, ht _ _ z.2.1, z.2.2⟩, ob, es, ep, k _ _ (.inl rfl) e, c⟩
  | set S n => obtain ⟨ob, es, ep, t, e, c⟩ := x; exact ⟨ob, es, ep, t, k _ _ (.inl rfl) e, c⟩
  | ins C dx fs =>
    obtain ⟨d, z, ne, e, mA, ⟨od, es, ep, e2, c⟩, r⟩ := x
    exact ⟨ho _ d, z, ne, k _ _ (.inl rfl) e, mA, ⟨od, es, ep, k _ _ (.inr d) e2, c⟩, r⟩
  | own y => obtain ⟨ob, e⟩ := x; exact ⟨ob, k _ _ (.inl rfl) e⟩
  | xd fs => obtain ⟨mA, ⟨od, es, ep, e, c⟩, r⟩ := x; exact ⟨mA, ⟨od, es, ep, k _ _ (.inl rfl) e, c⟩, r⟩
  | rng lo hi => obtain ⟨t, u, v, e⟩ := x; exact ⟨t, u, v, k _ _ (.inl rfl) e⟩
  | frz ob u ih => obtain ⟨e, q⟩ := x; exact ⟨k _ _ (.inl rfl) e, ih q⟩
  | tbl ps =>
    have e : h.get? a = some { cls := .none, data := .fields ps } := x
    show h'.get? a = some { cls := .none, data := .fields ps }
    exact k a _ (.inl rfl) e
  | met f y =>
    have e : h.get? a = some (PySem.W.methodObj (.ref f) (.ref y)) := x
    show h'.get? a = some (PySem.W.methodObj (.ref f) (.ref y))
    exact k a _ (.inl rfl) e
  | ext φ => obtain ⟨p, ⟨o, e⟩, st⟩ := x; exact ⟨st _ _ p fun o q => k _ _ (.inl rfl) q, ⟨o, k _ _ (.inl rfl) e⟩, st⟩
theorem HOk.lt (x : HOk P w H h) (e : H a = some o) : a < h.objs.size := (x a o e).lt
theorem HOk.fresh (x : HOk P w H h) (e : h.objs.size ≤ a) : H a = none := by
  cases q : H a with
  | none => rfl
  | some u => exact absurd (Nat.lt_of_lt_of_le (x.lt q) e) (Nat.lt_irrefl _)
theorem HOk.kept (x : HOk P w H h) (k : ∀ b u, h.get? b = some u → h'.get? b = some u) : HOk P w H h' := fun a o e =>
  (x a o e).stay (fun b u _ q => k b u q) (fun _ q => q) fun _ _ q => q
theorem HOk.laid (x : HOk P w H h) (k : ∀ b u, h.get? b = some u → h'.get? b = some u) (hp : h.objs.size ≤ a) (new : ObjOk P w (upd H a o) h' a o) : HOk P w (upd H a o) h' := fun b u e => by
  have hn := x.fresh hp
  by_cases hb : b = a
  · subst hb; rw [upd_same] at e; cases e; exact new
  · rw [upd_ne hb] at e
    exact (x b u e).stay (fun c v _ q => k c v q) (fun c q => by rw [upd_ne (ne_of_none q hn)]; exact q) fun c xs q => by rw [upd_ne (ne_of_none q hn)]; exact q
end
def Rd (H : Hp) (a : Addr) (u : HO) : Prop := H a = some u ∨ ∃ o, H a = some (.frz o u)
theorem Rd.of {H : Hp} {a : Addr} {u : HO} (h : H a = some u) : Rd H a u := .inl h
theorem Rd.ok {P : Program} {w : World} {H : Hp} {h : Heap} {a : Addr} {u : HO} (r : Rd H a u) (x : HOk P w H h) : ObjOk P w H h a u := by
  rcases r with r | ⟨o, r⟩
  · exact x a u r
  · obtain ⟨_, q⟩ := x a _ r
    exact q
def Mut : Option HO → Prop
  | some (.lst _) => True
  | some (.dK _) => True
  | some (.dT _) => True
  | some (.set _ _) => True
  | some (.ins _ _ _) => True
  | some (.ext _) => True
  | _ => False
section
variable {P : Program} {w : World} {H : Hp} {h h' : Heap} {x e : Addr} {o' : HO}
theorem HOk.write (ok : HOk P w H h) (mu : Mut (H x)) (he : e = x ∨ H e = some (.own x)) (k : ∀ b u, b ≠ e → h.get? b = some u → h'.get? b = some u) (heo : ∃ u, h'.get? e = some u)
    (new : ObjOk P w (upd H x o') h' x o') : HOk P w (upd H x o') h' := fun b u q => by
  have nown : ∀ c y, H c = some (.own y) → c ≠ x := fun c y r z => by subst z; rw [r] at mu; exact mu
  have ntup : ∀ c xs, H c = some (.tup xs) → c ≠ x := fun c xs r z => by subst z; rw [r] at mu; exact mu
  by_cases hb : b = x
  · subst hb; rw [upd_same] at q; cases q; exact new
  · rw [upd_ne hb] at q
    by_cases hbe : b = e
    · have q' : H b = some (.own x) := by
        rcases he with z | z
        · exact absurd (hbe.trans z) hb
        · rw [hbe]; exact z
      rw [q] at q'; cases q'
      obtain ⟨v, hv⟩ := heo
      exact ⟨v, by rw [hbe]; exact hv⟩
    · refine (ok b u q).stay (fun c v hc r => k c v ?_ r) (fun c r => by rw [upd_ne (nown c b r)]; exact r) fun c xs r => by rw [upd_ne (ntup c xs r)]; exact r
      rcases hc with rfl | hc
      · exact hbe
      · rintro rfl
        rcases he with z | z
        · exact nown c b hc z
        · rw [hc] at z; cases z; exact hb rfl
end
structure Un (fs ex : List Addr) (H H' : Hp) (h h' : Heap) : Prop where
  keep : ∀ b o, h.get? b = some o → H b = none → b ∉ fs → b ∉ ex → h'.get? b = some o
  slot : ∀ b o, h.get? b = some o → H b = none → b ∈ fs → b ∉ ex → ∃ sl, h'.get? b = some { o with slots := sl }
  free : ∀ b o, h.get? b = some o → H b = none → b ∉ ex → H' b = none
  there : ∀ b o, h.get? b = some o → b ∉ ex → ∃ o', h'.get? b = some o'
  tups : ∀ b xs, H b = some (.tup xs) → H' b = some (.tup xs)
  frzs : ∀ b o u, H b = some (.frz o u) → H' b = some (.frz o u)
  tbls : ∀ b ps, H b = some (.tbl ps) → ∃ more, H' b = some (.tbl (ps ++ more))
section
variable {fs fs' ex ex' : List Addr} {H H1 H2 : Hp} {h h1 h2 h' : Heap} {a x e : Addr} {o : HO}
theorem Un.any (u : Un fs ex H H1 h h1) {b : Addr} {ob : Obj} (q : h.get? b = some ob) (n : H b = none) (hx : b ∉ ex) : ∃ sl, h1.get? b = some { ob with slots := sl } := by
  by_cases hb : b ∈ fs
  · exact u.slot b ob q n hb hx
  · exact ⟨ob.slots, u.keep b ob q n hb hx⟩
theorem Un.trans (a : Un fs ex H H1 h h1) (b : Un fs ex H1 H2 h1 h2) : Un fs ex H H2 h h2 where
  keep := fun c ob q n hc hx => b.keep c ob (a.keep c ob q n hc hx) (a.free c ob q n hx) hc hx
  slot := fun c ob q n hc hx => by
    obtain ⟨sl, e1⟩ := a.slot c ob q n hc hx
    obtain ⟨sl', e2⟩ := b.slot c _ e1 (a.free c ob q n hx) hc hx
    exact ⟨sl', e2⟩
  free := fun c ob q n hx => by
    obtain ⟨o', e1⟩ := a.there c ob q hx
    exact b.free c o' e1 (a.free c ob q n hx) hx
  there := fun c ob q hx => by
    obtain ⟨o', e1⟩ := a.there c ob q hx
    exact b.there c o' e1 hx
  tups := fun c xs q => b.tups c xs (a.tups c xs q)
  frzs := fun c ob xs q => b.frzs c ob xs (a.frzs c ob xs q)
  tbls := fun c ps q => by
    obtain ⟨m1, e1⟩ := a.tbls c ps q
    obtain ⟨m2, e2⟩ := b.tbls c _ e1
    exact ⟨m1 ++ m2, by rw [e2, Array.append_assoc]⟩
theorem Un.kept (k : ∀ b u, h.get? b = some u → h'.get? b = some u) : Un fs ex H H h h' :=
  ⟨fun b ob q _ _ _ => k b ob q, fun b ob q _ _ _ => ⟨ob.slots, k b ob q⟩, fun _ _ _ n _ => n, fun b ob q _ => ⟨ob, k b ob q⟩, fun _ _ q => q, fun _ _ _ q => q, fun _ ps q => ⟨#[], by rw [q]; simp⟩⟩
theorem Un.refl : Un fs ex H H h h := Un.kept fun _ _ q => q
theorem Un.laid (k : ∀ b u, h.get? b = some u → h'.get? b = some u) (hp : h.objs.size ≤ a) (hn : H a = none) : Un fs ex H (upd H a o) h h' where
  keep := fun b u q _ _ _ => k b u q
  slot := fun b u q _ _ _ => ⟨u.slots, k b u q⟩
  free := fun b u q n _ => by rw [upd_ne (Nat.ne_of_lt (Nat.lt_of_lt_of_le (Heap.lt_size q) hp))]; exact n
  there := fun b u q _ => ⟨u, k b u q⟩
  tups := fun b xs q => by rw [upd_ne (ne_of_none q hn)]; exact q
  frzs := fun b u xs q => by rw [upd_ne (ne_of_none q hn)]; exact q
  tbls := fun b ps q => ⟨#[], by rw [upd_ne (ne_of_none q hn), q]; simp⟩
theorem Un.write (mu : Mut (H x)) (he : e = x ∨ H e = some (.own x)) (k : ∀ b u, b ≠ e → h.get? b = some u → h'.get? b = some u) (heo : ∃ u, h'.get? e = some u) : Un fs ex H (upd H x o) h h' := by
  have hx : ∀ b, H b = none → b ≠ x := fun b n z => by subst z; rw [n] at mu; exact mu
  have hb : ∀ b, H b = none → b ≠ e := fun b n z => by
    subst z
    rcases he with r | r
    · exact hx b n r
    · rw [n] at r; cases r
  have hm : ∀ b u, H b = some u → ¬ Mut (some u) → b ≠ x := fun b u q nm z => by subst z; rw [q] at mu; exact nm mu
  refine ⟨fun b u q n _ _ => k b u (hb b n) q, fun b u q n _ _ => ⟨u.slots, k b u (hb b n) q⟩, fun b u q n _ => by rw [upd_ne (hx b n)]; exact n, fun b u q _ => ?_,
    fun b xs q => by rw [upd_ne (hm b _ q fun z => z)]; exact q, fun b u xs q => by rw [upd_ne (hm b _ q fun z => z)]; exact q, fun b ps q => ⟨#[], by rw [upd_ne (hm b _ q fun z => z), q]; simp⟩⟩
  by_cases hbe : b = e
  · subst hbe; exact heo
  · exact ⟨u, k b u hbe q⟩
theorem Un.mono (u : Un fs ex H H1 h h1) (hs : ∀ b ∈ fs, b ∈ fs') (hx : ∀ b ∈ ex, b ∈ ex') : Un fs' ex' H H1 h h1 :=
  ⟨fun b ob q n hb he => u.keep b ob q n (fun z => hb (hs b z)) fun z => he (hx b z), fun _ _ q n _ he => u.any q n fun z => he (hx _ z), fun b ob q n he => u.free b ob q n fun z => he (hx b z), fun b ob q he => u.there b ob q fun z => he (hx b z), u.tups, u.frzs, u.tbls⟩
end
def trk (h : Heap) (H : Hp) : List Addr := (List.range h.objs.size).filter fun a => (H a).isSome
def hidT (h : Heap) (H : Hp) : Heap := PySem.W.hideAll h (trk h H)
theorem hidT_size (h : Heap) (H : Hp) : (hidT h H).objs.size = h.objs.size := PySem.W.hideAll_size _ _
theorem hidT_get {h : Heap} {H : Hp} {b : Addr} {o : Obj} (e : h.get? b = some o) (n : H b = none) : (hidT h H).get? b = some o :=
  PySem.W.hideAll_get _ e fun hm => by
    have q : (H b).isSome = true := (List.mem_filter.mp hm).2
    rw [n] at q; simp at q
theorem of_hidT {h : Heap} {H : Hp} {b : Addr} {o : Obj} (e : (hidT h H).get? b = some o) : h.get? b = some o ∧ H b = none := by
  have e' : h.get? b = some o := PySem.W.of_hideAll (trk h H) e
  refine ⟨e', ?_⟩
  cases q : H b with
  | none => rfl
  | some x =>
    have hm : b ∈ trk h H := List.mem_filter.mpr ⟨List.mem_range.mpr (Heap.lt_size e'), by simp [q]⟩
    have z : (hidT h H).get? b = none := PySem.W.hideAll_none (trk h H) hm
    rw [z] at e; cases e
def allNews (g h : Heap) (L : Addr) : List (Addr × Obj) := (List.range h.objs.size).filterMap fun a => if a = L ∨ (g.get? a).isSome = true then none else (h.get? a).map fun o => (a, o)
def rest (g h : Heap) (L d : Addr) : List (Addr × Obj) := (allNews g h L).filter fun p => decide (p.1 ≠ d)
end L2
namespace L2
open PySem PySem.Spec PyProof.Rows
structure Mod (K : PySem.W.Frag) (mg : Str → Option Value) (base : Heap) : Prop where
  kin : K.In base
  glob : base.Ns mainGlobals mg
  blt : ∃ mb, base.Ns builtinsNs mb ∧ ∀ x : Str, x ≠ "__name__" → mb x = bootBuiltins x
  nolimit : base.NoLimit
structure Cx where
  prog : Program
  w : World
  K : PySem.W.Frag
  mg : Str → Option Value
  base : Heap
  A : Around
  N : List Str
  s₀ : Shared
  H₀ : Hp
  env : Env
  outer : List Env
  stack : List Env
  ex : List Addr
  fn : Str → Bool
  calm : Bool
  pn : List (Addr × Obj)
  xe : Value → Shared → Prop
def frs (l : List Env) : List Addr := l.filterMap (·.frame)
abbrev Cx.fs (X : Cx) : List Addr := frs X.outer
def Vis (sc : Scope) (x : Str) : Prop := sc.names.lookup x = some .local ∨ sc.names.lookup x = some .cell ∨ sc.names.lookup x = some .free
def Loc (sc : Scope) (x : Str) : Prop := sc.names.lookup x = some .local ∨ sc.names.lookup x = some .cell
def Look (env : Env) (h : Heap) (m : Str → Option Value) (x : Str) (u : Value) : Prop :=
  (env.kindOf x = some .local ∧ m x = some u) ∨ ((env.kindOf x = some .cell ∨ env.kindOf x = some .free) ∧ ∃ c, env.cells.lookup x = some c ∧ h.IsCell c (some u))
structure Cx.Ok (X : Cx) : Prop where
  mod : Mod X.K X.mg X.base
  kind : X.env.scope.kind = .function
  glob : X.env.globals = mainGlobals
  blt : X.env.builtins = builtinsNs
  above : X.s₀.heap.objs.size ≤ X.env.locals
  inj : ∀ x y c, X.env.cells.lookup x = some c → X.env.cells.lookup y = some c → x = y
  has : ∀ x, (X.env.kindOf x = some .cell ∨ X.env.kindOf x = some .free) → ∃ c, X.env.cells.lookup x = some c
  cab : ∀ x c, X.fn x = true → X.env.cells.lookup x = some c → X.s₀.heap.objs.size ≤ c
  hd : X.calm = true → X.A.handled = none
  frames : X.A.frames = some X.stack
  stk : X.stack = X.outer ∨ (X.stack = X.env :: X.outer ∧ X.env.frame = some X.env.locals)
  exf : ∀ b ∈ X.ex, b ≠ X.env.locals ∧ ∀ x c, X.env.cells.lookup x = some c → c ≠ b
  bs : ∀ b o, X.base.get? b = some o → X.s₀.heap.get? b = some o ∧ X.H₀ b = none
  bsz : X.base.objs.size ≤ X.s₀.heap.objs.size
  noex : ∀ b o, X.base.get? b = some o → b ∉ X.ex
  exfs : ∀ b ∈ X.ex, b ∉ X.fs
  funs : X.s₀.heap.FunFrames X.base X.outer
  frf : ∀ b ∈ X.fs, X.H₀ b = none
structure Inv (X : Cx) (pins : List (Addr × Obj)) (σ : List (Option V)) (H : Hp) (s : Shared) : Prop where
  ok : X.Ok
  os : s.os = X.s₀.os
  bare : AllBare s.gens
  base : Un X.fs X.ex X.H₀ H X.s₀.heap s.heap
  loc : ∃ m, s.heap.Ns X.env.locals m ∧ ∀ (i : Nat) (x : Str) (v : V), X.N[i]? = some x → σ[i]? = some (some v) → Vis X.env.scope x → ∃ u, RelV v u ∧ Look X.env s.heap m x u
  cell : ∀ x c, X.env.cells.lookup x = some c → ∃ v, s.heap.IsCell c v
  free : H X.env.locals = none
  freeC : ∀ x c, X.env.cells.lookup x = some c → H c = none
  pin : ∀ p ∈ X.pn ++ pins, s.heap.get? p.1 = some p.2 ∧ H p.1 = none ∧ p.1 ≠ X.env.locals ∧ p.1 ∉ X.fs ∧ ∀ v, p.2.data ≠ .cell v
  hok : HOk X.prog X.w H s.heap
  len : σ.length = X.N.length
section
variable {X : Cx} {pins : List (Addr × Obj)} {σ : List (Option V)} {H H' : Hp} {s : Shared} {h' : Heap}
theorem Cx.Ok.nofr (ok : X.Ok) {b : Addr} {o : Obj} (e : X.base.get? b = some o) : b ∉ X.fs := fun hb => by
  have := (ok.funs.mem hb).1
  rw [e] at this; cases this
theorem Inv.bs (I : Inv X pins σ H s) : ∀ b o, X.base.get? b = some o → s.heap.get? b = some o ∧ H b = none := fun b o e =>
  ⟨I.base.keep b o (I.ok.bs b o e).1 (I.ok.bs b o e).2 (I.ok.nofr e) (I.ok.noex b o e), I.base.free b o (I.ok.bs b o e).1 (I.ok.bs b o e).2 (I.ok.noex b o e)⟩
theorem Inv.bk (I : Inv X pins σ H s) : ∀ b o, X.base.get? b = some o → s.heap.get? b = some o := fun b o e => (I.bs b o e).1
theorem Inv.mod (I : Inv X pins σ H s) : Mod X.K X.mg X.base := I.ok.mod
theorem Inv.kIn (I : Inv X pins σ H s) : X.K.In s.heap := I.ok.mod.kin.keeps I.bk
theorem Inv.nolimit (I : Inv X pins σ H s) : s.heap.NoLimit := I.ok.mod.nolimit.keeps I.bk
theorem Inv.fr (I : Inv X pins σ H s) : ∃ m, Fr X.base X.env.locals s.heap m :=
  let ⟨m, hn, _⟩ := I.loc
  ⟨m, hn, I.bk, Nat.le_trans I.ok.bsz I.ok.above⟩
theorem Inv.lt (I : Inv X pins σ H s) : X.env.locals < s.heap.objs.size := let ⟨_, hn, _⟩ := I.loc; hn.lt
theorem Inv.sz (I : Inv X pins σ H s) : X.s₀.heap.objs.size ≤ s.heap.objs.size := Nat.le_trans I.ok.above (Nat.le_of_lt I.lt)
theorem Inv.nofs (I : Inv X pins σ H s) {a : Addr} (h : s.heap.objs.size ≤ a) : a ∉ X.fs := fun hb => by
  obtain ⟨_, o, ho, _⟩ := I.ok.funs.mem hb
  exact absurd (Nat.lt_of_lt_of_le (Heap.lt_size ho) (Nat.le_trans I.sz h)) (Nat.lt_irrefl _)
theorem Inv.cne (I : Inv X pins σ H s) : ∀ x c, X.env.cells.lookup x = some c → c ≠ X.env.locals := fun x c e z => by
  obtain ⟨v, o, ho, hd⟩ := I.cell x c e
  obtain ⟨m, ⟨o', es, ep, ho', hd', _⟩, _⟩ := I.loc
  rw [z, ho'] at ho; cases ho; rw [hd'] at hd; cases hd
theorem Inv.funs (I : Inv X pins σ H s) : s.heap.FunFrames X.base X.outer := by
  have all : ∀ (l : List Env), (∀ b ∈ frs l, b ∈ X.fs) → X.s₀.heap.FunFrames X.base l → s.heap.FunFrames X.base l := by
    intro l
    induction l with
    | nil => intro _ _; trivial
    | cons env r ih =>
      intro hs hl
      obtain ⟨hk, ⟨L, o, hf, hn, ho, hd⟩, hr⟩ := hl
      have hL : L ∈ X.fs := hs L (by unfold frs; rw [List.filterMap_cons, hf]; exact List.mem_cons_self)
      obtain ⟨sl, e⟩ := I.base.slot L o ho (I.ok.frf L hL) hL fun z => I.ok.exfs L z hL
      exact ⟨hk, ⟨L, _, hf, hn, e, hd⟩, ih (fun b hb => hs b (by unfold frs; rw [List.filterMap_cons, hf]; exact List.mem_cons_of_mem _ hb)) hr⟩
  exact all X.outer (fun _ hb => hb) I.ok.funs
theorem Inv.stack (I : Inv X pins σ H s) : s.heap.FunFrames X.base X.stack := by
  rcases I.ok.stk with e | ⟨e, hf⟩
  · rw [e]; exact I.funs
  · rw [e]
    obtain ⟨m, hn, _⟩ := I.loc
    refine .cons (by rw [I.ok.kind]; decide) hf hn ?_ I.funs
    exact Heap.get?_none_of_le (Nat.le_trans I.ok.bsz I.ok.above)
theorem Inv.stkSub (I : Inv X pins σ H s) : ∀ b ∈ frs X.stack, b ∈ X.env.locals :: X.fs := fun b hb => by
  rcases I.ok.stk with e | ⟨e, hf⟩
  · rw [e] at hb; exact List.mem_cons_of_mem _ hb
  · rw [e] at hb
    unfold frs at hb
    rw [List.filterMap_cons, hf] at hb
    exact hb
theorem Inv.stkFree (I : Inv X pins σ H s) : ∀ b ∈ frs X.stack, H b = none := fun b hb => by
  rcases List.mem_cons.mp (I.stkSub b hb) with e | hb
  · rw [e]; exact I.free
  · obtain ⟨_, o, ho, _⟩ := I.ok.funs.mem hb
    exact I.base.free b o ho (I.ok.frf b hb) fun z => I.ok.exfs b z hb
theorem Inv.step {g' : Array GenState} {t' : Nat} {d' : Drawn} {ch : List Addr} (I : Inv X pins σ H s)
    (hch : ∀ b ∈ ch, (b ∈ X.ex ∨ X.s₀.heap.objs.size ≤ b) ∧ b ≠ X.env.locals ∧ (∀ x c, X.env.cells.lookup x = some c → c ≠ b) ∧ ∀ p ∈ X.pn ++ pins, p.1 ≠ b)
    (keep : ∀ b o, b ≠ X.env.locals → b ∉ X.fs → b ∉ ch → s.heap.get? b = some o → H b = none → h'.get? b = some o)
    (slot : ∀ b o, b ≠ X.env.locals → b ∈ X.fs → b ∉ ch → s.heap.get? b = some o → H b = none → ∃ sl, h'.get? b = some { o with slots := sl }) (free : ∀ b o, b ∉ ch → s.heap.get? b = some o → H b = none → H' b = none)
    (there : ∀ b o, b ∉ ch → s.heap.get? b = some o → ∃ o', h'.get? b = some o')
    (tups : ∀ b xs, H b = some (.tup xs) → H' b = some (.tup xs)) (frzs : ∀ b o u, H b = some (.frz o u) → H' b = some (.frz o u)) (tbls : ∀ b ps, H b = some (.tbl ps) → ∃ more, H' b = some (.tbl (ps ++ more)))
    (ns : ∀ m, s.heap.Ns X.env.locals m → h'.Ns X.env.locals m) (hok : HOk X.prog X.w H' h') (hg : AllBare g') :
    Inv X pins σ H' { s with heap := h', gens := g', drawn := d', toks := t' } := by
  have neL : ∀ b o, X.s₀.heap.get? b = some o → b ≠ X.env.locals := fun b o e => Nat.ne_of_lt (Nat.lt_of_lt_of_le (Heap.lt_size e) I.ok.above)
  have neC : ∀ b o, X.s₀.heap.get? b = some o → b ∉ X.ex → b ∉ ch := fun b o e hx hb => by
    rcases (hch b hb).1 with z | z
    · exact hx z
    · exact absurd (Nat.lt_of_lt_of_le (Heap.lt_size e) z) (Nat.lt_irrefl _)
  have cellK : ∀ x c, X.env.cells.lookup x = some c → ∀ v, s.heap.IsCell c v → h'.IsCell c v := fun x c e v ⟨o, ho, hd⟩ => by
    have nch : c ∉ ch := fun z => (hch c z).2.2.1 x c e rfl
    by_cases hc : c ∈ X.fs
    · obtain ⟨sl, q⟩ := slot c o (I.cne x c e) hc nch ho (I.freeC x c e)
      exact ⟨_, q, hd⟩
    · exact ⟨o, keep c o (I.cne x c e) hc nch ho (I.freeC x c e), hd⟩
  refine ⟨I.ok, I.os, hg, ⟨fun b o e n hb hx => ?_, fun b o e n hb hx => ?_, fun b o e n hx => ?_, fun b o e hx => ?_, fun b xs e => tups b xs (I.base.tups b xs e), fun b o xs e => frzs b o xs (I.base.frzs b o xs e), fun b ps e => ?_⟩, ?_, fun x c e => ?_, ?_, fun x c e => ?_, fun p hp => ?_, hok, I.len⟩
  · exact keep b o (neL b o e) hb (neC b o e hx) (I.base.keep b o e n hb hx) (I.base.free b o e n hx)
  · obtain ⟨sl, e1⟩ := I.base.slot b o e n hb hx
    obtain ⟨sl', e2⟩ := slot b _ (neL b o e) hb (neC b o e hx) e1 (I.base.free b o e n hx)
    exact ⟨sl', e2⟩
  · obtain ⟨o', e1⟩ := I.base.there b o e hx
    exact free b o' (neC b o e hx) e1 (I.base.free b o e n hx)
  · obtain ⟨o', e1⟩ := I.base.there b o e hx
    exact there b o' (neC b o e hx) e1
  · obtain ⟨m1, e1⟩ := I.base.tbls b ps e
    obtain ⟨m2, e2⟩ := tbls b _ e1
    exact ⟨m1 ++ m2, by rw [e2, Array.append_assoc]⟩
  · obtain ⟨m, hn, hl⟩ := I.loc
    refine ⟨m, ns m hn, fun i x v e1 e2 e3 => ?_⟩
    obtain ⟨u, r, l⟩ := hl i x v e1 e2 e3
    refine ⟨u, r, ?_⟩
    rcases l with l | ⟨k, c, e, z⟩
    · exact .inl l
    · exact .inr ⟨k, c, e, cellK x c e _ z⟩
  · obtain ⟨v, z⟩ := I.cell x c e
    exact ⟨v, cellK x c e v z⟩
  · obtain ⟨m, ⟨o, _, _, ho, _⟩, _⟩ := I.loc
    exact free _ o (fun z => (hch _ z).2.1 rfl) ho I.free
  · obtain ⟨v, o, ho, hd⟩ := I.cell x c e
    exact free c o (fun z => (hch c z).2.2.1 x c e rfl) ho (I.freeC x c e)
  · obtain ⟨e, n, ne, nf, d⟩ := I.pin p hp
    have nch : p.1 ∉ ch := fun z => (hch p.1 z).2.2.2 p hp rfl
    exact ⟨keep p.1 p.2 ne nf nch e n, free p.1 p.2 nch e n, ne, nf, d⟩
theorem Inv.un {t' : Nat} (I : Inv X pins σ H s) (u : Un X.fs [] H H' s.heap h') (hok : HOk X.prog X.w H' h') : Inv X pins σ H' { s with heap := h', toks := t' } := by
  obtain ⟨m, ⟨o, es, ep, ho, r⟩, _⟩ := id I.loc
  obtain ⟨sl, hL⟩ := u.any ho I.free (by simp)
  exact I.step (g' := s.gens) (d' := s.drawn) (ch := []) (fun _ z => nomatch z) (fun b o _ hb _ e n => u.keep b o e n hb (by simp)) (fun b o _ hb _ e n => u.slot b o e n hb (by simp)) (fun b o _ e n => u.free b o e n (by simp)) (fun b o _ e => u.there b o e (by simp)) u.tups u.frzs u.tbls (fun m' hm => by
    obtain ⟨o', es', ep', ho', r'⟩ := hm
    rw [ho] at ho'; cases ho'
    exact ⟨_, es', ep', hL, r'⟩) hok I.bare
theorem Inv.call {g' : Array GenState} {t' : Nat} {d' : Drawn} {ch : List Addr} (I : Inv X pins σ H s) (u : Un (frs X.stack) ch H H' s.heap h') (hok : HOk X.prog X.w H' h') (hg : AllBare g')
    (hch : ∀ b ∈ ch, (b ∈ X.ex ∨ X.s₀.heap.objs.size ≤ b) ∧ b ≠ X.env.locals ∧ (∀ x c, X.env.cells.lookup x = some c → c ≠ b) ∧ ∀ p ∈ X.pn ++ pins, p.1 ≠ b) :
    Inv X pins σ H' { s with heap := h', gens := g', drawn := d', toks := t' } := by
  obtain ⟨m, ⟨o, es, ep, ho, r⟩, _⟩ := id I.loc
  obtain ⟨sl, hL⟩ := u.any ho I.free fun z => (hch _ z).2.1 rfl
  exact I.step (ch := ch) hch (fun b o hL hb hc e n => u.keep b o e n (fun z => (List.mem_cons.mp (I.stkSub b z)).elim hL hb) hc) (fun b o _ _ hc e n => u.any e n hc) (fun b o hc e n => u.free b o e n hc) (fun b o hc e => u.there b o e hc) u.tups u.frzs u.tbls (fun m' hm => by
    obtain ⟨o', es', ep', ho', r'⟩ := hm
    rw [ho] at ho'; cases ho'
    exact ⟨_, es', ep', hL, r'⟩) hok hg
theorem Inv.turned {t' : Nat} {it : Addr} (I : Inv X pins σ H s) (k : ∀ b o, b ≠ it → s.heap.get? b = some o → h'.get? b = some o) (hn : H it = none) (hL : it ≠ X.env.locals)
    (h1 : it ∈ X.ex ∨ X.s₀.heap.objs.size ≤ it) (h2 : ∀ x c, X.env.cells.lookup x = some c → c ≠ it) (h3 : ∀ p ∈ X.pn ++ pins, p.1 ≠ it) : Inv X pins σ H { s with heap := h', toks := t' } := by
  have nit : ∀ b u, H b = some u → b ≠ it := fun b u e z => by rw [z, hn] at e; cases e
  refine I.step (g' := s.gens) (d' := s.drawn) (ch := [it]) (fun b hb => ?_) (fun b o _ _ hc e _ => k b o (fun z => hc (by simp [z])) e) (fun b o _ _ hc e _ => ⟨o.slots, k b o (fun z => hc (by simp [z])) e⟩) (fun _ _ _ _ n => n)
    (fun b o hc e => ⟨o, k b o (fun z => hc (by simp [z])) e⟩) (fun _ _ e => e) (fun _ _ _ e => e) (fun b ps e => ⟨#[], by rw [e]; simp⟩) (fun m hm => ?_) (fun b u e => ?_) I.bare
  · have e : b = it := by simpa using hb
    subst e
    exact ⟨h1, hL, h2, h3⟩
  · obtain ⟨o, es, ep, ho, r⟩ := hm
    exact ⟨o, es, ep, k _ o (Ne.symm hL) ho, r⟩
  · refine (I.hok b u e).stay (fun c v hc q => k c v ?_ q) (fun _ q => q) fun _ _ q => q
    rcases hc with z | z
    · rw [z]; exact nit b u e
    · exact nit c _ z
theorem Inv.tok (I : Inv X pins σ H s) (t : Nat) : Inv X pins σ H { s with toks := t } := I.un (h' := s.heap) (t' := t) Un.refl I.hok
theorem Inv.kept {t' : Nat} (I : Inv X pins σ H s) (k : ∀ b u, s.heap.get? b = some u → h'.get? b = some u) : Inv X pins σ H { s with heap := h', toks := t' } := I.un (Un.kept k) (I.hok.kept k)
theorem Inv.laid {a : Addr} {o : HO} {t' : Nat} (I : Inv X pins σ H s) (k : ∀ b u, s.heap.get? b = some u → h'.get? b = some u) (hp : s.heap.objs.size ≤ a) (new : ObjOk X.prog X.w (upd H a o) h' a o) :
    Inv X pins σ (upd H a o) { s with heap := h', toks := t' } := I.un (Un.laid k hp (I.hok.fresh hp)) (I.hok.laid k hp new)
theorem Inv.write {x e : Addr} {o : HO} {t' : Nat} (I : Inv X pins σ H s) (mu : Mut (H x)) (he : e = x ∨ H e = some (.own x)) (k : ∀ b u, b ≠ e → s.heap.get? b = some u → h'.get? b = some u) (heo : ∃ u, h'.get? e = some u)
    (new : ObjOk X.prog X.w (upd H x o) h' x o) : Inv X pins σ (upd H x o) { s with heap := h', toks := t' } := I.un (Un.write mu he k heo) (I.hok.write mu he k heo new)
theorem Inv.weak {σ' : List (Option V)} (I : Inv X pins σ H s) (hl : σ'.length = σ.length) (w : ∀ (i : Nat) v, σ'[i]? = some (some v) → σ[i]? = some (some v)) : Inv X pins σ' H s :=
  ⟨I.ok, I.os, I.bare, I.base, let ⟨m, hn, hl'⟩ := I.loc; ⟨m, hn, fun i x v e1 e2 e3 => hl' i x v e1 (w i v e2) e3⟩, I.cell, I.free, I.freeC, I.pin, I.hok, hl.trans I.len⟩
theorem Inv.pins_of {pins' : List (Addr × Obj)} (I : Inv X pins σ H s) (h : ∀ p ∈ pins', s.heap.get? p.1 = some p.2 ∧ H p.1 = none ∧ p.1 ≠ X.env.locals ∧ p.1 ∉ X.fs ∧ ∀ v, p.2.data ≠ .cell v) : Inv X pins' σ H s :=
  ⟨I.ok, I.os, I.bare, I.base, I.loc, I.cell, I.free, I.freeC, fun p hp => (List.mem_append.mp hp).elim (fun z => I.pin p (List.mem_append_left _ z)) (h p), I.hok, I.len⟩
theorem nodup_ix {N : List Str} (hN : N.Nodup) {i j : Nat} {x : Str} (a : N[i]? = some x) (b : N[j]? = some x) : i = j := by
  obtain ⟨h1, e1⟩ := List.getElem?_eq_some_iff.mp a
  obtain ⟨h2, e2⟩ := List.getElem?_eq_some_iff.mp b
  exact (List.getElem_inj hN).mp (e1.trans e2.symm)
theorem store_ok2 {M : Model} {A : Around} {E : Value → Shared → Prop} {i : Nat} {x : Str} {v : V} {u : Value} {Q : Unit → Shared → Prop} (I : Inv X pins σ H s) (hN : X.N.Nodup) (hi : X.N[i]? = some x) (hx : Loc X.env.scope x) (r : RelV v u)
    (h : ∀ s', Inv X pins (σ.set i (some v)) H s' → (∃ a, Heap.SameBut a s.heap s'.heap ∧ (a = X.env.locals ∨ X.env.cells.lookup x = some a)) → Q () s') (hf : X.fn x = true ∨ X.env.scope.names.lookup x = some .local := by first | exact .inl rfl | exact .inr rfl | assumption) : wpAny M A (storeName X.env x u) Q E s := by
  obtain ⟨m, hn, hl⟩ := id I.loc
  have hcls : (X.env.scope.kind == .class || (X.env.scope.kind == .module && X.env.locals != X.env.globals)) = false := by rw [I.ok.kind]; rfl
  have hiσ : i < σ.length := by rw [I.len]; exact (List.getElem?_eq_some_iff.mp hi).1
  have cne := I.cne
  have tracked : ∀ {a : Addr} {h' : Heap}, (∃ o, s.heap.get? a = some o ∧ H a = none) → Heap.SameBut a s.heap h' → HOk X.prog X.w H h' := fun {a h'} ha hs b ob e => by
    obtain ⟨_, _, hfree⟩ := ha
    refine (I.hok b ob e).stay (fun c w' hc q => (hs.2 c ?_).trans q) (fun _ q => q) fun _ _ q => q
    rintro rfl
    rcases hc with rfl | hc
    · rw [hfree] at e; cases e
    · rw [hfree] at hc; cases hc
  rcases hx with hk | hk
  · refine wpAny_storeName_local hk hn (fun h' hn' hs => ?_) hcls
    obtain ⟨oL, _, _, hoL, _⟩ := id hn
    refine h _ ⟨I.ok, I.os, I.bare, ⟨fun b o e n hb hx => ?_, fun b o e n hb hx => ?_, I.base.free, fun b o e hx => ?_, I.base.tups, I.base.frzs, I.base.tbls⟩, ⟨_, hn', fun j y v' e1 e2 e3 => ?_⟩, fun y c e => ?_, I.free, I.freeC, fun p hp => ?_, tracked ⟨oL, hoL, I.free⟩ hs, by simpa using I.len⟩ ⟨_, hs, .inl rfl⟩
    · exact (hs.2 b (Nat.ne_of_lt (Nat.lt_of_lt_of_le (Heap.lt_size e) I.ok.above))).trans (I.base.keep b o e n hb hx)
    · obtain ⟨sl, e1⟩ := I.base.slot b o e n hb hx
      exact ⟨sl, (hs.2 b (Nat.ne_of_lt (Nat.lt_of_lt_of_le (Heap.lt_size e) I.ok.above))).trans e1⟩
    · obtain ⟨o', e1⟩ := I.base.there b o e hx
      exact ⟨o', (hs.2 b (Nat.ne_of_lt (Nat.lt_of_lt_of_le (Heap.lt_size e) I.ok.above))).trans e1⟩
    · by_cases hj : j = i
      · subst hj
        rw [hi] at e1; cases e1
        rw [List.getElem?_set_self hiσ] at e2
        cases e2
        exact ⟨u, r, .inl ⟨hk, by simp⟩⟩
      · rw [List.getElem?_set_ne (Ne.symm hj)] at e2
        obtain ⟨u', r', q⟩ := hl j y v' e1 e2 e3
        refine ⟨u', r', ?_⟩
        rcases q with ⟨k, e⟩ | ⟨k, c, e, z⟩
        · refine .inl ⟨k, ?_⟩
          have : y ≠ x := fun e => hj (nodup_ix hN e1 (e ▸ hi))
          simp [this, e]
        · exact .inr ⟨k, c, e, z.sameBut hs (cne y c e)⟩
    · obtain ⟨w', z⟩ := I.cell y c e
      exact ⟨w', z.sameBut hs (cne y c e)⟩
    · obtain ⟨e, n, ne, nf, d⟩ := I.pin p hp
      exact ⟨(hs.2 p.1 ne).trans e, n, ne, nf, d⟩
  · have hfn : X.fn x = true := by
      rcases hf with z | z
      · exact z
      · rw [z] at hk; cases hk
    obtain ⟨c, hc⟩ := I.ok.has x (.inl hk)
    obtain ⟨w', z⟩ := I.cell x c hc
    refine wpAny_storeName_cell I.ok.kind hk hc z (fun h' hc' hs => ?_)
    obtain ⟨oc, hoc, hocd⟩ := id z
    refine h { s with heap := h' } ⟨I.ok, I.os, I.bare, ⟨fun b o e n hb hx => ?_, fun b o e n hb hx => ?_, I.base.free, fun b o e hx => ?_, I.base.tups, I.base.frzs, I.base.tbls⟩, ⟨m, hn.sameBut hs (Ne.symm (cne x c hc)), fun j y v' e1 e2 e3 => ?_⟩, fun y c' e => ?_, I.free, I.freeC, fun p hp => ?_, tracked ⟨oc, hoc, I.freeC x c hc⟩ hs, by simpa using I.len⟩ ⟨c, hs, .inr hc⟩
    · exact (hs.2 b (Nat.ne_of_lt (Nat.lt_of_lt_of_le (Heap.lt_size e) (I.ok.cab x c hfn hc)))).trans (I.base.keep b o e n hb hx)
    · obtain ⟨sl, e1⟩ := I.base.slot b o e n hb hx
      exact ⟨sl, (hs.2 b (Nat.ne_of_lt (Nat.lt_of_lt_of_le (Heap.lt_size e) (I.ok.cab x c hfn hc)))).trans e1⟩
    · obtain ⟨o', e1⟩ := I.base.there b o e hx
      exact ⟨o', (hs.2 b (Nat.ne_of_lt (Nat.lt_of_lt_of_le (Heap.lt_size e) (I.ok.cab x c hfn hc)))).trans e1⟩
    · by_cases hj : j = i
      · subst hj
        rw [hi] at e1; cases e1
        rw [List.getElem?_set_self hiσ] at e2
        cases e2
        exact ⟨u, r, .inr ⟨.inl hk, c, hc, hc'⟩⟩
      · rw [List.getElem?_set_ne (Ne.symm hj)] at e2
        obtain ⟨u', r', q⟩ := hl j y v' e1 e2 e3
        refine ⟨u', r', ?_⟩
        rcases q with q | ⟨k, c', e, z'⟩
        · exact .inl q
        · refine .inr ⟨k, c', e, z'.sameBut hs ?_⟩
          rintro rfl
          exact hj (nodup_ix hN e1 (I.ok.inj _ _ _ e hc ▸ hi))
    · by_cases hcc : c' = c
      · subst hcc; exact ⟨_, hc'⟩
      · obtain ⟨w2, z2⟩ := I.cell y c' e
        exact ⟨w2, z2.sameBut hs hcc⟩
    · obtain ⟨e, n, ne, nf, d⟩ := I.pin p hp
      refine ⟨(hs.2 p.1 ?_).trans e, n, ne, nf, d⟩
      intro q
      rw [q, hoc] at e
      have q' : oc = p.2 := Option.some.inj e
      exact d w' (by rw [← q']; exact hocd)
theorem store_ok {M : Model} {A : Around} {E : Value → Shared → Prop} {i : Nat} {x : Str} {v : V} {u : Value} {Q : Unit → Shared → Prop} (I : Inv X pins σ H s) (hN : X.N.Nodup) (hi : X.N[i]? = some x) (hx : Loc X.env.scope x) (r : RelV v u)
    (h : ∀ s', Inv X pins (σ.set i (some v)) H s' → Q () s') (hf : X.fn x = true ∨ X.env.scope.names.lookup x = some .local := by first | exact .inl rfl | exact .inr rfl | assumption) : wpAny M A (storeName X.env x u) Q E s :=
  store_ok2 I hN hi hx r (fun s' I' _ => h s' I') hf
theorem Inv.call' {s' : Shared} {ch : List Addr} (I : Inv X pins σ H s) (ho : s'.os = s.os) (u : Un (frs X.stack) ch H H' s.heap s'.heap) (hok : HOk X.prog X.w H' s'.heap) (hg : AllBare s'.gens)
    (hch : ∀ b ∈ ch, (b ∈ X.ex ∨ X.s₀.heap.objs.size ≤ b) ∧ b ≠ X.env.locals ∧ (∀ x c, X.env.cells.lookup x = some c → c ≠ b) ∧ ∀ p ∈ X.pn ++ pins, p.1 ≠ b) : Inv X pins σ H' s' := by
  obtain ⟨h', g', d', t', o'⟩ := s'
  have e : o' = s.os := ho
  subst e
  exact I.call (g' := g') (t' := t') (d' := d') u hok hg hch
end
abbrev XK := Value → Option Addr → Hp → Prop
abbrev St := List (Option V)
abbrev VK := V → Hp → Prop
abbrev TE := St → Hp → VK → Prop
abbrev TT := St → Hp → (Bool → Hp → Prop) → Prop
abbrev TA := St → Hp → (List V → Hp → Prop) → Prop
structure Ends where
  nx : St → Hp → Prop
  rt : VK
  bk : St → Hp → Prop := fun _ _ => False
  ct : St → Hp → Prop := fun _ _ => False
abbrev TS := Ends → St → Hp → Prop
def EP (X : Cx) (pins : List (Addr × Obj)) (σ : St) (Q : VK) (u : Value) (s' : Shared) : Prop := ∃ v H', Inv X pins σ H' s' ∧ RelV v u ∧ Q v H'
def TP (X : Cx) (pins : List (Addr × Obj)) (σ : St) (Q : Bool → Hp → Prop) (b : Bool) (s' : Shared) : Prop := ∃ H', Inv X pins σ H' s' ∧ Q b H'
def AP (X : Cx) (pins : List (Addr × Obj)) (σ : St) (Q : List V → Hp → Prop) (us : List Value) (s' : Shared) : Prop := ∃ vs H', Inv X pins σ H' s' ∧ Vals vs us ∧ Q vs H'
def SP (X : Cx) (pins : List (Addr × Obj)) (D : Ends) (f : Flow) (s' : Shared) : Prop :=
  match f with
  | .next => ∃ σ' H', Inv X pins σ' H' s' ∧ D.nx σ' H'
  | .brk => ∃ σ' H', Inv X pins σ' H' s' ∧ D.bk σ' H'
  | .cont => ∃ σ' H', Inv X pins σ' H' s' ∧ D.ct σ' H'
  | .ret u => ∃ v σ' H', Inv X pins σ' H' s' ∧ RelV v u ∧ D.rt v H'
def PE (X : Cx) (e : Expr) (t : TE) : Prop :=
  ∀ (pins : List (Addr × Obj)) (s : Shared) (σ : St) (H : Hp) (Q : VK), Inv X pins σ H s → t σ H Q → wpAny (model X.prog X.w) X.A (eval e X.env) (EP X pins σ Q) X.xe s
def PT (X : Cx) (e : Expr) (t : TT) : Prop :=
  ∀ (pins : List (Addr × Obj)) (s : Shared) (σ : St) (H : Hp) (Q : Bool → Hp → Prop), Inv X pins σ H s → t σ H Q → wpAny (model X.prog X.w) X.A (isTrue e X.env (eval e X.env)) (TP X pins σ Q) X.xe s
def PW (X : Cx) (e : Expr) (t : TT) : Prop :=
  ∀ (whole : Sem Value) (pins : List (Addr × Obj)) (s : Shared) (σ : St) (H : Hp) (Q : Bool → Hp → Prop), Inv X pins σ H s → t σ H Q → wpAny (model X.prog X.w) X.A (isTrue e X.env whole) (TP X pins σ Q) X.xe s
theorem PW.pt {X : Cx} {e : Expr} {t : TT} (h : PW X e t) : PT X e t := h _
def PA (X : Cx) (es : List Expr) (t : TA) : Prop :=
  ∀ (pos : Pos) (pins : List (Addr × Obj)) (s : Shared) (σ : St) (H : Hp) (Q : List V → Hp → Prop), Inv X pins σ H s → t σ H Q → wpAny (model X.prog X.w) X.A (spliced (backTo pos (starEach es X.env))) (AP X pins σ Q) X.xe s
def PS (X : Cx) (st : Stmt) (t : TS) : Prop :=
  ∀ (pins : List (Addr × Obj)) (s : Shared) (σ : St) (H : Hp) (D : Ends), Inv X pins σ H s → t D σ H → wpAny (model X.prog X.w) X.A (exec st X.env) (SP X pins D) X.xe s
def PSs (X : Cx) (st : List Stmt) (t : TS) : Prop :=
  ∀ (pins : List (Addr × Obj)) (s : Shared) (σ : St) (H : Hp) (D : Ends), Inv X pins σ H s → t D σ H → wpAny (model X.prog X.w) X.A (execs st X.env) (SP X pins D) X.xe s
theorem thn {α : Type} {t : Sem α} {Q Q' : α → Shared → Prop} {M : Model} {A : Around} {E : Value → Shared → Prop} {s : Shared} (h : wpAny M A t Q E s) (hQ : ∀ a s, Q a s → Q' a s) : wpAny M A t Q' E s := wpAny_mono h hQ fun _ _ x => x
end L2
namespace L2
open PySem PySem.Spec PyProof.Rows
section
variable {X : Cx}
def tVar (i : Nat) : TE := fun σ H Q => ∃ v, σ[i]? = some (some v) ∧ Q v H
def tC (v : V) : TE := fun _ H Q => Q v H
theorem pe_var {i : Nat} {x : Str} {pos : Pos} (hN : X.N[i]? = some x) (hv : Vis X.env.scope x) (hd : (x == ("__debug__" : Str)) = false := by decide) (hcd : (x == ("__classdict__" : Str)) = false := by decide) : PE X (.Name x pos) (tVar i) := by
  intro pins s σ H Q I h
  obtain ⟨v, e, h⟩ := h
  obtain ⟨m, hn, hl⟩ := I.loc
  obtain ⟨u, r, l⟩ := hl i x v hN e hv
  have fin : EP X pins σ Q u s := ⟨v, H, I, r, h⟩
  rcases l with ⟨hk, hm⟩ | ⟨hk, c, hc, hcell⟩
  · exact wpAny_Name (wpAny_loadName_local I.ok.kind hk hn hm fin) hd
  · rcases hk with hk | hk
    · exact wpAny_Name (wpAny_loadName_cell I.ok.kind hk hc hcell fin) hd
    · exact wpAny_Name (wpAny_loadName_free I.ok.kind hk hc hcell fin hcd) hd
theorem pe_int {i j pos} : PE X (.Constant (.int i) j pos) (tC (.int i)) := fun _ _ _ H _ I h => wpAny_Constant_int ⟨.int i, H, I.tok _, ⟨_, rfl⟩, h⟩
theorem pe_bl {b j pos} : PE X (.Constant (.bool b) j pos) (tC (.bl b)) := fun _ _ _ H _ I h => Constant_bool ⟨.bl b, H, I, rfl, h⟩
def Gl (X : Cx) (x : Str) : Prop := X.env.kindOf x = some .globalImplicit
theorem ld_glob {E : Value → Shared → Prop} {pins : List (Addr × Obj)} {s : Shared} {σ : St} {H : Hp} {x : Str} {u : Value} {pos : Pos} {Q : Value → Shared → Prop} (I : Inv X pins σ H s) (hg : Gl X x) (hm : X.mg x = some u) (h : Q u s)
    (hd : (x == ("__debug__" : Str)) = false := by decide) : wpAny (model X.prog X.w) X.A (eval (.Name x pos) X.env) Q E s :=
  Calls.Name_function_global I.ok.kind hg (Calls.loadGlobal_global (by rw [I.ok.glob]; exact I.mod.glob.keeps I.bk) hm h) hd
theorem ld_blt {E : Value → Shared → Prop} {pins : List (Addr × Obj)} {s : Shared} {σ : St} {H : Hp} {x : Str} {u : Value} {pos : Pos} {Q : Value → Shared → Prop} (I : Inv X pins σ H s) (hg : Gl X x) (hm : X.mg x = none) (hv : bootBuiltins x = some u) (h : Q u s)
    (hn : x ≠ "__name__" := by decide) (hd : (x == ("__debug__" : Str)) = false := by decide) : wpAny (model X.prog X.w) X.A (eval (.Name x pos) X.env) Q E s := by
  obtain ⟨mb, h1, h2⟩ := I.mod.blt
  exact Calls.Name_function_global I.ok.kind hg (Calls.loadGlobal_builtin (by rw [I.ok.glob]; exact I.mod.glob.keeps I.bk) hm (by rw [I.ok.blt]; exact h1.keeps I.bk) ((h2 x hn).trans hv) h) hd
theorem pe_bltn {x : Str} {v : V} {u : Value} {pos : Pos} (hg : Gl X x) (hm : X.mg x = none) (hv : bootBuiltins x = some u) (r : RelV v u) (hn : x ≠ "__name__" := by decide) (hd : (x == ("__debug__" : Str)) = false := by decide) : PE X (.Name x pos) (tC v) :=
  fun _ _ _ H _ I h => ld_blt I hg hm hv ⟨v, H, I, r, h⟩ hn hd
variable {a b : Expr} {ta tb : TE} {pos : Pos}
def tB (t : TE) : TT := fun σ H Q => t σ H fun x H1 => ∃ c, x = .bl c ∧ Q c H1
theorem pt_val {e : Expr} {t : TE} (h : PE X e t) (he : ∀ whole, isTrue e X.env whole = (do let v ← whole; standAt e.pos; holding [v] (truthy v)) := by intro _; rfl) : PT X e (tB t) := by
  intro pins s σ H Q I hw
  refine isTrue_plain (thn (h pins s σ H _ I hw) fun v s1 ⟨x, H1, I1, r1, q1⟩ => ?_) (he _)
  obtain ⟨d, rfl, q⟩ := q1
  cases r1
  exact wpAny_truthy_bool ⟨H1, I1, q⟩
variable {tA tB' : TT} {rest : List Expr}
def tOr (t u : TT) : TT := fun σ H Q => t σ H fun c H1 => if c = true then Q true H1 else u σ H1 Q
def tNot (t : TT) : TT := fun σ H Q => t σ H fun c H1 => Q (!c) H1
theorem pw_or1 (ha : PT X a tA) : PW X (.BoolOp .Or [a] pos) tA := by
  intro wh pins s σ H Q I h
  refine isTrue_or (thn (ha pins s σ H Q I h) fun c s1 e => ?_)
  cases c with
  | false => exact isTrue_or_nil e
  | true => exact e
theorem pw_or (ha : PT X a tA) (hb : PW X (.BoolOp .Or (b :: rest) pos) tB') : PW X (.BoolOp .Or (a :: b :: rest) pos) (tOr tA tB') := by
  intro wh pins s σ H Q I h
  refine isTrue_or (thn (ha pins s σ H _ I h) fun c s1 ⟨H1, I1, q1⟩ => ?_)
  cases c with
  | true => exact ⟨H1, I1, q1⟩
  | false => exact hb wh pins s1 σ H1 Q I1 q1
theorem pt_not (ha : PT X a tA) : PT X (.UnaryOp .Not a pos) (tNot tA) := by
  intro pins s σ H Q I h
  exact isTrue_not (ha pins s σ H (fun c H1 => Q (!c) H1) I h)
def tAndV (ta tb : TE) : TE := fun σ H Q => ta σ H fun x H1 => ∃ c, x = .bl c ∧ if c = true then tb σ H1 Q else Q (.bl false) H1
def tNotV (ta : TE) : TE := fun σ H Q => ta σ H fun x H1 => ∃ c, x = .bl c ∧ Q (.bl (!c)) H1
theorem pe_one {op} {t : TE} (h : PE X a t) : PE X (.BoolOp op [a] pos) t := fun pins s σ H Q I hw => BoolOp_one (h pins s σ H Q I hw)
theorem pe_and (ha : PE X a ta) (hb : PE X (.BoolOp .And (b :: rest) pos) tb) : PE X (.BoolOp .And (a :: b :: rest) pos) (tAndV ta tb) := by
  intro pins s σ H Q I h
  refine BoolOp_and (thn (ha pins s σ H _ I h) fun v s1 ⟨x, H1, I1, r1, q1⟩ => ?_)
  obtain ⟨c, rfl, q1⟩ := q1
  cases r1
  refine wpAny_truthy_bool ?_
  cases c with
  | true => exact hb pins s1 σ H1 Q I1 q1
  | false => exact ⟨.bl false, H1, I1, rfl, q1⟩
theorem pe_not (ha : PE X a ta) : PE X (.UnaryOp .Not a pos) (tNotV ta) := by
  intro pins s σ H Q I h
  refine UnaryOp_ (thn (ha pins s σ H _ I h) fun v s1 ⟨x, H1, I1, r1, q1⟩ => ?_)
  obtain ⟨c, rfl, q1⟩ := q1
  cases r1
  exact not_of (wpAny_truthy_bool ⟨.bl (!c), H1, I1, rfl, q1⟩)
end
end L2
namespace L2
open PySem PySem.Spec PyProof.Rows
def SqL (K : PySem.W.Frag) (H : Hp) (a : Addr) (xs : List V) : Prop :=
  Rd H a (.lst xs) ∨
    ∃ (o : Obj) (its : Array Value) (n : Nat), K.lookup a = some o ∧ o.cls = .type "list" ∧ o.dict = none ∧ o.data = .seq its n ∧ its.size ≤ sizeLine ∧ Vals xs its.toList
def SqT (K : PySem.W.Frag) (H : Hp) (a : Addr) (xs : List V) : Prop :=
  Rd H a (.tup xs) ∨
    ∃ (o : Obj) (its : Array Value) (n : Nat), K.lookup a = some o ∧ o.cls = .type "tuple" ∧ o.data = .seq its n ∧ its.size ≤ sizeLine ∧ Vals xs its.toList
def absV : Value → Option V
  | .none => some .non
  | .bool b => some (.bl b)
  | .int i _ => some (.int i)
  | .str x _ => some (.str x)
  | .bytes b _ => some (.byt b)
  | .float b _ => some (.flt b)
  | .ref a => some (.ref a)
  | .type n => some (.ty n)
  | _ => none
theorem RelV.abs {x : V} {u : Value} (r : RelV x u) : absV u = some x := by
  cases x with
  | non => cases r; rfl
  | bl _ => cases r; rfl
  | int _ => obtain ⟨t, rfl⟩ := r; rfl
  | str _ => obtain ⟨t, rfl⟩ := r; rfl
  | byt _ => obtain ⟨t, rfl⟩ := r; rfl
  | flt _ => obtain ⟨t, rfl⟩ := r; rfl
  | ref _ => cases r; rfl
  | ty _ => cases r; rfl
theorem RelV.inj {x y : V} {u : Value} (r : RelV x u) (q : RelV y u) : x = y := Option.some.inj (r.abs.symm.trans q.abs)
theorem Vals.inj : ∀ {xs ys : List V} {us : List Value}, Vals xs us → Vals ys us → xs = ys
  | _, _, _, .nil, .nil => rfl
  | _, _, _, .cons r t, .cons r' t' => by rw [r.inj r', Vals.inj t t']
section
variable {X : Cx} {pins : List (Addr × Obj)} {σ : St} {H : Hp} {s : Shared} {a : Addr} {xs ys : List V}
theorem SqL.of {K : PySem.W.Frag} (h : H a = some (.lst xs)) : SqL K H a xs := .inl (.inl h)
theorem SqT.of {K : PySem.W.Frag} (h : H a = some (.tup xs)) : SqT K H a xs := .inl (.inl h)
theorem Inv.list (I : Inv X pins σ H s) (h : SqL X.K H a xs) : ∃ its : List Value, Vals xs its ∧ PlainL s.heap a its.toArray ∧ xs.length ≤ sizeLine := by
  rcases h with h | ⟨o, its, n, hk, hc, hd, hs, hz, r⟩
  · obtain ⟨z, its, n, r, e⟩ := h.ok I.hok
    exact ⟨its, r, ⟨_, n, e, rfl, rfl, rfl⟩, z⟩
  · refine ⟨its.toList, r, ⟨o, n, I.kIn a o hk, hc, hd, by simpa using hs⟩, ?_⟩
    have e := r.length
    simp only [Array.length_toList] at e
    omega
theorem Inv.tuple (I : Inv X pins σ H s) (h : SqT X.K H a xs) : ∃ its : List Value, Vals xs its ∧ IsTup s.heap a its.toArray ∧ xs.length ≤ sizeLine := by
  rcases h with h | ⟨o, its, n, hk, hc, hs, hz, r⟩
  · obtain ⟨z, its, r, p⟩ := h.ok I.hok
    exact ⟨its, r, p, z⟩
  · refine ⟨its.toList, r, ⟨o, I.kIn a o hk, hc, n, by simpa using hs⟩, ?_⟩
    have e := r.length
    simp only [Array.length_toList] at e
    omega
theorem Inv.list_inj (I : Inv X pins σ H s) (h : SqL X.K H a xs) (h' : SqL X.K H a ys) : xs = ys := by
  obtain ⟨its, r, ⟨o, n, e, _, _, d⟩, _⟩ := I.list h
  obtain ⟨its', r', ⟨o', n', e', _, _, d'⟩, _⟩ := I.list h'
  rw [e] at e'; cases e'
  rw [d] at d'
  injection d' with d1 _
  have : its = its' := by simpa using congrArg Array.toList d1
  subst this
  exact r.inj r'
theorem Inv.tuple_inj (I : Inv X pins σ H s) (h : SqT X.K H a xs) (h' : SqT X.K H a ys) : xs = ys := by
  obtain ⟨its, r, ⟨o, e, _, n, d⟩, _⟩ := I.tuple h
  obtain ⟨its', r', ⟨o', e', _, n', d'⟩, _⟩ := I.tuple h'
  rw [e] at e'; cases e'
  rw [d] at d'
  injection d' with d1 _
  have : its = its' := by simpa using congrArg Array.toList d1
  subst this
  exact r.inj r'
end
abbrev Cx.wish (X : Cx) (E : Value → Shared → Prop) : Cx := { X with xe := E }
abbrev Cx.nox (X : Cx) : Cx := X.wish fun _ _ => False
theorem Cx.Ok.wish {X : Cx} (ok : X.Ok) (E : Value → Shared → Prop) : (X.wish E).Ok :=
  ⟨ok.mod, ok.kind, ok.glob, ok.blt, ok.above, ok.inj, ok.has, ok.cab, ok.hd, ok.frames, ok.stk, ok.exf, ok.bs, ok.bsz, ok.noex, ok.exfs, ok.funs, ok.frf⟩
theorem Cx.Ok.unwish {X : Cx} {E : Value → Shared → Prop} (ok : (X.wish E).Ok) : X.Ok :=
  ⟨ok.mod, ok.kind, ok.glob, ok.blt, ok.above, ok.inj, ok.has, ok.cab, ok.hd, ok.frames, ok.stk, ok.exf, ok.bs, ok.bsz, ok.noex, ok.exfs, ok.funs, ok.frf⟩
section
variable {X : Cx} {pins : List (Addr × Obj)} {σ : St} {H : Hp} {s : Shared} {E : Value → Shared → Prop}
theorem Inv.wish (I : Inv X pins σ H s) (E : Value → Shared → Prop) : Inv (X.wish E) pins σ H s := ⟨I.ok.wish E, I.os, I.bare, I.base, I.loc, I.cell, I.free, I.freeC, I.pin, I.hok, I.len⟩
theorem Inv.unwish (I : Inv (X.wish E) pins σ H s) : Inv X pins σ H s := ⟨I.ok.unwish, I.os, I.bare, I.base, I.loc, I.cell, I.free, I.freeC, I.pin, I.hok, I.len⟩
theorem SP.unwish {D : Ends} {f : Flow} {s' : Shared} (h : SP (X.wish E) pins D f s') : SP X pins D f s' := by
  cases f with
  | next => obtain ⟨σ', H', I, q⟩ := h; exact ⟨σ', H', I.unwish, q⟩
  | brk => obtain ⟨σ', H', I, q⟩ := h; exact ⟨σ', H', I.unwish, q⟩
  | cont => obtain ⟨σ', H', I, q⟩ := h; exact ⟨σ', H', I.unwish, q⟩
  | ret u => obtain ⟨v, σ', H', I, r, q⟩ := h; exact ⟨v, σ', H', I.unwish, r, q⟩
theorem PE.nox {e : Expr} {t : TE} (h : PE X.nox e t) : PE X e t := fun pins s σ H Q I hw =>
  wpAny_mono (h pins s σ H Q (I.wish _) hw) (fun _ _ ⟨v, H', I', r, q⟩ => ⟨v, H', I'.unwish, r, q⟩) fun _ _ z => False.elim z
theorem PT.nox {e : Expr} {t : TT} (h : PT X.nox e t) : PT X e t := fun pins s σ H Q I hw =>
  wpAny_mono (h pins s σ H Q (I.wish _) hw) (fun _ _ ⟨H', I', q⟩ => ⟨H', I'.unwish, q⟩) fun _ _ z => False.elim z
theorem PSs.nox {st : List Stmt} {t : TS} (h : PSs X.nox st t) : PSs X st t := fun pins s σ H D I hw =>
  wpAny_mono (h pins s σ H D (I.wish _) hw) (fun _ _ q => q.unwish) fun _ _ z => False.elim z
end
section
variable {X : Cx} {st : Stmt} {rest : List Stmt} {t u : TS} {e : Expr} {te : TE} {pos : Pos}
def tNext : TS := fun D σ H => D.nx σ H
def tSeq (t u : TS) : TS := fun D σ H => t { D with nx := u D } σ H
theorem pss_nil : PSs X [] tNext := fun _ _ σ H _ I h => wpAny_execs_nil ⟨σ, H, I, h⟩
theorem pss_cons (h1 : PS X st t) (h2 : PSs X rest u) : PSs X (st :: rest) (tSeq t u) := by
  intro pins s σ H D I h
  refine wpAny_execs_cons (thn (h1 pins s σ H { D with nx := u D } I h) fun f s1 q => ?_)
  cases f with
  | next =>
    obtain ⟨σ', H', I', q⟩ := q
    exact h2 pins s1 σ' H' D I' q
  | ret v => exact q
  | brk => exact q
  | cont => exact q
theorem pss_one (h1 : PS X st t) : PSs X [st] t := by
  intro pins s σ H D I h
  refine wpAny_execs_cons (thn (h1 pins s σ H D I h) fun f s1 q => ?_)
  cases f with
  | next => exact wpAny_execs_nil q
  | ret v => exact q
  | brk => exact q
  | cont => exact q
theorem Inv.quiet {pins : List (Addr × Obj)} {σ : St} {H : Hp} {s : Shared} (I : Inv X pins σ H s) : interactive X.env = false := by simp [interactive, I.ok.kind]
def tDrop (te : TE) : TS := fun D σ H => te σ H fun _ H1 => D.nx σ H1
theorem ps_expr (he : PE X e te) (hs : swapsWith e none pos.line X.env = pure false := by rfl) : PS X (.Expr e pos) (tDrop te) := by
  intro pins s σ H D I h
  exact wpAny_Expr_any (thn (he pins s σ H _ I h) fun v s1 ⟨x, H1, I1, r1, q1⟩ => ⟨σ, H1, I1, q1⟩) I.quiet hs
def tRet (te : TE) : TS := fun D σ H => te σ H D.rt
theorem ps_ret (he : PE X e te) : PS X (.Return (some e) pos) (tRet te) := by
  intro pins s σ H D I h
  exact wpAny_Return_some (thn (he pins s σ H _ I h) fun v s1 ⟨x, H1, I1, r1, q1⟩ => ⟨x, σ, H1, I1, r1, q1⟩)
def tIfS (c : TT) (t u : TS) : TS := fun D σ H => c σ H fun b H1 => if b = true then t D σ H1 else u D σ H1
theorem ps_if {c : Expr} {a b : List Stmt} {tc : TT} (hc : PT X c tc) (ha : PSs X a t) (hb : PSs X b u) : PS X (.If c a b pos) (tIfS tc t u) := by
  intro pins s σ H D I h
  refine wpAny_If (thn (hc pins s σ H _ I h) fun d s1 ⟨H1, I1, q1⟩ => ?_)
  cases d with
  | true => exact ha pins s1 σ H1 D I1 q1
  | false => exact hb pins s1 σ H1 D I1 q1
end
abbrev TG := V → St → Hp → (St → Hp → Prop) → Prop
abbrev TGs := List V → St → Hp → (St → Hp → Prop) → Prop
def PG (X : Cx) (target : Expr) (t : TG) : Prop :=
  ∀ (pins : List (Addr × Obj)) (s : Shared) (σ : St) (H : Hp) (v : V) (u : Value) (Q : St → Hp → Prop), Inv X pins σ H s → RelV v u → t v σ H Q →
    wpAny (model X.prog X.w) X.A (assign target X.env u) (fun _ s' => ∃ σ' H', Inv X pins σ' H' s' ∧ Q σ' H') X.xe s
def PGs (X : Cx) (ts : List Expr) (t : TGs) : Prop :=
  ∀ (pins : List (Addr × Obj)) (s : Shared) (σ : St) (H : Hp) (vs : List V) (us : List Value) (Q : St → Hp → Prop), Inv X pins σ H s → Vals vs us → t vs σ H Q →
    wpAny (model X.prog X.w) X.A (assignInOrder ((assignEach ts X.env).map (·.2)) us) (fun _ s' => ∃ σ' H', Inv X pins σ' H' s' ∧ Q σ' H') X.xe s
abbrev TIp := V → V → Hp → VK → Prop
def PIp (X : Cx) (op : Operator) (t : TIp) : Prop :=
  ∀ (pins : List (Addr × Obj)) (s : Shared) (σ : St) (H : Hp) (x y : V) (v u : Value) (Q : VK), Inv X pins σ H s → RelV x v → RelV y u → t x y H Q →
    wpAny (model X.prog X.w) X.A (inplaceOp op v u) (EP X pins σ Q) X.xe s
section
variable {X : Cx} {pos : Pos}
def gName (i : Nat) : TG := fun v σ H Q => Q (σ.set i (some v)) H
theorem pg_name {i : Nat} {x : Str} (hN : X.N.Nodup) (hi : X.N[i]? = some x) (hx : Loc X.env.scope x) (hf : X.fn x = true ∨ X.env.scope.names.lookup x = some .local := by first | exact .inl rfl | exact .inr rfl | assumption) : PG X (.Name x pos) (gName i) := by
  intro pins s σ H v u Q I r h
  exact wpAny_assign_Name (store_ok I hN hi hx r (fun s' I' => ⟨_, H, I', h⟩) hf)
def gNil : TGs := fun vs σ H Q => vs = [] ∧ Q σ H
def gCons (t : TG) (u : TGs) : TGs := fun vs σ H Q => ∃ v r, vs = v :: r ∧ t v σ H fun σ' H' => u r σ' H' Q
theorem pgs_nil : PGs X [] gNil := by
  intro pins s σ H vs us Q I r h
  obtain ⟨e, h⟩ := h
  subst e
  cases r
  exact assignInOrder_nil ⟨σ, H, I, h⟩
theorem pgs_cons {e : Expr} {es : List Expr} {t : TG} {u : TGs} (h1 : PG X e t) (h2 : PGs X es u)
    (hs : (assignEach (e :: es) X.env).map (·.2) = assign e X.env :: (assignEach es X.env).map (·.2) := by rfl) : PGs X (e :: es) (gCons t u) := by
  intro pins s σ H vs us Q I r h
  obtain ⟨v, vr, e1, h⟩ := h
  subst e1
  cases r with
  | cons r rr =>
    rw [hs]
    refine assignInOrder_cons (thn (h1 pins s σ H _ _ _ I r h) fun _ s1 ⟨σ1, H1, I1, q1⟩ => ?_)
    exact h2 pins s1 σ1 H1 _ _ Q I1 rr q1
def gTup (K : PySem.W.Frag) (n : Nat) (t : TGs) : TG := fun v σ H Q => ∃ a xs, v = .ref a ∧ SqT K H a xs ∧ xs.length = n ∧ t xs σ H Q
theorem pg_tup {es : List Expr} {k : Nat} {t : TGs} {n : Nat} (hc : X.calm = true) (h : PGs X es t)
    (hn : (assignEach es X.env).length = n := by rfl) (hst : (assignEach es X.env).findIdx? (·.1) = none := by rfl) : PG X (.Tuple es k pos) (gTup X.K n t) := by
  intro pins s σ H v u Q I r hw
  obtain ⟨a, xs, e1, hq, hl, hw⟩ := hw
  subst e1
  cases r
  obtain ⟨its, rv, ht, hz⟩ := I.tuple hq
  refine assign_Tuple_tuple (I.ok.hd hc) ht (by simp [hn, ← hl, rv.length]) hst fun h' hx => ?_
  have I1 : Inv X pins σ H { s with heap := h' } := I.kept (t' := s.toks) fun b o e => hx b o (Nat.ne_of_lt (Heap.lt_size e)) e
  exact h pins _ σ H xs _ Q I1 (by simpa using rv) hw
def tAsg (te : TE) (g : TG) : TS := fun D σ H => te σ H fun x H1 => g x σ H1 D.nx
theorem ps_set {i : Nat} {x : Str} {e : Expr} {te : TE} {pos' : Pos} (hN : X.N.Nodup) (hi : X.N[i]? = some x) (hx : Loc X.env.scope x) (he : PE X e te) (hs : swapsWith e (some (.Name x pos')) pos.line X.env = pure false := by rfl) (hf : X.fn x = true ∨ X.env.scope.names.lookup x = some .local := by first | exact .inl rfl | exact .inr rfl | assumption) :
    PS X (.Assign [.Name x pos'] e pos) (tAsg te (gName i)) := by
  intro pins s σ H D I h
  refine wpAny_Assign_Name (thn (he pins s σ H _ I h) fun v s1 ⟨y, H1, I1, r1, q1⟩ => ?_) hs
  exact store_ok I1 hN hi hx r1 (fun s2 I2 => ⟨_, H1, I2, q1⟩) hf
def tAug (i : Nat) (te : TE) (ti : TIp) : TS := fun D σ H => ∃ x, σ[i]? = some (some x) ∧ te σ H fun y H1 => ti x y H1 fun z H2 => D.nx (σ.set i (some z)) H2
theorem ps_aug {i : Nat} {x : Str} {e : Expr} {te : TE} {op : Operator} {ti : TIp} {pos' : Pos} (hN : X.N.Nodup) (hi : X.N[i]? = some x) (hx : Loc X.env.scope x) (he : PE X e te) (ho : PIp X op ti) (hf : X.fn x = true ∨ X.env.scope.names.lookup x = some .local := by first | exact .inl rfl | exact .inr rfl | assumption) :
    PS X (.AugAssign (.Name x pos') op e pos) (tAug i te ti) := by
  intro pins s σ H D I h
  obtain ⟨v, e1, h⟩ := h
  obtain ⟨m, hn, hl⟩ := I.loc
  have vis : Vis X.env.scope x := by rcases hx with k | k; exact .inl k; exact .inr (.inl k)
  obtain ⟨u, r, l⟩ := hl i x v hi e1 vis
  refine wpAny_AugAssign_Name ?_
  have go : wpAny (model X.prog X.w) X.A (eval e X.env) (fun w s₂ => wpAny (model X.prog X.w) X.A (inplaceOp op u w) (fun r s₃ => wpAny (model X.prog X.w) X.A (storeName X.env x r) (fun _ => SP X pins D .next) X.xe s₃) X.xe s₂) X.xe s := by
    refine thn (he pins s σ H _ I h) fun w s1 ⟨y, H1, I1, r1, q1⟩ => ?_
    refine thn (ho pins s1 σ H1 v y u w _ I1 r r1 q1) fun z s2 ⟨zv, H2, I2, r2, q2⟩ => ?_
    exact store_ok I2 hN hi hx r2 (fun s3 I3 => ⟨_, H2, I3, q2⟩) hf
  rcases l with ⟨hk, hm⟩ | ⟨hk, c, hc, hcell⟩
  · exact wpAny_loadName_local I.ok.kind hk hn hm go
  · rcases hk with hk | hk
    · exact wpAny_loadName_cell I.ok.kind hk hc hcell go
    · rcases hx with k | k
      · have : X.env.scope.names.lookup x = some .free := hk
        rw [k] at this; cases this
      · have : X.env.scope.names.lookup x = some .free := hk
        rw [k] at this; cases this
def ipI (f : Int → Int → Int) : TIp := fun x y H Q => ∃ i j, x = .int i ∧ y = .int j ∧ Q (.int (f i j)) H
theorem ip_add : PIp X .Add (ipI fun i j => i + j) := by
  intro pins s σ H x y v u Q I r1 r2 h
  obtain ⟨i, j, e1, e2, q⟩ := h
  subst e1; subst e2
  obtain ⟨t, rfl⟩ := r1
  obtain ⟨t', rfl⟩ := r2
  exact iadd_int ⟨.int _, H, I.tok _, ⟨_, rfl⟩, q⟩
end
section
variable {X : Cx} {pos : Pos}
end
structure It where
  go : Nat → Hp → Prop
  yld : Nat → Hp → V → Hp → Prop
  stop : Nat → Hp → Prop
def FpOk (X : Cx) (pins : List (Addr × Obj)) (H : Hp) (b : Addr) : Prop :=
  H b = none ∧ b ≠ X.env.locals ∧ b ∉ X.fs ∧ (b ∈ X.ex ∨ X.s₀.heap.objs.size ≤ b) ∧ (∀ x c, X.env.cells.lookup x = some c → c ≠ b) ∧ ∀ p ∈ X.pn ++ pins, p.1 ≠ b
theorem Inv.fpOk {X : Cx} {pins : List (Addr × Obj)} {σ : St} {H H' : Hp} {s : Shared} {b : Addr} (I : Inv X pins σ H s) (hb : s.heap.objs.size ≤ b) (hn : H' b = none) : FpOk X pins H' b := by
  refine ⟨hn, Nat.ne_of_gt (Nat.lt_of_lt_of_le I.lt hb), I.nofs hb, .inr (Nat.le_trans I.sz hb), fun x c e z => ?_, fun p hp z => ?_⟩
  · obtain ⟨v, q⟩ := I.cell x c e
    exact absurd (Nat.lt_of_lt_of_le q.lt (by rw [z]; exact hb)) (Nat.lt_irrefl _)
  · exact absurd (Nat.lt_of_lt_of_le (Heap.lt_size (I.pin p hp).1) (by rw [z]; exact hb)) (Nat.lt_irrefl _)
structure Turn (P : Program) (w : World) (K : PySem.W.Frag) (tg : Expr) (J : It) (fp : List Addr) (it : Addr) (tn : Nat → Heap → Prop) : Prop where
  mem : it ∈ fp
  obj : ∀ i h, tn i h → ∀ b ∈ fp, ∃ o, h.get? b = some o ∧ ∀ v, o.data ≠ .cell v
  keep : ∀ i h h', tn i h → (∀ b ∈ fp, ∀ o, h.get? b = some o → h'.get? b = some o) → tn i h'
  item : ∀ (X : Cx), X.prog = P → X.w = w → X.K = K → X.calm = true → ∀ (i : Nat) (pins : List (Addr × Obj)) (s : Shared) (σ : St) (H : Hp) (E : Value → Shared → Prop), Inv X pins σ H s → (∀ b ∈ fp, FpOk X pins H b) → tn i s.heap → J.go i H →
    wpAny (model P w) X.A (pyNext (.ref it)) (fun r s1 => ∃ u, r = some u ∧
      wpAny (model P w) X.A (letOwnedTupleGo tg (.ref it) u) (fun _ s2 => ∃ x H', Inv X pins σ H' s2 ∧ RelV x u ∧ J.yld i H x H' ∧ tn (i + 1) s2.heap ∧ ∀ b ∈ fp, H' b = none) E s1) E s
  done : ∀ (X : Cx), X.prog = P → X.w = w → X.K = K → X.calm = true → ∀ (i : Nat) (pins : List (Addr × Obj)) (s : Shared) (σ : St) (H : Hp) (E : Value → Shared → Prop), Inv X pins σ H s → (∀ b ∈ fp, FpOk X pins H b) → tn i s.heap → J.stop i H →
    wpAny (model P w) X.A (pyNext (.ref it)) (fun r s1 => r = none ∧ Inv X pins σ H s1) E s
  self : ∀ (A : Around) (i : Nat) (s : Shared) (Q : Value → Shared → Prop) (E : Value → Shared → Prop), tn i s.heap → Q (.ref it) s → wpAny (model P w) A (pyIter (.ref it)) Q E s
abbrev TI := St → Hp → (It → Hp → Prop) → Prop
def PIE (X : Cx) (pins : List (Addr × Obj)) (σ : St) (tg : Expr) (R : It → Hp → Prop) (itv : Value) (s2 : Shared) : Prop :=
  ∃ (it : Addr) (fp : List Addr) (tn : Nat → Heap → Prop) (J : It) (H' : Hp), itv = .ref it ∧ Inv X pins σ H' s2 ∧ Turn X.prog X.w X.K tg J fp it tn ∧ tn 0 s2.heap ∧ (∀ b ∈ fp, FpOk X pins H' b) ∧ R J H'
def PI (X : Cx) (tg iter : Expr) (wi : TI) : Prop :=
  ∀ (pins : List (Addr × Obj)) (s : Shared) (σ : St) (H : Hp) (R : It → Hp → Prop), Inv X pins σ H s → wi σ H R →
    wpAny (model X.prog X.w) X.A (eval iter X.env) (fun v s1 => wpAny (model X.prog X.w) X.A (pyIter v) (PIE X pins σ tg R) X.xe s1) X.xe s
theorem go_of {M : Model} {A : Around} {E : Value → Shared → Prop} {s : Shared} {tg : Expr} {it : Addr} {u : Value} {o : Obj} {n : String} {vs : Array Value} {Q : Unit → Shared → Prop} (ho : s.heap.get? it = some o) (hc : o.cls = .type n) (hd : o.data = .fields vs)
    (hn : ["enumerate", "zip", "dict_itemiterator", "dict_reverseitemiterator", "odict_iterator", "itertools.zip_longest", "itertools.pairwise"].contains n = false) (hQ : Q () s) : wpAny M A (letOwnedTupleGo tg (.ref it) u) Q E s := by
  unfold letOwnedTupleGo
  cases tg <;> first
    | exact wpAny_pure hQ
    | (cases u <;> first
        | exact wpAny_pure hQ
        | (refine wpAny_bind (wpAny_load ho ?_)
           rw [hc, hd]
           show wpAny M A (if (["enumerate", "zip", "dict_itemiterator", "dict_reverseitemiterator", "odict_iterator", "itertools.zip_longest", "itertools.pairwise"].contains n && vs[0]? == some (rawInt _)) = true then _ else _) Q E s
           rw [if_neg (by intro h; rw [hn, Bool.false_and] at h; cases h)]
           exact wpAny_pure hQ))
def Itl (K : PySem.W.Frag) (a : Addr) : It :=
  ⟨fun i H => ∃ xs x, SqL K H a xs ∧ xs[i]? = some x, fun i H x H' => H' = H ∧ ∀ xs, SqL K H a xs → xs[i]? = some x, fun i H => ∃ xs, SqL K H a xs ∧ xs.length ≤ i⟩
def Itt (K : PySem.W.Frag) (a : Addr) : It :=
  ⟨fun i H => ∃ xs x, SqT K H a xs ∧ xs[i]? = some x, fun i H x H' => H' = H ∧ ∀ xs, SqT K H a xs → xs[i]? = some x, fun i H => ∃ xs, SqT K H a xs ∧ xs.length ≤ i⟩
def Itr (lo : Int) (n : Nat) : It := ⟨fun i _ => i < n, fun i H x H' => H' = H ∧ x = .int (lo + i), fun i _ => n ≤ i⟩
theorem turn_list {P : Program} {w : World} {K : PySem.W.Frag} {tg : Expr} (a it : Addr) : Turn P w K tg (Itl K a) [it] it (fun i h => h.IsListIter it a i) where
  mem := by simp
  obj := fun i h st b hb => by
    have e : b = it := by simpa using hb
    subst e
    obtain ⟨o, e, c, d⟩ := st
    exact ⟨o, e, fun v z => by rw [d] at z; cases z⟩
  keep := fun i h h' st k => st.at fun o e => k it (by simp) o e
  item := by
    intro X hP hw hK hc i pins s σ H E I hf st hg
    subst hP hw hK
    obtain ⟨xs, x, hq, hx⟩ := hg
    obtain ⟨its, rv, p, hz⟩ := I.list hq
    obtain ⟨u, hu, ru⟩ := rv.get hx
    obtain ⟨f0, f1, f2, f3, f4, f5⟩ := hf it (by simp)
    refine wpAny_pyNext_list_item st p.isList (x := u) (by simpa using hu) fun h' st' sb => ?_
    have I1 : Inv X pins σ H { s with heap := h' } := I.turned (t' := s.toks) (fun b o hb e => (sb.2 b hb).trans e) f0 f1 f3 f4 f5
    obtain ⟨o, e, c, d⟩ := id st'
    exact ⟨u, rfl, go_of (s := { s with heap := h' }) e c d (by decide) ⟨x, H, I1, ru, ⟨rfl, fun ys hy => by rw [I.list_inj hy hq]; exact hx⟩, st', fun b hb => (hf b hb).1⟩⟩
  done := by
    intro X hP hw hK hc i pins s σ H E I hf st hg
    subst hP hw hK
    obtain ⟨xs, hq, hx⟩ := hg
    obtain ⟨its, rv, p, hz⟩ := I.list hq
    obtain ⟨f0, f1, f2, f3, f4, f5⟩ := hf it (by simp)
    have hl := rv.length
    exact wpAny_pyNext_list_end (I.ok.hd hc) st p.isList (by simp; omega) fun h' eb => ⟨rfl, I.turned (t' := s.toks) (fun b o hb e => eb b o hb e) f0 f1 f3 f4 f5⟩
  self := fun _ _ _ _ _ st h => wpAny_pyIter_listiter st h
theorem turn_tuple {P : Program} {w : World} {K : PySem.W.Frag} {tg : Expr} (a it : Addr) : Turn P w K tg (Itt K a) [it] it (fun i h => h.IsTupleIter it a i) where
  mem := by simp
  obj := fun i h st b hb => by
    have e : b = it := by simpa using hb
    subst e
    obtain ⟨o, e, c, d⟩ := st
    exact ⟨o, e, fun v z => by rw [d] at z; cases z⟩
  keep := fun i h h' st k => st.at fun o e => k it (by simp) o e
  item := by
    intro X hP hw hK hc i pins s σ H E I hf st hg
    subst hP hw hK
    obtain ⟨xs, x, hq, hx⟩ := hg
    obtain ⟨its, rv, p, hz⟩ := I.tuple hq
    obtain ⟨u, hu, ru⟩ := rv.get hx
    obtain ⟨f0, f1, f2, f3, f4, f5⟩ := hf it (by simp)
    refine wpAny_pyNext_tuple_item st (show s.heap.IsTuple a its.toArray from p) (x := u) (by simpa using hu) fun h' st' sb => ?_
    have I1 : Inv X pins σ H { s with heap := h' } := I.turned (t' := s.toks) (fun b o hb e => (sb.2 b hb).trans e) f0 f1 f3 f4 f5
    obtain ⟨o, e, c, d⟩ := id st'
    exact ⟨u, rfl, go_of (s := { s with heap := h' }) e c d (by decide) ⟨x, H, I1, ru, ⟨rfl, fun ys hy => by rw [I.tuple_inj hy hq]; exact hx⟩, st', fun b hb => (hf b hb).1⟩⟩
  done := by
    intro X hP hw hK hc i pins s σ H E I hf st hg
    subst hP hw hK
    obtain ⟨xs, hq, hx⟩ := hg
    obtain ⟨its, rv, p, hz⟩ := I.tuple hq
    obtain ⟨f0, f1, f2, f3, f4, f5⟩ := hf it (by simp)
    have hl := rv.length
    exact wpAny_pyNext_tuple_end (I.ok.hd hc) st (show s.heap.IsTuple a its.toArray from p) (by simp; omega) fun h' eb => ⟨rfl, I.turned (t' := s.toks) (fun b o hb e => eb b o hb e) f0 f1 f3 f4 f5⟩
  self := fun _ _ _ _ _ st h => wpAny_pyIter_tupleiter st h
theorem turn_range {P : Program} {w : World} {K : PySem.W.Frag} {tg : Expr} (it : Addr) (lo : Int) (n : Nat) : Turn P w K tg (Itr lo n) [it] it (fun i h => IsRangeIter h it (lo + (i : Nat) * 1) ((n : Int) - (i : Nat)) 1) where
  mem := by simp
  obj := fun i h st b hb => by
    have e : b = it := by simpa using hb
    subst e
    exact ⟨_, st, fun v z => by
      have z' : Data.fields _ = Data.cell v := z
      cases z'⟩
  keep := fun i h h' st k => k it (by simp) _ st
  item := by
    intro X hP hw hK hc i pins s σ H E I hf st hg
    subst hP hw hK
    obtain ⟨f0, f1, f2, f3, f4, f5⟩ := hf it (by simp)
    have W := Walks.range (prog := X.prog) (w := X.w) (I.ok.hd hc) it lo 1 n
    refine W.item i s _ _ hg st fun v h' tk hv st' kk => ?_
    obtain ⟨t, rfl⟩ := hv
    have I1 : Inv X pins σ H { s with heap := h', toks := tk } := I.turned (fun b o hb e => kk b o (by simpa using hb) e) f0 f1 f3 f4 f5
    refine ⟨_, rfl, go_of (s := { s with heap := h', toks := tk }) (n := "range_iterator") st' rfl rfl (by decide) ⟨.int (lo + i), H, I1, ⟨t, ?_⟩, ⟨rfl, rfl⟩, st', fun b hb => (hf b hb).1⟩⟩
    rw [Int.mul_one]
  done := by
    intro X hP hw hK hc i pins s σ H E I hf st hg
    subst hP hw hK
    obtain ⟨f0, f1, f2, f3, f4, f5⟩ := hf it (by simp)
    exact wpAny_pyNext_range_end (I.ok.hd hc) st (by have : n ≤ i := hg; omega) fun h' eb => ⟨rfl, I.turned (t' := s.toks) (fun b o hb e => eb b o hb e) f0 f1 f3 f4 f5⟩
  self := fun _ _ _ _ _ st h => wpAny_pyIter_rangeiter st h
end L2
namespace L2
open PySem PySem.Spec PyProof.Rows
section
variable {X : Cx} {tg : Expr}
def iList (K : PySem.W.Frag) (tl : TE) : TI := fun σ H R => tl σ H fun x H1 => ∃ a, x = .ref a ∧ (∃ xs, SqL K H1 a xs) ∧ R (Itl K a) H1
def iTup (K : PySem.W.Frag) (tl : TE) : TI := fun σ H R => tl σ H fun x H1 => ∃ a, x = .ref a ∧ (∃ xs, SqT K H1 a xs) ∧ R (Itt K a) H1
theorem pi_list {l : Expr} {tl : TE} (hl : PE X l tl) : PI X tg l (iList X.K tl) := by
  intro pins s σ H R I h
  refine thn (hl pins s σ H _ I h) fun v s1 ⟨x, H1, I1, r1, q1⟩ => ?_
  obtain ⟨a, e, ⟨xs, hq⟩, q⟩ := q1
  subst e
  cases r1
  obtain ⟨its, rv, p, hz⟩ := I1.list hq
  refine wpAny_pyIter_list p.isList ?_
  refine ⟨s1.heap.objs.size, [s1.heap.objs.size], _, _, H1, rfl, I1.kept (t' := s1.toks) fun b o e => Heap.get?_push_of_some _ e, turn_list a _, ⟨_, Heap.get?_push_size _ rfl, rfl, rfl⟩, fun b hb => ?_, q⟩
  have e : b = s1.heap.objs.size := by simpa using hb
  subst e
  exact I1.fpOk (Nat.le_refl _) (I1.hok.fresh (Nat.le_refl _))
theorem pi_tup {l : Expr} {tl : TE} (hl : PE X l tl) : PI X tg l (iTup X.K tl) := by
  intro pins s σ H R I h
  refine thn (hl pins s σ H _ I h) fun v s1 ⟨x, H1, I1, r1, q1⟩ => ?_
  obtain ⟨a, e, ⟨xs, hq⟩, q⟩ := q1
  subst e
  cases r1
  obtain ⟨its, rv, p, hz⟩ := I1.tuple hq
  refine wpAny_pyIter_tuple (show s1.heap.IsTuple a its.toArray from p) ?_
  refine ⟨s1.heap.objs.size, [s1.heap.objs.size], _, _, H1, rfl, I1.kept (t' := s1.toks) fun b o e => Heap.get?_push_of_some _ e, turn_tuple a _, ⟨_, Heap.get?_push_size _ rfl, rfl, rfl⟩, fun b hb => ?_, q⟩
  have e : b = s1.heap.objs.size := by simpa using hb
  subst e
  exact I1.fpOk (Nat.le_refl _) (I1.hok.fresh (Nat.le_refl _))
theorem range_it {pins : List (Addr × Obj)} {σ : St} {H : Hp} {s : Shared} {R : It → Hp → Prop} {E : Value → Shared → Prop} {lo hi : Int} {t u v : Tok} {tk : Nat} (I : Inv X pins σ H s) (h1 : -(2 ^ 62) ≤ lo) (h2 : lo < 2 ^ 62) (h3 : -(2 ^ 62) ≤ hi) (h4 : hi < 2 ^ 62)
    (q : R (Itr lo (hi - lo).toNat) H) : wpAny (model X.prog X.w) X.A (pyIter (.ref s.heap.objs.size)) (PIE X pins σ tg R) E { s with heap := s.heap.push { cls := .type "range", data := .fields #[.int lo t, .int hi u, .int 1 v] }, toks := tk } := by
  refine wpAny_pyIter_range (IsRange.new ..) (small_one h1 h2 h3 h4) ?_
  have I1 : Inv X pins σ H { s with heap := s.heap.push { cls := .type "range", data := .fields #[.int lo t, .int hi u, .int 1 v] }, toks := tk } := I.kept fun b o e => Heap.get?_push_of_some _ e
  refine ⟨(s.heap.push { cls := .type "range", data := .fields #[.int lo t, .int hi u, .int 1 v] }).objs.size, [(s.heap.push { cls := .type "range", data := .fields #[.int lo t, .int hi u, .int 1 v] }).objs.size], _, _, H, rfl,
    I1.kept (t' := tk) fun b o e => Heap.get?_push_of_some _ e, turn_range _ lo (hi - lo).toNat, ?_, fun b hb => ?_, q⟩
  · have e1 : lo + ((0 : Nat) : Int) * 1 = lo := by simp
    have e2 : (((hi - lo).toNat : Nat) : Int) - ((0 : Nat) : Int) = Builtin.Range.rangeSize lo hi 1 := by rw [rangeSize_one]; split <;> omega
    show IsRangeIter _ _ (lo + ((0 : Nat) : Int) * 1) ((((hi - lo).toNat : Nat) : Int) - ((0 : Nat) : Int)) 1
    rw [e1, e2]
    exact Heap.get?_push_size _ rfl
  · have e : b = (s.heap.push { cls := .type "range", data := .fields #[.int lo t, .int hi u, .int 1 v] }).objs.size := by simpa using hb
    subst e
    exact I1.fpOk (Nat.le_refl _) (I1.hok.fresh (Nat.le_refl _))
def iRng1 (ta : TA) : TI := fun σ H R => ta σ H fun vs H1 => ∃ j : Int, vs = [.int j] ∧ -(2 ^ 62) ≤ j ∧ j < 2 ^ 62 ∧ R (Itr 0 j.toNat) H1
theorem pi_range1 {a : Expr} {ta : TA} {p pos : Pos} (hg : Gl X "range") (hm : X.mg "range" = none) (ha : PA X [a] ta) (hs : starEach [a] X.env = [(false, eval a X.env)] := by rfl) : PI X tg (.Call (.Name "range" p) [a] [] pos) (iRng1 ta) := by
  intro pins s σ H R I h
  refine Call_ (ld_blt I hg hm boot_range (PyProof.Rows.callWith_type1 (thn (ha pos pins s σ H _ I h) fun us s1 ⟨vs, H1, I1, r1, q1⟩ => ?_) hs rfl))
  obtain ⟨j, e, q1, q2, q⟩ := q1
  subst e
  cases r1 with
  | cons r rr =>
    cases rr
    obtain ⟨t, rfl⟩ := r
    exact call_range_1 (range_it I1 (by omega) (by omega) q1 q2 (by simpa using q))
def tFor (wi : TI) (g : TG) (tb : TS) : TS := fun D σ H => wi σ H fun J H1 => ∃ W : Nat → Nat → St → Hp → Prop, (∃ m, W 0 m σ H1) ∧ ∀ i m σ H, W i m σ H →
  (J.stop i H ∧ D.nx σ H) ∨ (J.go i H ∧ ∃ N : St → Hp → Prop, (∀ σ' H', N σ' H' → ∃ m', m' < m ∧ W (i + 1) m' σ' H') ∧ ∀ x H', J.yld i H x H' → g x σ H' fun σ2 H2 => tb { D with nx := N, ct := N, bk := D.nx } σ2 H2)
def pinsAt (fp : List Addr) (h : Heap) : List (Addr × Obj) := fp.filterMap fun b => (h.get? b).map fun o => (b, o)
theorem mem_pinsAt {fp : List Addr} {h : Heap} {b : Addr} {o : Obj} (hb : b ∈ fp) (e : h.get? b = some o) : (b, o) ∈ pinsAt fp h := List.mem_filterMap.mpr ⟨b, hb, by rw [e]; rfl⟩
theorem of_pinsAt {fp : List Addr} {h : Heap} {p : Addr × Obj} (hp : p ∈ pinsAt fp h) : p.1 ∈ fp ∧ h.get? p.1 = some p.2 := by
  obtain ⟨b, hb, e⟩ := List.mem_filterMap.mp hp
  cases q : h.get? b with
  | none => rw [q] at e; cases e
  | some o =>
    rw [q] at e
    have e' : (b, o) = p := Option.some.inj e
    subst e'
    exact ⟨hb, q⟩
theorem Inv.pinned {pins : List (Addr × Obj)} {σ : St} {H : Hp} {s : Shared} {fp : List Addr} (I : Inv X pins σ H s) (hf : ∀ b ∈ fp, FpOk X pins H b) (ho : ∀ b ∈ fp, ∃ o, s.heap.get? b = some o ∧ ∀ v, o.data ≠ .cell v) : Inv X (pins ++ pinsAt fp s.heap) σ H s :=
  I.pins_of fun p hp => (List.mem_append.mp hp).elim (fun z => I.pin p (List.mem_append_right _ z)) fun z => by
    obtain ⟨hb, e⟩ := of_pinsAt z
    obtain ⟨f0, f1, f2, _⟩ := hf p.1 hb
    obtain ⟨o, e', d⟩ := ho p.1 hb
    rw [e] at e'; cases e'
    exact ⟨e, f0, f1, f2, d⟩
theorem Inv.unpinned {pins pl : List (Addr × Obj)} {σ : St} {H : Hp} {s : Shared} (I : Inv X (pins ++ pl) σ H s) : Inv X pins σ H s := I.pins_of fun p hp => I.pin p (List.mem_append_right _ (List.mem_append_left _ hp))
theorem ps_for {iter : Expr} {body : List Stmt} {wi : TI} {g : TG} {tb : TS} {pos : Pos} (hp : PassesOwn (model X.prog X.w) X.A X.env X.xe) (hc : X.calm = true) (hi : PI X tg iter wi) (hg : PG X tg g) (hb : PSs X body tb)
    (hs : ∀ x, foldedSetIterable iter X.env x = pure x := by intro _; rfl) : PS X (.For tg iter body [] pos) (tFor wi g tb) := by
  intro pins s σ H D I h
  refine wpAny_For (thn (hi pins s σ H _ I h) fun v s1 h1 => thn h1 fun itv s2 h2 => ?_) hs
  obtain ⟨it, fp, tn, J, H2, e, I2, T, st2, f2, W, ⟨m0, w0⟩, turn⟩ := h2
  subst e
  have stat : ∀ {H' : Hp}, (∀ b ∈ fp, H' b = none) → ∀ b ∈ fp, FpOk X pins H' b := fun hn b hb => ⟨hn b hb, (f2 b hb).2⟩
  refine codeAny_forLoop_any (fun n s' => ∃ i σ' H', Inv X pins σ' H' s' ∧ tn i s'.heap ∧ (∀ b ∈ fp, H' b = none) ∧ W i n σ' H') ?_ m0 ⟨0, σ, H2, I2, st2, fun b hb => (f2 b hb).1, w0⟩
  rintro n s3 ⟨i, σ3, H3, I3, st3, fr3, w3⟩
  rcases turn i n σ3 H3 w3 with ⟨stop, qn⟩ | ⟨go, N, hN, step⟩
  · refine wpAny_passesOwn hp (thn (T.done X rfl rfl rfl hc i pins s3 σ3 H3 X.xe I3 (stat fr3) st3 stop) fun r s4 ⟨hr, I4⟩ => ?_)
    subst hr
    exact wpAny_execs_nil ⟨σ3, H3, I4, qn⟩
  · refine wpAny_passesOwn hp (thn (T.item X rfl rfl rfl hc i pins s3 σ3 H3 X.xe I3 (stat fr3) st3 go) fun r s4 ⟨u, hr, h4⟩ => ?_)
    subst hr
    refine wpAny_passesOwn hp (thn h4 fun _ s5 ⟨x, H5, I5, r5, y5, st5, fr5⟩ => ?_)
    have I5' := I5.pinned (stat fr5) (T.obj _ _ st5)
    refine wpAny_passesOwn hp (thn (hg _ s5 σ3 H5 x u _ I5' r5 (step x H5 y5)) fun _ s6 ⟨σ6, H6, I6, q6⟩ => ?_)
    refine wpAny_passesOwn hp (thn (hb _ s6 σ6 H6 _ I6 q6) fun f s7 q7 => ?_)
    have again : ∀ {σ7 : St} {H7 : Hp}, Inv X (pins ++ pinsAt fp s5.heap) σ7 H7 s7 → N σ7 H7 → ∃ m, m < n ∧ ∃ i σ' H', Inv X pins σ' H' s7 ∧ tn i s7.heap ∧ (∀ b ∈ fp, H' b = none) ∧ W i m σ' H' := fun {σ7 H7} I7 n7 => by
      obtain ⟨m', hm, w7⟩ := hN σ7 H7 n7
      refine ⟨m', hm, i + 1, σ7, H7, I7.unpinned, T.keep _ _ _ st5 fun b hb o e => (I7.pin (b, o) (List.mem_append_right _ (List.mem_append_right _ (mem_pinsAt hb e)))).1, fun b hb => ?_, w7⟩
      obtain ⟨o, e, d⟩ := T.obj _ _ st5 b hb
      exact (I7.pin (b, o) (List.mem_append_right _ (List.mem_append_right _ (mem_pinsAt hb e)))).2.1
    cases f with
    | next => obtain ⟨σ7, H7, I7, n7⟩ := q7; exact again I7 n7
    | cont => obtain ⟨σ7, H7, I7, n7⟩ := q7; exact again I7 n7
    | brk => obtain ⟨σ7, H7, I7, q7⟩ := q7; exact ⟨σ7, H7, I7.unpinned, q7⟩
    | ret v => obtain ⟨x7, σ7, H7, I7, r7, q7⟩ := q7; exact ⟨x7, σ7, H7, I7.unpinned, r7, q7⟩
end
end L2
namespace L2
open PySem PySem.Spec PyProof.Rows
abbrev R2 := V → V → Hp → VK → Prop
def OpR (X : Cx) (f : Value → Value → Sem Value) (r : R2) : Prop :=
  ∀ (pins : List (Addr × Obj)) (s : Shared) (σ : St) (H : Hp) (x y : V) (v u : Value) (Q : VK), Inv X pins σ H s → RelV x v → RelV y u → r x y H Q →
    wpAny (model X.prog X.w) X.A (f v u) (EP X pins σ Q) X.xe s
def CallR (X : Cx) (f : Value) (r : List V → Hp → VK → Prop) : Prop :=
  ∀ (pins : List (Addr × Obj)) (s : Shared) (σ : St) (H : Hp) (xs : List V) (us : List Value) (Q : VK), Inv X pins σ H s → Vals xs us → r xs H Q →
    wpAny (model X.prog X.w) X.A (call f us) (EP X pins σ Q) X.xe s
def tOp (r : R2) (ta tb : TE) : TE := fun σ H Q => ta σ H fun x H1 => tb σ H1 fun y H2 => r x y H2 Q
def rI (C : Int → Int → Prop) (g : Int → Int → V) : R2 := fun x y H Q => ∃ i j, x = .int i ∧ y = .int j ∧ C i j ∧ Q (g i j) H
def rI0 (g : Int → Int → V) : R2 := fun x y H Q => ∃ i j, x = .int i ∧ y = .int j ∧ Q (g i j) H
section
variable {X : Cx} {a b c : Expr} {ta tb tc : TE} {pos : Pos}
theorem binT (ha : PE X a ta) (hb : PE X b tb) {pins : List (Addr × Obj)} {s : Shared} {σ : St} {H : Hp} {R : V → V → Hp → Prop} (I : Inv X pins σ H s)
    (h : ta σ H fun x H1 => tb σ H1 fun y H2 => R x y H2) {Q : Value → Shared → Prop} {f : Value → Value → Sem Value}
    (hf : ∀ v u s2 x y H2, Inv X pins σ H2 s2 → RelV x v → RelV y u → R x y H2 → wpAny (model X.prog X.w) X.A (f v u) Q X.xe s2) :
    wpAny (model X.prog X.w) X.A (eval a X.env) (fun v s₁ => wpAny (model X.prog X.w) X.A (eval b X.env) (fun u s₂ => wpAny (model X.prog X.w) X.A (f v u) Q X.xe s₂) X.xe s₁) X.xe s := by
  refine thn (ha pins s σ H _ I h) fun v s1 ⟨x, H1, I1, r1, q1⟩ => ?_
  refine thn (hb pins s1 σ H1 _ I1 q1) fun u s2 ⟨y, H2, I2, r2, q2⟩ => ?_
  exact hf v u s2 x y H2 I2 r1 r2 q2
theorem pe_op {op : Operator} {r : R2} (ho : OpR X (binaryOp op) r) (ha : PE X a ta) (hb : PE X b tb) : PE X (.BinOp a op b pos) (tOp r ta tb) := by
  intro pins s σ H Q I h
  exact wpAny_BinOp (binT ha hb I h fun v u s2 x y H2 I2 rx ry q => ho pins s2 σ H2 x y v u Q I2 rx ry q)
theorem opI {f : Value → Value → Sem Value} {C : Int → Int → Prop} {g : Int → Int → Int}
    (rule : ∀ (i j : Int) (t u : Tok) (s : Shared) (Q : Value → Shared → Prop) (E : Value → Shared → Prop), C i j → Q (.int (g i j) s.toks) { s with toks := s.toks + 1 } → wpAny (model X.prog X.w) X.A (f (.int i t) (.int j u)) Q E s) :
    OpR X f (rI C fun i j => .int (g i j)) := by
  intro pins s σ H x y v u Q I rx ry h
  obtain ⟨i, j, rfl, rfl, hc, q⟩ := h
  obtain ⟨t, rfl⟩ := rx
  obtain ⟨t', rfl⟩ := ry
  exact rule i j t t' s _ _ hc ⟨.int (g i j), H, I.tok _, ⟨_, rfl⟩, q⟩
theorem opI0 {f : Value → Value → Sem Value} {g : Int → Int → Int}
    (rule : ∀ (i j : Int) (t u : Tok) (s : Shared) (Q : Value → Shared → Prop) (E : Value → Shared → Prop), Q (.int (g i j) s.toks) { s with toks := s.toks + 1 } → wpAny (model X.prog X.w) X.A (f (.int i t) (.int j u)) Q E s) :
    OpR X f (rI0 fun i j => .int (g i j)) := by
  intro pins s σ H x y v u Q I rx ry h
  obtain ⟨i, j, rfl, rfl, q⟩ := h
  obtain ⟨t, rfl⟩ := rx
  obtain ⟨t', rfl⟩ := ry
  exact rule i j t t' s _ _ ⟨.int (g i j), H, I.tok _, ⟨_, rfl⟩, q⟩
theorem opB0 {f : Value → Value → Sem Value} {g : Int → Int → Bool}
    (rule : ∀ (i j : Int) (t u : Tok) (s : Shared) (Q : Value → Shared → Prop) (E : Value → Shared → Prop), Q (.bool (g i j)) s → wpAny (model X.prog X.w) X.A (f (.int i t) (.int j u)) Q E s) :
    OpR X f (rI0 fun i j => .bl (g i j)) := by
  intro pins s σ H x y v u Q I rx ry h
  obtain ⟨i, j, rfl, rfl, q⟩ := h
  obtain ⟨t, rfl⟩ := rx
  obtain ⟨t', rfl⟩ := ry
  exact rule i j t t' s _ _ ⟨.bl (g i j), H, I, rfl, q⟩
def CPow (i j : Int) : Prop := 0 ≤ j ∧ j ≤ 1000000 ∧ i.natAbs < 2 ^ 64
def CMul (i j : Int) : Prop := (-(2 ^ 64) < i ∧ i < 2 ^ 64) ∨ (-(2 ^ 64) < j ∧ j < 2 ^ 64)
theorem CMul.ok {i j : Int} (h : CMul i j) : IntMulOk i j := by
  rcases h with ⟨h1, h2⟩ | ⟨h1, h2⟩
  · exact .of_left (intBits_le_64 h1 h2)
  · exact .of_right (intBits_le_64 h1 h2)
theorem op_add : OpR X (binaryOp .Add) (rI0 fun i j => .int (i + j)) := opI0 fun _ _ _ _ _ _ _ q => add_int q
theorem op_sub : OpR X (binaryOp .Sub) (rI0 fun i j => .int (i - j)) := opI0 fun _ _ _ _ _ _ _ q => sub_int q
theorem op_mod : OpR X (binaryOp .Mod) (rI (fun _ j => 0 < j) fun i j => .int (i % j)) := opI fun i j _ _ _ _ _ hc q => by
  have h1 : (0 : Int) < j := hc
  exact mod_int' (by omega) (by rw [Int.fmod_eq_emod_of_nonneg i (by omega)]; exact q)
theorem op_pow : OpR X (binaryOp .Pow) (rI CPow fun i j => .int (i ^ j.toNat)) := opI fun _ _ _ _ _ _ _ hc q => pow_int_small hc.1 hc.2.1 hc.2.2 q
end
section
variable {X : Cx} {a b c : Expr} {ta tb tc : TE} {pos : Pos}
theorem op_lt : OpR X (compareOp .Lt) (rI0 fun i j => .bl (decide (i < j))) := opB0 fun _ _ _ _ _ _ _ q => lt_int q
theorem op_gt : OpR X (compareOp .Gt) (rI0 fun i j => .bl (decide (j < i))) := opB0 fun _ _ _ _ _ _ _ q => gt_int q
theorem OpR.or {f : Value → Value → Sem Value} {r r' : R2} (h : OpR X f r) (h' : OpR X f r') : OpR X f (fun x y H Q => r x y H Q ∨ r' x y H Q) := by
  intro pins s σ H x y v u Q I rx ry q
  rcases q with q | q
  · exact h pins s σ H x y v u Q I rx ry q
  · exact h' pins s σ H x y v u Q I rx ry q
theorem nomark (b : Expr) {op : CmpOp} (h : op ≠ .In := by decide) (h2 : op ≠ .NotIn := by decide) : behindInMarks op b = false := by
  have e1 : (op == CmpOp.In) = false := by cases op <;> first | rfl | exact absurd rfl h
  have e2 : (op == CmpOp.NotIn) = false := by cases op <;> first | rfl | exact absurd rfl h2
  cases b <;> simp [behindInMarks, e1, e2]
theorem pe_cmpR {op : CmpOp} {r : R2} (ho : OpR X (compareOp op) r) (ha : PE X a ta) (hb : PE X b tb) (hm : behindInMarks op b = false) : PE X (.Compare a [op] [b] pos) (tOp r ta tb) := by
  intro pins s σ H Q I h
  exact wpAny_Compare1 (binT ha hb I h fun v u s2 x y H2 I2 rx ry q => ho pins s2 σ H2 x y v u Q I2 rx ry q) hm
def tTest (t : TE) : TT := fun σ H Q => t σ H fun x H' => ∃ k, x = .bl k ∧ Q k H'
theorem pt_cmpR {op : CmpOp} {r : R2} (ho : OpR X (compareOp op) r) (ha : PE X a ta) (hb : PE X b tb) (hm : behindInMarks op b = false) : PT X (.Compare a [op] [b] pos) (tTest (tOp r ta tb)) := by
  intro pins s σ H Q I h
  refine wpAny_isTrue_Compare1 (thn (ha pins s σ H _ I h) fun v s1 ⟨x, H1, I1, r1, q1⟩ => thn (hb pins s1 σ H1 _ I1 q1) fun u s2 ⟨y, H2, I2, r2, q2⟩ =>
    thn (ho pins s2 σ H2 x y v u _ I2 r1 r2 q2) fun c s3 ⟨z, H3, I3, r3, k, e, q3⟩ => ?_) hm
  subst e
  cases r3
  exact wpAny_truthy_bool ⟨H3, I3, q3⟩
theorem line63 : (sizeLine : Nat) < 2 ^ 63 := by rw [sizeLine_eq]; decide
theorem vals1 {x : V} {us : List Value} (r : Vals [x] us) : ∃ u, us = [u] ∧ RelV x u := by
  cases r with
  | cons r1 r2 => cases r2; exact ⟨_, rfl, r1⟩
theorem vals2 {x y : V} {us : List Value} (r : Vals [x, y] us) : ∃ u w', us = [u, w'] ∧ RelV x u ∧ RelV y w' := by
  cases r with
  | cons r1 r2 =>
    cases r2 with
    | cons r3 r4 => cases r4; exact ⟨_, _, rfl, r1, r3⟩
theorem call_min2 (hc : X.calm = true) : CallR X (.builtin "min") (fun xs H Q => ∃ i j, xs = [.int i, .int j] ∧ Q (.int (if j < i then j else i)) H) := by
  intro pins s σ H xs us Q I r h
  obtain ⟨i, j, rfl, q⟩ := h
  obtain ⟨u, w', rfl, ⟨t, rfl⟩, ⟨t', rfl⟩⟩ := vals2 r
  refine min_two_ints (I.ok.hd hc) fun h' tk k => ⟨_, H, I.kept k, ?_, q⟩
  by_cases hj : j < i
  · rw [if_pos hj, if_pos hj]; exact ⟨_, rfl⟩
  · rw [if_neg hj, if_neg hj]; exact ⟨_, rfl⟩
end
end L2
namespace L2
open PySem PySem.Spec PyProof.Rows
structure ObjM (h : Heap) (x dx C : Addr) (mA : Str → Option Value) : Prop where
  obj : h.get? x = some (PySem.W.instObj C dx)
  ns : h.Ns1 dx mA
  ne : dx ≠ x
theorem lookIn_ns {h : Heap} {dx : Addr} {mA : Str → Option Value} (n : h.Ns1 dx mA) : ∃ od, h.get? dx = some od ∧ ∀ name, PySem.W.lookIn name od = some (mA name) := by
  obtain ⟨o, es, ep, ho, hd, hk, _, hm⟩ := n
  refine ⟨o, ho, fun name => ?_⟩
  have e := hm name
  unfold nsFind findBy at e
  rw [← Array.find?_toList] at e
  unfold PySem.W.lookIn
  rw [hd]
  dsimp only
  split
  · rename_i y q
    rw [q] at e
    exact congrArg some e
  · rename_i q
    rw [q] at e
    have a : es.toList.any (·.refKey) = false := by
      rw [List.any_eq_false]
      intro y hy
      obtain ⟨z, t, hkey⟩ := hk y (Array.mem_toList_iff.mp hy)
      simp [DictEntry.refKey, hkey]
    have a' : ¬ es.toList.any (·.refKey) = true := by rw [a]; exact Bool.false_ne_true
    rw [if_neg a']
    exact congrArg some e
theorem ObjM.look {h : Heap} {x dx C : Addr} {mA : Str → Option Value} (I : ObjM h x dx C mA) : ∃ od, PySem.W.InstAt h x (PySem.W.instObj C dx) C (some od) ∧ ∀ name, PySem.W.lookIn name od = some (mA name) :=
  let ⟨od, ho, hl⟩ := lookIn_ns I.ns
  ⟨od, ⟨I.obj, rfl, rfl, ho⟩, hl⟩
section
variable {prog : Program} {w : World} {A : Around} {E : Value → Shared → Prop} {s : Shared} {K : PySem.W.Frag} {x dx C f : Addr} {mA : Str → Option Value} {name : Str} {v : Value}
end
theorem RelO.some_of {v : V} {o : Option Value} (r : RelO (some v) o) : ∃ u, o = some u ∧ RelV v u := by
  cases o with
  | none => exact (show False from r).elim
  | some u => exact ⟨u, rfl, r⟩
section
variable {P : Program} {w : World} {H H' : Hp} {h h' : Heap} {a C dx : Addr} {fs fs' : List (Str × V)}
theorem ins_get (hok : HOk P w H h) (e : H a = some (.ins C dx fs)) : ∃ mA, ObjM h a dx C mA ∧ (∀ f, RelO (fs.lookup f) (mA f)) ∧ PySem.Within mA (fs.map (·.1)) ∧ fs.length ≤ 1000 ∧ H dx = some (.own a) := by
  obtain ⟨d, z, ne, ob, mA, n, r, q⟩ := (show ObjOk P w H h a (.ins C dx fs) from hok a _ e)
  exact ⟨mA, ⟨ob, n, ne⟩, r, q, z, d⟩
end
structure Cls (K : PySem.W.Frag) (C : Addr) : Prop where
  pg : PySem.W.plainGet K C Str.empty = true
  hd : PySem.W.hasDictIn K C = true
  po : PySem.W.plainOver K C = true
  sa : PySem.W.findIn K (.ref C) "__setattr__" = some (some (.builtin "object.__setattr__"))
theorem Cls.get {K : PySem.W.Frag} {C : Addr} (c : Cls K C) (f : Str) : PySem.W.plainGet K C f = true := c.pg
section
variable {X : Cx} {pins : List (Addr × Obj)} {σ : St} {H : Hp} {s : Shared} {a C dx : Addr} {fs : List (Str × V)} {f : Str} {v : V} {A : Around} {E : Value → Shared → Prop}
theorem Inv.made (I : Inv X pins σ H s) : Inv X pins σ (upd (upd H s.heap.objs.size (.own (s.heap.objs.size + 1))) (s.heap.objs.size + 1) (.ins C s.heap.objs.size []))
    { s with heap := (s.heap.push PySem.W.emptyDict).push (PySem.W.instObj C s.heap.objs.size) } := by
  have e1 : (s.heap.push PySem.W.emptyDict).get? s.heap.objs.size = some PySem.W.emptyDict := Heap.get?_push_size s.heap rfl
  have e2 : ((s.heap.push PySem.W.emptyDict).push (PySem.W.instObj C s.heap.objs.size)).get? (s.heap.objs.size + 1) = some (PySem.W.instObj C s.heap.objs.size) := by
    have := Heap.get?_push_size (s.heap.push PySem.W.emptyDict) (o := PySem.W.instObj C s.heap.objs.size) rfl
    rwa [Heap.size_push] at this
  have e3 : (s.heap.push PySem.W.emptyDict).Ns s.heap.objs.size (fun _ => none) := ⟨PySem.W.emptyDict, #[], _, e1, rfl, (fun e he => absurd he (by simp)), fun _ => rfl⟩
  have I1 := I.laid (a := s.heap.objs.size) (o := .own (s.heap.objs.size + 1)) (h' := s.heap.push PySem.W.emptyDict) (t' := s.toks) (fun b u q => Heap.get?_push_of_some _ q) (Nat.le_refl _) ⟨_, e1⟩
  refine I1.laid (a := s.heap.objs.size + 1) (o := .ins C s.heap.objs.size []) (t' := s.toks) (fun b u q => Heap.get?_push_of_some _ q) (Nat.le_of_eq (Heap.size_push _ _)) ?_
  have ne : s.heap.objs.size ≠ s.heap.objs.size + 1 := Nat.ne_of_lt (Nat.lt_succ_self _)
  refine ⟨by rw [upd_ne ne, upd_same], Nat.zero_le _, ne, e2, fun _ => none, (Heap.Ns1.of_empty e3).at fun o q => Heap.get?_push_of_some _ q, fun _ => True.intro, fun y hy => absurd rfl hy⟩
end
section
variable {X : Cx} {o e value : Expr} {f : Str} {pos pos' tpos : Pos} {ta tv : TE}
end
section
variable {X : Cx} {pins : List (Addr × Obj)} {σ : St} {H : Hp} {s : Shared} {A : Around} {E : Value → Shared → Prop} {Q : Value → Shared → Prop} {c : Value} {b : Bool}
inductive TyOf (K : PySem.W.Frag) (H : Hp) : V → Value → Prop where
  | non : TyOf K H .non (.type "NoneType")
  | bl (x : Bool) : TyOf K H (.bl x) (.type "bool")
  | int (i : Int) : TyOf K H (.int i) (.type "int")
  | str (x : Str) : TyOf K H (.str x) (.type "str")
  | flt (x : UInt64) : TyOf K H (.flt x) (.type "float")
  | lst {a : Addr} {xs : List V} (e : H a = some (.lst xs)) : TyOf K H (.ref a) (.type "list")
  | frz {a : Addr} {o : Obj} {xs : List V} (e : H a = some (.frz o (.lst xs))) : TyOf K H (.ref a) (.type "list")
  | tup {a : Addr} {xs : List V} (e : H a = some (.tup xs)) : TyOf K H (.ref a) (.type "tuple")
  | dK {a : Addr} {kvs : List (Key × V)} (e : H a = some (.dK kvs)) : TyOf K H (.ref a) (.type "dict")
  | dT {a : Addr} {kvs : List (List Key × V)} (e : H a = some (.dT kvs)) : TyOf K H (.ref a) (.type "dict")
  | ins {a C dx : Addr} {fs : List (Str × V)} (e : H a = some (.ins C dx fs)) (cl : Cls K C) (ha : PySem.W.findIn K (.ref C) "__class__" = some (some (.builtin "object.__class__")))
      (hn : PySem.W.specialIn K (.builtin "object.__class__") "__get__" = some (some (.builtin "getset_descriptor.__get__"))) (htk : PySem.W.takesIn K (.builtin "object.__class__") = some true)
      (hm : PySem.W.mroIn K C (.type "object") = some true) : TyOf K H (.ref a) (.ref C)
theorem isinst_ok {x : V} {u t : Value} (I : Inv X pins σ H s) (rx : RelV x u) (ty : TyOf X.K H x t) (e : PySem.W.kitOne X.K t c = some b) (h : ∀ tk, Q (.bool b) { s with toks := tk }) :
    wpAny (model X.prog X.w) A (call (.builtin "isinstance") [u, c]) Q E s := by
  cases ty with
  | non => cases (show u = Value.none from rx); exact PySem.W.kia_one PySem.W.kitx_none I.kIn True.intro e (fun z => nomatch z) h
  | bl y => cases (show u = Value.bool y from rx); exact PySem.W.kia_one PySem.W.kitx_bool I.kIn True.intro e (fun z => nomatch z) h
  | int i => obtain ⟨t, q⟩ := (show ∃ t, u = Value.int i t from rx); cases q; exact PySem.W.kia_one PySem.W.kitx_int I.kIn True.intro e (fun z => nomatch z) h
  | str y => obtain ⟨t, q⟩ := (show ∃ t, u = Value.str y t from rx); cases q; exact PySem.W.kia_one PySem.W.kitx_str I.kIn True.intro e (fun z => nomatch z) h
  | flt y => obtain ⟨t, q⟩ := (show ∃ t, u = Value.float y t from rx); cases q; exact PySem.W.kia_one PySem.W.kitx_float I.kIn True.intro e (fun z => nomatch z) h
  | @lst a xs ea =>
    cases (show u = Value.ref a from rx)
    obtain ⟨_, _, n, _, h1⟩ := (show ObjOk X.prog X.w H s.heap a (.lst xs) from I.hok a _ ea)
    exact PySem.W.kia_one PySem.W.kitx_list I.kIn ⟨_, h1, rfl⟩ e (fun z => nomatch z) h
  | @frz a ob xs ea =>
    cases (show u = Value.ref a from rx)
    obtain ⟨_, _, _, n, _, h1⟩ := (show ObjOk X.prog X.w H s.heap a (.frz ob (.lst xs)) from I.hok a _ ea)
    exact PySem.W.kia_one PySem.W.kitx_list I.kIn ⟨_, h1, rfl⟩ e (fun z => nomatch z) h
  | @tup a xs ea =>
    cases (show u = Value.ref a from rx)
    obtain ⟨_, _, _, p⟩ := (show ObjOk X.prog X.w H s.heap a (.tup xs) from I.hok a _ ea)
    obtain ⟨o, h1, h2, _⟩ := p
    exact PySem.W.kia_one PySem.W.kitx_tuple I.kIn ⟨o, h1, h2⟩ e (fun z => nomatch z) h
  | @dK a kvs ea =>
    cases (show u = Value.ref a from rx)
    obtain ⟨_, _, vs, _, p⟩ := (show ObjOk X.prog X.w H s.heap a (.dK kvs) from I.hok a _ ea)
    obtain ⟨o, es, ep, h1, h2, _⟩ := p
    exact PySem.W.kia_one PySem.W.kitx_dict I.kIn ⟨o, h1, h2.1⟩ e (fun z => nomatch z) h
  | @dT a kvs ea =>
    cases (show u = Value.ref a from rx)
    obtain ⟨_, _, xs, _, o, es, ep, h1, h2, _⟩ := (show ObjOk X.prog X.w H s.heap a (.dT kvs) from I.hok a _ ea)
    exact PySem.W.kia_one PySem.W.kitx_dict I.kIn ⟨o, h1, h2.1⟩ e (fun z => nomatch z) h
  | @ins a C dx fs ea cl ha hn htk hm =>
    cases (show u = Value.ref a from rx)
    obtain ⟨mA, O, _⟩ := ins_get I.hok ea
    obtain ⟨od, J, _⟩ := O.look
    exact PySem.W.kia_one (PySem.W.kitx_own (cl.get _) cl.hd ha hn htk hm) I.kIn J e (fun z => nomatch z) h
end
end L2
namespace L2
open PySem PySem.Spec PyProof.Rows
structure Room (k : Nat) (A : Around) : Prop where
  hd : A.handled = none
  dp : A.depth + 3 * k + 5 < recursionLimit
  un : A.units + 16 * k + 200 < cLine
theorem Room.mono {j k : Nat} {A : Around} (r : Room k A) (h : j ≤ k) : Room j A := ⟨r.hd, by have := r.dp; omega, by have := r.un; omega⟩
theorem Room.deeper {k : Nat} {A : Around} (r : Room (k + 1) A) (env : Env) : Room k (A.deeper env) :=
  ⟨r.hd, by have := r.dp; show A.depth + 1 + 3 * k + 5 < _; omega, by have := r.un; show A.units + 3 + 16 * k + 200 < _; omega⟩
theorem Room.in1 {k : Nat} {A : Around} (r : Room (k + 1) A) : Room k A.in1 :=
  ⟨r.hd, by have := r.dp; show A.depth + 3 * k + 5 < _; omega, by have := r.un; show A.units + 1 + 16 * k + 200 < _; omega⟩
theorem make_depth {A : Around} {C : Addr} {us : List Value} {kw : List (Str × Value)} : (A.under (.builtin "type.__call__" ⟨.ref C :: us, kw⟩)).depth = A.depth + 1 := by
  first | rfl | simp [Around.under, Code.weight, Code.isCreation, Code.isGuard, Code.isCaller, Code.frames, Code.isFrame, guardIds]
theorem make_units {A : Around} {C : Addr} {us : List Value} {kw : List (Str × Value)} : (A.under (.builtin "type.__call__" ⟨.ref C :: us, kw⟩)).units = A.units + 1 := by
  first | rfl | simp [Around.under, Code.cUnits, Code.frames, Code.isFrame]
theorem Room.make {k : Nat} {A : Around} (r : Room (k + 1) A) (C : Addr) (us : List Value) (kw : List (Str × Value)) : Room k (A.under (.builtin "type.__call__" ⟨.ref C :: us, kw⟩)) :=
  ⟨r.hd, by have := r.dp; rw [make_depth]; omega, by have := r.un; rw [make_units]; omega⟩
theorem Room.depth {k : Nat} {A : Around} (r : Room k A) : A.depth < recursionLimit := by have := r.dp; omega
theorem Room.units {k : Nat} {A : Around} (r : Room k A) : A.units + 64 < cLine := by have := r.un; omega
def tNil : TA := fun _ H Q => Q [] H
def tCons (ta : TE) (tr : TA) : TA := fun σ H Q => ta σ H fun x H1 => tr σ H1 fun xs H2 => Q (x :: xs) H2
section
variable {X : Cx} {e : Expr} {es : List Expr} {te : TE} {t : TA} {pos : Pos}
theorem pa_nil : PA X [] tNil := fun _ _ _ _ H Q I h => Calls.spliced_nil ⟨[], H, I, .nil, h⟩
theorem pa_cons (ha : PE X e te) (hr : PA X es t) (hs : starEach (e :: es) X.env = (false, eval e X.env) :: starEach es X.env := by rfl) : PA X (e :: es) (tCons te t) := by
  intro pos pins s σ H Q I h
  rw [hs]
  show wpAny _ _ (spliced ((false, eval e X.env) :: backTo pos (starEach es X.env))) _ _ s
  refine Calls.spliced_cons (thn (ha pins s σ H _ I h) fun u s1 ⟨x, H1, I1, r1, q1⟩ => ?_)
  exact thn (hr pos pins s1 σ H1 _ I1 q1) fun us s2 ⟨xs, H2, I2, r2, q2⟩ => ⟨x :: xs, H2, I2, .cons r1 r2, q2⟩
def tTup (t : TA) : TE := fun σ H Q => t σ H fun xs H1 => xs.length ≤ sizeLine ∧ ∀ p, H1 p = none → Q (.ref p) (upd H1 p (.tup xs))
def tLst (t : TA) : TE := fun σ H Q => t σ H fun xs H1 => xs.length ≤ sizeLine ∧ ∀ p, H1 p = none → Q (.ref p) (upd H1 p (.lst xs))
theorem pe_tup {x1} (h : PA X es t) : PE X (.Tuple es x1 pos) (tTup t) := by
  intro pins s σ H Q I hq
  refine wpAny_Tuple_spliced (thn (h pos pins s σ H _ I hq) fun us s1 ⟨xs, H1, I1, r, z, q⟩ => ⟨by rw [← r.length]; exact z, ?_⟩)
  have hf : H1 s1.heap.objs.size = none := I1.hok.fresh (Nat.le_refl _)
  refine ⟨.ref s1.heap.objs.size, upd H1 s1.heap.objs.size (.tup xs), I1.laid (t' := s1.toks) (fun b u e => Heap.get?_push_of_some _ e) (Nat.le_refl _) ?_, rfl, q _ hf⟩
  exact ⟨z, us, r, ⟨_, Heap.get?_push_size _ rfl, rfl, _, rfl⟩⟩
theorem pe_lst (h : PA X es t) : PE X (.List es pos) (tLst t) := by
  intro pins s σ H Q I hq
  refine wpAny_List_spliced (thn (h pos pins s σ H _ I hq) fun us s1 ⟨xs, H1, I1, r, z, q⟩ => ⟨by rw [← r.length]; exact z, ?_⟩)
  have hf : H1 s1.heap.objs.size = none := I1.hok.fresh (Nat.le_refl _)
  refine ⟨.ref s1.heap.objs.size, upd H1 s1.heap.objs.size (.lst xs), I1.laid (t' := s1.toks) (fun b u e => Heap.get?_push_of_some _ e) (Nat.le_refl _) ?_, rfl, q _ hf⟩
  exact ⟨z, us, 0, r, Heap.get?_push_size _ rfl⟩
end
abbrev Sp := List V → Hp → VK → XK → Prop
abbrev CXT := List Env → Hp → Shared → XK → Value → Shared → Prop
structure Env0 (P : Program) (w : World) (K : PySem.W.Frag) (mg : Str → Option Value) (base : Heap) (A : Around) (outer : List Env) (s : Shared) (H : Hp) : Prop where
  frames : A.frames = some outer
  mod : Mod K mg base
  bs : ∀ b o, base.get? b = some o → s.heap.get? b = some o ∧ H b = none
  bsz : base.objs.size ≤ s.heap.objs.size
  funs : s.heap.FunFrames base outer
  frf : ∀ b ∈ frs outer, H b = none
  hok : HOk P w H s.heap
  bare : AllBare s.gens
def CE (outer : List Env) (P : Program) (w : World) (H : Hp) (s : Shared) (Q : VK) (u : Value) (s' : Shared) : Prop :=
  ∃ v H', s'.os = s.os ∧ AllBare s'.gens ∧ Un (frs outer) [] H H' s.heap s'.heap ∧ HOk P w H' s'.heap ∧ RelV v u ∧ Q v H'
def CR (CX : CXT) (outer : List Env) (P : Program) (w : World) (H : Hp) (s : Shared) (Q : VK) (E : XK) (r : Result) (s' : Shared) : Prop :=
  match r with
  | .ok (.ret u) => CE outer P w H s Q u s'
  | .ok _ => False
  | .error e => CX outer H s E e s'
structure FnOk (P : Program) (w : World) (K : PySem.W.Frag) (mg : Str → Option Value) (base : Heap) (CX : CXT) (k : Nat) (f : Addr) (fd : FuncData) (ps : List Str) (sp : Sp) : Prop where
  len : ∀ vs H Q E, sp vs H Q E → vs.length = ps.length
  run : ∀ (A : Around) (outer : List Env) (s : Shared) (H : Hp) (args : Args) (us : List Value) (vs : List V) (Q : VK) (E : XK), Room k A → Env0 P w K mg base A outer s H → BindsTo s fd args (ps.zip us) → Vals vs us → sp vs H Q E →
    codeAny (model P w) A (.call (.ref f) args) (CR CX outer P w H s Q E) s
theorem FnOk.mono {P : Program} {w : World} {K : PySem.W.Frag} {mg : Str → Option Value} {base : Heap} {CX : CXT} {j k : Nat} {f : Addr} {fd : FuncData} {ps : List Str} {sp : Sp} (F : FnOk P w K mg base CX j f fd ps sp) (h : j ≤ k) :
    FnOk P w K mg base CX k f fd ps sp := ⟨F.len, fun A outer s H args us vs Q E hr => F.run A outer s H args us vs Q E (hr.mono h)⟩
theorem FnOk.imp {P : Program} {w : World} {K : PySem.W.Frag} {mg : Str → Option Value} {base : Heap} {CX : CXT} {k : Nat} {f : Addr} {fd : FuncData} {ps : List Str} {sp sp' : Sp} (F : FnOk P w K mg base CX k f fd ps sp)
    (h : ∀ vs H Q E, sp' vs H Q E → sp vs H Q E) : FnOk P w K mg base CX k f fd ps sp' :=
  ⟨fun vs H Q E q => F.len vs H Q E (h _ _ _ _ q), fun A outer s H args us vs Q E hr he hb hv hs => F.run A outer s H args us vs Q E hr he hb hv (h _ _ _ _ hs)⟩
theorem Env0.make {P : Program} {w : World} {K : PySem.W.Frag} {mg : Str → Option Value} {base : Heap} {A : Around} {outer : List Env} {s : Shared} {H : Hp} (e : Env0 P w K mg base A outer s H) (C : Addr) (us : List Value) (kw : List (Str × Value)) :
    Env0 P w K mg base (A.under (.builtin "type.__call__" ⟨.ref C :: us, kw⟩)) outer s H := ⟨by first | exact e.frames | (simpa [Around.under, Code.envs, Code.isFrame, pushEnvs] using e.frames), e.mod, e.bs, e.bsz, e.funs, e.frf, e.hok, e.bare⟩
theorem Env0.in1 {P : Program} {w : World} {K : PySem.W.Frag} {mg : Str → Option Value} {base : Heap} {A : Around} {outer : List Env} {s : Shared} {H : Hp} (e : Env0 P w K mg base A outer s H) :
    Env0 P w K mg base A.in1 outer s H := ⟨e.frames, e.mod, e.bs, e.bsz, e.funs, e.frf, e.hok, e.bare⟩
section
variable {X : Cx} {pins : List (Addr × Obj)} {σ : St} {H : Hp} {s s' : Shared}
theorem Inv.env0 (I : Inv X pins σ H s) : Env0 X.prog X.w X.K X.mg X.base X.A X.stack s H :=
  ⟨I.ok.frames, I.ok.mod, I.bs, Nat.le_trans I.ok.bsz I.sz, I.stack, I.stkFree, I.hok, I.bare⟩
theorem Inv.after {Q : VK} {u : Value} (I : Inv X pins σ H s) (h : CE X.stack X.prog X.w H s Q u s') : EP X pins σ Q u s' := by
  obtain ⟨v, H', os, bare, un, hok, r, q⟩ := h
  obtain ⟨hh, g, d, t, os'⟩ := s'
  obtain rfl : os' = s.os := os
  exact ⟨v, H', I.call (h' := hh) (g' := g) (d' := d) (t' := t) (ch := []) un hok bare (fun b z => absurd z (by simp)), r, q⟩
end
def Binds (K : PySem.W.Frag) (fd : FuncData) (ps : List Str) (ds : List Value) : Prop :=
  ∀ (s : Shared) (us : List Value), K.In s.heap → (us ++ ds).length = ps.length → BindsTo s fd ⟨us, []⟩ (ps.zip (us ++ ds))
theorem Binds.all {K : PySem.W.Frag} {fd : FuncData} {ps : List Str} (h : ∀ us : List Value, us.length = ps.length → bindArgs fd ⟨us, []⟩ = pure (ps.zip us)) : Binds K fd ps [] := fun s us _ hl => by
  rw [List.append_nil] at hl ⊢
  exact .of_eq (h us hl)
section
variable {X : Cx} {CX : CXT} {k : Nat} {f C : Addr} {fd : FuncData} {ps : List Str} {sp : Sp} {dvs : List V} {ds : List Value} {E : XK} {x m : Str} {p pos apos : Pos} {e o : Expr} {es : List Expr} {ta : TE} {t : TA}
end
section
variable {X : Cx} {CX : CXT} {k : Nat} {f C : Addr} {fd : FuncData} {ps ks : List Str} {sp : Sp} {E : XK} {x m : Str} {p pos apos kpos : Pos} {e o : Expr} {es : List Expr} {kws : List Keyword} {te ta : TE} {t tk : TA} {nm : Option Str}
variable {g : List Value → List Value → List Value} {gV : List V → List V → List V}
end
structure FnScope (N P : List Str) (sc : Scope) : Prop where
  kind : sc.kind = .function
  co : sc.isCoroutine = false
  gen : sc.isGenerator = false
  nd : N.Nodup
  pre : N.take P.length = P
  par : ∀ x ∈ P, sc.names.lookup x = some .local ∨ sc.names.lookup x = some .cell
  nofree : ∀ y ∈ sc.names, y.2 ≠ .free
theorem bindL_out {kindOf : Str → Option NameKind} {x : Str} : ∀ {binds : List (Str × Value)} {m : Str → Option Value}, (∀ v, (x, v) ∉ binds) → bindL kindOf binds m x = m x
  | [], _, _ => rfl
  | (n, v) :: r, m, h => by
    unfold bindL
    rw [bindL_out fun w hw => h w (List.mem_cons_of_mem _ hw)]
    split
    · have : x ≠ n := by rintro rfl; exact h v List.mem_cons_self
      simp [this]
    · rfl
theorem bindC_out {kindOf : Str → Option NameKind} {x : Str} : ∀ {binds : List (Str × Value)} {m : Str → Option Value}, (∀ v, (x, v) ∉ binds) → bindC kindOf binds m x = m x
  | [], _, _ => rfl
  | (n, v) :: r, m, h => by
    unfold bindC
    rw [bindC_out fun w hw => h w (List.mem_cons_of_mem _ hw)]
    split
    · rfl
    · have : x ≠ n := by rintro rfl; exact h v List.mem_cons_self
      simp [this]
theorem bindL_get {kindOf : Str → Option NameKind} {x : Str} {v : Value} : ∀ {P : List Str} {vs : List Value} {i : Nat} {m : Str → Option Value}, P.Nodup → P[i]? = some x → vs[i]? = some v → kindOf x = some .local →
    bindL kindOf (P.zip vs) m x = some v
  | [], _, _, _, _, h, _, _ => by simp at h
  | _ :: _, [], _, _, _, _, h, _ => by simp at h
  | p :: P, w :: vs, 0, m, nd, h1, h2, hk => by
    simp at h1 h2; subst h1; subst h2
    show bindL kindOf ((p, w) :: P.zip vs) m p = _
    unfold bindL
    rw [bindL_out fun v hv => (List.nodup_cons.mp nd).1 (List.of_mem_zip hv).1, if_pos hk]
    simp
  | p :: P, w :: vs, i + 1, m, nd, h1, h2, hk => by
    show bindL kindOf ((p, w) :: P.zip vs) m x = _
    unfold bindL
    exact bindL_get (i := i) (List.nodup_cons.mp nd).2 (by simpa using h1) (by simpa using h2) hk
theorem bindC_get {kindOf : Str → Option NameKind} {x : Str} {v : Value} : ∀ {P : List Str} {vs : List Value} {i : Nat} {m : Str → Option Value}, P.Nodup → P[i]? = some x → vs[i]? = some v → kindOf x ≠ some .local →
    bindC kindOf (P.zip vs) m x = some v
  | [], _, _, _, _, h, _, _ => by simp at h
  | _ :: _, [], _, _, _, _, h, _ => by simp at h
  | p :: P, w :: vs, 0, m, nd, h1, h2, hk => by
    simp at h1 h2; subst h1; subst h2
    show bindC kindOf ((p, w) :: P.zip vs) m p = _
    unfold bindC
    rw [bindC_out fun v hv => (List.nodup_cons.mp nd).1 (List.of_mem_zip hv).1, if_neg hk]
    simp
  | p :: P, w :: vs, i + 1, m, nd, h1, h2, hk => by
    show bindC kindOf ((p, w) :: P.zip vs) m x = _
    unfold bindC
    exact bindC_get (i := i) (List.nodup_cons.mp nd).2 (by simpa using h1) (by simpa using h2) hk
def start (N : List Str) (vs : List V) : St := vs.map some ++ List.replicate (N.length - vs.length) none
def cxOf (CX : CXT) (P : Program) (w : World) (K : PySem.W.Frag) (mg : Str → Option Value) (base : Heap) (N : List Str) (qual : Str) (scope : Scope) (f : Addr) (cd : Value) (A : Around) (outer : List Env) (s : Shared) (H : Hp) (E : XK) : Cx where
  prog := P
  w := w
  K := K
  mg := mg
  base := base
  A := A.deeper (envOfC qual scope s.heap.objs.size f cd)
  N := N
  s₀ := s
  H₀ := H
  env := envOfC qual scope s.heap.objs.size f cd
  outer := outer
  stack := envOfC qual scope s.heap.objs.size f cd :: outer
  ex := []
  calm := true
  fn := fun _ => true
  pn := []
  xe := fun e s' => wpAny (model P w) (A.deeper (envOfC qual scope s.heap.objs.size f cd)) (leaving (envOfC qual scope s.heap.objs.size f cd) e) (fun _ s'' => CX outer H s E e s'') (fun e' s'' => CX outer H s E e' s'') s'
theorem cell_has {sc : Scope} {n : Nat} {x : Str} (h : sc.names.lookup x = some .cell) : ∃ c, (cellsFrom n sc.names []).lookup x = some c := by
  have q := PySem.W.cellsFrom_some sc.names n [] (.inl h)
  exact Option.isSome_iff_exists.mp q
theorem inv_start {CX : CXT} {P : Program} {w : World} {K : PySem.W.Frag} {mg : Str → Option Value} {base : Heap} {N ps : List Str} {qual : Str} {scope : Scope} {f : Addr} {cd : Value} {A : Around} {outer : List Env} {s s1 : Shared} {H : Hp} {E : XK} {us : List Value} {vs : List V}
    (S : FnScope N ps scope) (hd : A.handled = none) (e0 : Env0 P w K mg base A outer s H) (hl : vs.length = ps.length) (r : Vals vs us)
    (x : InCallC s s.heap.objs.size (bindL (envOfC qual scope s.heap.objs.size f cd).kindOf (ps.zip us) fun _ => none) (cellsFrom (s.heap.objs.size + 1) scope.names []) (bindC (envOfC qual scope s.heap.objs.size f cd).kindOf (ps.zip us) fun _ => none) s1) :
    Inv (cxOf CX P w K mg base N qual scope f cd A outer s H E) [] (start N vs) H s1 := by
  have hpl : ps.length ≤ N.length := by have := congrArg List.length S.pre; rw [List.length_take] at this; omega
  obtain ⟨h1, tk, rfl, hk⟩ := x.done
  have noA : ∀ b : Addr, b ∉ (cxOf CX P w K mg base N qual scope f cd A outer s H E).ex := fun b z => absurd (show b ∈ ([] : List Addr) from z) (by simp)
  refine ⟨⟨e0.mod, S.kind, rfl, rfl, Nat.le_refl _, fun y z c h1 h2 => ?_, fun y hy => ?_, fun y c _ h => ?_, fun _ => hd, Around.frames_deeper e0.frames, .inr ⟨rfl, rfl⟩, fun b z => absurd z (noA b), e0.bs, e0.bsz, fun b _ _ => noA b, fun b z => absurd z (noA b), e0.funs, e0.frf⟩,
    rfl, e0.bare, Un.kept hk, ⟨_, x.toInCall.ns, fun i y v h1 h2 h3 => ?_⟩, fun y c h => ⟨_, x.cell y c h⟩, e0.hok.fresh (Nat.le_refl _), fun y c h => ?_, fun p hp => absurd (show p ∈ ([] : List (Addr × Obj)) from hp) (by simp), e0.hok.kept hk, ?_⟩
  · exact name_of_addr x.apart (PySem.mem_of_lookup h1) (PySem.mem_of_lookup h2)
  · have hy : scope.names.lookup y = some .cell ∨ scope.names.lookup y = some .free := hy
    rcases hy with hy | hy
    · exact cell_has hy
    · exact absurd rfl (S.nofree _ (PySem.mem_of_lookup hy))
  · exact Nat.le_of_lt (x.above y c (PySem.mem_of_lookup h))
  · have hi : i < vs.length := by
      unfold start at h2
      by_cases hi : i < vs.length
      · exact hi
      · rw [List.getElem?_append_right (by simpa using hi)] at h2
        rw [List.getElem?_replicate] at h2
        split at h2 <;> cases h2
    have ha : vs[i]? = some v := by
      unfold start at h2
      rw [List.getElem?_append_left (by simpa using hi), List.getElem?_map] at h2
      cases e : vs[i]? with
      | none => rw [e] at h2; cases h2
      | some a => rw [e] at h2; cases h2; rfl
    obtain ⟨u, hu, rv⟩ := r.get ha
    have hp : ps[i]? = some y := by
      rw [← S.pre, List.getElem?_take_of_lt (by omega)]; exact h1
    have ndP : ps.Nodup := by rw [← S.pre]; exact S.nd.sublist (List.take_sublist _ _)
    refine ⟨u, rv, ?_⟩
    rcases S.par y (List.mem_of_getElem? hp) with k | k
    · exact .inl ⟨k, bindL_get ndP hp hu k⟩
    · obtain ⟨c, e⟩ := cell_has (n := s.heap.objs.size + 1) k
      refine .inr ⟨.inl k, c, e, ?_⟩
      have q := x.cell y c e
      rw [bindC_get ndP hp hu (by show scope.names.lookup y ≠ _; rw [k]; decide)] at q
      exact q
  · exact e0.hok.fresh (Nat.le_of_lt (x.above y c (PySem.mem_of_lookup h)))
  · unfold start
    show _ = N.length
    rw [List.length_append, List.length_map, List.length_replicate]
    omega
theorem fn_of {CX : CXT} {P : Program} {w : World} {K : PySem.W.Frag} {mg : Str → Option Value} {base : Heap} {k : Nat} {f : Addr} {name qual : Str} {params : Arguments} {body : List Stmt} {scope : Scope} {dV kV doc pm cdv ct oc : Value} {an od : Option Addr}
    {osl : Array (Option Value)} {N ps : List Str} {sp : Sp} (lk : K.lookup f = some ⟨oc, od, .func (PySem.W.fnOf name qual params body scope dV kV doc pm an cdv ct), osl⟩) (hcd : PySem.W.codeIn K cdv qual = true) (S : FnScope N ps scope)
    (len : ∀ vs H Q E, sp vs H Q E → vs.length = ps.length)
    (hbody : ∀ (A : Around) (outer : List Env) (s : Shared) (H : Hp) (vs : List V) (Q : VK) (E : XK), Room k (A.deeper (envOfC qual scope s.heap.objs.size f cdv)) → sp vs H Q E →
      ∃ t, PSs (cxOf CX P w K mg base N qual scope f cdv A outer s H E) body t ∧ t { nx := fun _ H' => Q .non H', rt := Q } (start N vs) H) :
    FnOk P w K mg base CX (k + 1) f (PySem.W.fnOf name qual params body scope dV kV doc pm an cdv ct) ps sp := by
  refine ⟨len, fun A outer s H args us vs Q E hr e0 hb r hsp => ?_⟩
  have hl := len _ _ _ _ hsp
  have KX : K.In s.heap := e0.mod.kin.keeps fun b o e => (e0.bs b o e).1
  have lim : s.heap.NoLimit := e0.mod.nolimit.keeps fun b o e => (e0.bs b o e).1
  have hkind : ∀ y ∈ ps.zip us, scope.names.lookup y.1 = some .local ∨ (scope.names.lookup y.1 = some .cell ∧ ((cellsFrom (s.heap.objs.size + 1) scope.names []).lookup y.1).isSome = true) := fun ⟨n, v⟩ hy => by
    rcases S.par n (List.of_mem_zip hy).1 with q | q
    · exact .inl q
    · exact .inr ⟨q, PySem.W.cellsFrom_some _ _ _ (.inl q)⟩
  refine codeAny_call_function hr.depth (KX _ _ lk) rfl S.co S.gen rfl (PySem.W.codeRec_of KX hcd) (hb _ _ _ _ ?_)
  refine wpAny_newFunctionEnv_cells S.kind hkind fun env he s1 x => ?_
  subst he
  refine ⟨lim.keeps x.toInCall.keep, codeAny_func ?_⟩
  obtain ⟨t, ht, hq⟩ := hbody A outer s H vs Q E (hr.deeper _) hsp
  have I : Inv (cxOf CX P w K mg base N qual scope f cdv A outer s H E) [] (start N vs) H s1 := inv_start S hr.hd e0 hl r x
  refine wpAny_mono (ht [] s1 (start N vs) H _ I hq) (fun fl s' hs => ?_) fun e s' hs => hs
  have fin : ∀ {σ' : St} {H' : Hp} {v : V} {u : Value}, Inv (cxOf CX P w K mg base N qual scope f cdv A outer s H E) [] σ' H' s' → RelV v u → Q v H' → CE outer P w H s Q u s' :=
    fun {σ' H' v u} J rv q => ⟨v, H', J.os, J.bare, J.base, J.hok, rv, q⟩
  cases fl with
  | ret u =>
    obtain ⟨v, σ', H', J, rv, q⟩ := hs
    exact fin J rv q
  | next =>
    obtain ⟨σ', H', J, q⟩ := hs
    exact fin (v := V.non) (u := Value.none) J rfl q
  | brk =>
    obtain ⟨_, _, _, q⟩ := hs
    exact False.elim q
  | cont =>
    obtain ⟨_, _, _, q⟩ := hs
    exact False.elim q
end L2
namespace L2
open PySem PySem.Spec PyProof.Rows
section
variable {X : Cx} {x : Str} {p pos : Pos} {e : Expr} {es : List Expr} {t : TA} {id T : String} {r : List V → Hp → VK → Prop}
def tCB (r : List V → Hp → VK → Prop) (t : TA) : TE := fun σ H Q => t σ H fun vs H1 => r vs H1 Q
theorem pe_callB (hc : CallR X (.builtin id) r) (hg : Gl X x) (hm : X.mg x = none) (hv : bootBuiltins x = some (.builtin id)) (ha : PA X (e :: es) t) (hn : x ≠ "__name__" := by decide) (hdb : (x == ("__debug__" : Str)) = false := by decide)
    (he : starEach (e :: es) X.env = (false, eval e X.env) :: starEach es X.env := by rfl) (hpl : (backTo pos (starEach es X.env)).any (·.1) = false := by rfl) : PE X (.Call (.Name x p) (e :: es) [] pos) (tCB r t) := by
  intro pins s σ H Q I h
  refine wpAny_Call_Name_kw (ld_blt I hg hm hv ?_ hn hdb)
  exact PyProof.Rows.callWith_builtin1 (thn (ha pos pins s σ H _ I h) fun us s1 ⟨vs, H1, I1, r1, q1⟩ => hc pins s1 σ H1 vs us Q I1 r1 q1) he hpl
theorem pe_callTy (hc : CallR X (.type T) r) (hg : Gl X x) (hm : X.mg x = none) (hv : bootBuiltins x = some (.type T)) (ha : PA X (e :: es) t) (hn : x ≠ "__name__" := by decide) (hdb : (x == ("__debug__" : Str)) = false := by decide)
    (he : starEach (e :: es) X.env = (false, eval e X.env) :: starEach es X.env := by rfl) (hpl : (backTo pos (starEach es X.env)).any (·.1) = false := by rfl) : PE X (.Call (.Name x p) (e :: es) [] pos) (tCB r t) := by
  intro pins s σ H Q I h
  refine wpAny_Call_Name_kw (ld_blt I hg hm hv ?_ hn hdb)
  exact PyProof.Rows.callWith_type1 (thn (ha pos pins s σ H _ I h) fun us s1 ⟨vs, H1, I1, r1, q1⟩ => hc pins s1 σ H1 vs us Q I1 r1 q1) he hpl
end
end L2
namespace HT
open PySem PyProof.Rows
def lexLt : List Int → List Int → Bool
  | [], [] => false
  | [], _ :: _ => true
  | _ :: _, [] => false
  | x :: xs, y :: ys => if x = y then lexLt xs ys else decide (x < y)
theorem lexLt_cons (x y : Int) (xs ys : List Int) : lexLt (x :: xs) (y :: ys) = if x = y then lexLt xs ys else decide (x < y) := rfl
theorem lexLt_nil_nil : lexLt [] [] = false := rfl
theorem lexLt_nil_cons (y : Int) (ys : List Int) : lexLt [] (y :: ys) = true := rfl
theorem lexLt_cons_nil (x : Int) (xs : List Int) : lexLt (x :: xs) [] = false := rfl
theorem eqAt_int (A : Around) (s : Shared) (a : Int) (t : Tok) (c : Int) (u : Tok) : ∃ e, SeqAt.EqAt A s (.int a t) (.int c u) e ∧ (e = true ↔ a = c) :=
  ⟨(a == c), SeqAt.EqAt.int_int a t c u, by simp⟩
theorem rcLt_int (A : Around) (s : Shared) (a : Int) (t : Tok) (c : Int) (u : Tok) (prog : Program) (w : World) (E : Value → Shared → Prop) (Q : Value → Shared → Prop) (h : Q (.bool (decide (a < c))) s) :
    wpAny (model prog w) A (richCompare .Lt (.int a t) (.int c u)) Q E s :=
  (PyProof.Rows.lt_int h : wpAny (model prog w) A (compareOp .Lt (.int a t) (.int c u)) Q E s)
section
open PySem.SeqAt
open PySem.AutoSeq1 (wpAny_loadPart')
open PySem.MeetsSeq PySem.MeetsSeq2 PySem.MeetsSeq3
theorem tuple_lt_ints (l b : Addr) (items items2 : Array Value) (n n2 : Nat) (dd dd2 : Option Addr) (sl sl2 : Array (Option Value)) (ns ms : List Int) (hi : IntsAre items.toList ns) (hj : IntsAre items2.toList ms) :
    Meets (Builtin.«tuple.__lt__» ⟨[.ref l, .ref b], []⟩)
      (fun _ R s => s.heap.get? l = some { cls := .type "tuple", dict := dd, data := .seq items n, slots := sl } ∧ s.heap.get? b = some { cls := .type "tuple", dict := dd2, data := .seq items2 n2, slots := sl2 } ∧
        R (.ok (.ret (.bool (lexLt ns ms)))) s) :=
  .of_wp fun prog w A R s h => by
    obtain ⟨hp, g, d, tk, os⟩ := s; obtain ⟨hl, hb, h⟩ := h
    have f2 := AutoSeq1.sub_tuple_tuple
    have z1 : items.size = ns.length := by rw [← hi.length]; simp
    have z2 : items2.size = ms.length := by rw [← hj.length]; simp
    wp_walk using wpAny_loadPart' hl, wpAny_loadPart' hb, wpAny_forIn_list _ (fun rest b s' => b.1 = none ∧ s' = ⟨hp, g, d, tk, os⟩ ∧ ∃ (vs ws : List Value) (ns' ms' : List Int), rest = vs.zip ws ∧
      IntsAre vs ns' ∧ IntsAre ws ms' ∧ ns'.length + items2.size = ms'.length + items.size ∧ R (.ok (.ret (.bool (lexLt ns' ms')))) ⟨hp, g, d, tk, os⟩) _
    case turn =>
      rintro ⟨y, x⟩ rest b s' ⟨hb', rfl, vs, ws, ns', ms', hz, hvi, hwi, hlen, hR⟩
      cases hvi with
      | nil => rw [List.zip_nil_left] at hz; cases hz
      | cons a t hvi' =>
        cases hwi with
        | nil => rw [List.zip_nil_right] at hz; cases hz
        | cons c u hwi' =>
          rw [List.zip_cons_cons] at hz
          injection hz with hyx hrest
          injection hyx with hy hx
          subst hy hx
          rw [lexLt_cons] at hR
          simp only [List.length_cons] at hlen
          obtain ⟨e, he, hiff⟩ := eqAt_int A.in1 ⟨hp, g, d, tk, os⟩ a t c u
          refine wpAny_bind (he prog w _ _ ?_)
          cases e with
          | true =>
            rw [if_pos (hiff.mp rfl)] at hR
            wp_walk
            exact ⟨rfl, rfl, _, _, _, _, hrest, hvi', hwi', by omega, hR⟩
          | false =>
            rw [if_neg (fun q => absurd (hiff.mpr q) Bool.false_ne_true)] at hR
            have hri := rcLt_int A.in1 ⟨hp, g, d, tk, os⟩ a t c u prog w
            wp_walk using hri
            exact ⟨_, rfl, by simpa using hR⟩
    case fin =>
      rintro ⟨b1, b2⟩ s' ⟨hb', rfl, vs, ws, ns', ms', hz, hvi, hwi, hlen, hR⟩
      simp only at hb'
      subst hb'
      have hv : lexLt ns' ms' = decide (items.size < items2.size) := by
        cases hvi with
        | nil =>
          cases hwi with
          | nil =>
            simp only [List.length_nil] at hlen
            rw [lexLt_nil_nil]
            exact (decide_eq_false (by omega)).symm
          | cons c u hw =>
            simp only [List.length_nil, List.length_cons] at hlen
            rw [lexLt_nil_cons]
            exact (decide_eq_true (by omega)).symm
        | cons a t hv =>
          cases hwi with
          | nil =>
            simp only [List.length_nil, List.length_cons] at hlen
            rw [lexLt_cons_nil]
            exact (decide_eq_false (by omega)).symm
          | cons c u hw =>
            rw [List.zip_cons_cons] at hz
            cases hz
      rw [hv] at hR
      wp_walk
      exact ⟨_, rfl, by simpa [Builtin.Tuple.tupleCompareSizes] using hR⟩
    case h =>
      exact ⟨rfl, rfl, items.toList, items2.toList, ns, ms, rfl, hi, hj, by omega, h⟩
end
section
variable {prog : Program} {w : World} {A : Around} {E : Value → Shared → Prop} {s : Shared}
theorem lt_tupInts {l b : Addr} {items items2 : Array Value} {ns ms : List Int} {Q : Value → Shared → Prop} (hl : IsTup s.heap l items) (hb : IsTup s.heap b items2) (hi : IntsAre items.toList ns) (hj : IntsAre items2.toList ms)
    (hu : A.units < cLine) (h : Q (.bool (lexLt ns ms)) s) : wpAny (model prog w) A (compareOp .Lt (.ref l) (.ref b)) Q E s := by
  obtain ⟨⟨cls, dd, data, sl⟩, ho, hc, n, hd⟩ := id hl
  obtain ⟨⟨cls2, dd2, data2, sl2⟩, ho2, hc2, n2, hd2⟩ := id hb
  simp only at hc hd hc2 hd2
  subst hc hd hc2 hd2
  exact richCompare_meets_room (op := .Lt) ⟨_, ho, rfl⟩ ⟨_, ho2, rfl⟩ PySem.F.slot_tuple_lt PySem.F.entry_tuple_lt (PySem.F.args_tuple_lt_2 _ _) (tuple_lt_ints l b items items2 n n2 dd dd2 sl sl2 ns ms hi hj)
    ⟨ho, ho2, show Value.bool (lexLt ns ms) ≠ Value.notImplemented ∧ Q (.bool (lexLt ns ms)) s from ⟨(fun x => nomatch x), h⟩⟩ hu
theorem cat_tup {t b : Addr} {vs ws : List Value} {Q : Value → Shared → Prop} (ht : IsTup s.heap t vs.toArray) (hb : IsTup s.heap b ws.toArray) (hv : vs ≠ [])
    (h1 : ws = [] → Q (.ref t) s) (h2 : ws ≠ [] → Q (.ref s.heap.objs.size) { s with heap := s.heap.push { cls := .type "tuple", data := .seq (vs ++ ws).toArray } })
    (hsz : vs.length + ws.length ≤ sizeLine) : wpAny (model prog w) A (binaryOp .Add (.ref t) (.ref b)) Q E s := by
  obtain ⟨⟨cls, dd, data, sl⟩, ho, hc, n, hd⟩ := id ht
  obtain ⟨⟨cls2, dd2, data2, sl2⟩, ho2, hc2, n2, hd2⟩ := id hb
  simp only at hc hd hc2 hd2
  subst hc hd hc2 hd2
  have e : vs.toArray ++ ws.toArray = (vs ++ ws).toArray := by simp
  by_cases hw : ws = []
  · exact concat_meets ⟨_, ho, rfl⟩ ⟨_, ho2, rfl⟩ noFill_tuple_add seq_tuple_add PySem.F.slot_tuple_add PySem.F.entry_tuple_add (PySem.F.args_tuple_add_2 _ _)
      (tuple_addW1 t b vs.toArray ws.toArray n n2 dd dd2 sl sl2 (by simpa using hv) (by simp [hw])) ⟨ho, ho2, h1 hw⟩
  · refine concat_meets ⟨_, ho, rfl⟩ ⟨_, ho2, rfl⟩ noFill_tuple_add seq_tuple_add PySem.F.slot_tuple_add PySem.F.entry_tuple_add (PySem.F.args_tuple_add_2 _ _)
      (tuple_addW2 t b vs.toArray ws.toArray n n2 dd dd2 sl sl2 (by simpa using hv) (by simpa using hw) (by rw [List.size_toArray, List.size_toArray]; exact hsz)) ⟨ho, ho2, ?_⟩
    rw [e]
    exact h2 hw
def sIx (n d : Nat) : Option Int → Nat
  | none => d
  | some v => if v < 0 then (v + (n : Int)).toNat else min v.toNat n
theorem sIx_none (n d : Nat) : sIx n d none = d := rfl
theorem sIx_nat (n d k : Nat) : sIx n d (some (k : Int)) = min k n := by
  show (if (k : Int) < 0 then ((k : Int) + (n : Int)).toNat else min (k : Int).toNat n) = min k n
  rw [if_neg (by omega), Int.toNat_natCast]
theorem sIx_le (n d : Nat) (hd : d ≤ n) (o : Option Int) : sIx n d o ≤ n := by
  cases o with
  | none => exact hd
  | some v =>
    show (if v < 0 then (v + (n : Int)).toNat else min v.toNat n) ≤ n
    by_cases hv : v < 0
    · rw [if_pos hv]; omega
    · rw [if_neg hv]; exact Nat.min_le_right _ _
theorem clip_eq (v : Int) (n d : Nat) : (if v < 0 then max (v + (n : Int)) 0 else min v (n : Int)) = ((sIx n d (some v) : Nat) : Int) := by
  show (if v < 0 then max (v + (n : Int)) 0 else min v (n : Int)) = (((if v < 0 then (v + (n : Int)).toNat else min v.toNat n) : Nat) : Int)
  by_cases hv : v < 0
  · simp only [if_pos hv]; omega
  · simp only [if_neg hv]; omega
theorem adjust_gen (lo hi : Option Int) (n : Nat) : Builtin.Slice.sliceAdjust lo hi 1 (n : Int) = (((sIx n 0 lo : Nat) : Int), ((sIx n n hi : Nat) : Int)) := by
  have h1 : ¬ ((1 : Int) < 0) := by omega
  unfold Builtin.Slice.sliceAdjust
  simp only [h1, if_false]
  refine Prod.ext ?_ ?_
  · cases lo with
    | none => rfl
    | some v => exact clip_eq v n 0
  · cases hi with
    | none => rfl
    | some v => exact clip_eq v n n
theorem places_gen (i j : Nat) : Builtin.Slice.slicePlaces (i : Int) (j : Int) 1 = j - i := by
  unfold Builtin.Slice.slicePlaces
  have h1 : (1 : Int) > 0 := by omega
  simp only [h1, if_true, Int.ediv_one]
  split <;> omega
theorem slicePart_ {v : Value} {o : Option Int} {Q : Option Int → Shared → Prop} (p : IsPart v o) (h : Q o s) : wpAny (model prog w) A (Builtin.Slice.slicePartIndex v) Q E s := by
  cases p with
  | none => exact slicePart_none h
  | int i t => exact slicePart_int h
theorem sliceApplied_gen {sl : Addr} {vl vu : Value} {lo hi : Option Int} {n : Nat} {Q : Int × Int × Nat → Shared → Prop} (hs : s.heap.IsSliceOf sl vl vu .none) (pl : IsPart vl lo) (pu : IsPart vu hi)
    (h : Q (((sIx n 0 lo : Nat) : Int), 1, sIx n n hi - sIx n 0 lo) s) : wpAny (model prog w) A (Builtin.Slice.sliceApplied (.ref sl) (pure (n : Int))) Q E s := by
  obtain ⟨os, hos, hcs, hds⟩ := id hs
  unfold Builtin.Slice.sliceApplied Builtin.Slice.sliceFields
  refine wpAny_bind (wpAny_bind (wpAny_field hos hds (x := vl) rfl (wpAny_bind (wpAny_field hos hds (x := vu) rfl (wpAny_bind (wpAny_field hos hds (x := .none) rfl (wpAny_pure ?_)))))))
  refine wpAny_bind (slicePart_none ?_)
  show wpAny _ _ (if ((1 : Int) == 0) = true then _ else _) _ _ s
  rw [if_neg (by decide)]
  refine wpAny_bind (slicePart_ pl (wpAny_bind (slicePart_ pu (wpAny_bind (wpAny_pure ?_)))))
  show wpAny _ _ (match Builtin.Slice.sliceAdjust lo hi 1 (n : Int) with | (lo, hi) => pure (lo, (1 : Int), Builtin.Slice.slicePlaces lo hi 1)) _ _ s
  rw [adjust_gen lo hi n]
  show wpAny _ _ (pure (((sIx n 0 lo : Nat) : Int), (1 : Int), Builtin.Slice.slicePlaces ((sIx n 0 lo : Nat) : Int) ((sIx n n hi : Nat) : Int) 1)) _ _ s
  rw [places_gen]
  exact wpAny_pure h
theorem pick_gen (xs : Array Value) (i k : Nat) : ((List.range k).filterMap fun (m : Nat) => xs[((i : Int) + (m : Int) * 1).toNat]?).toArray = ((xs.toList.drop i).take k).toArray := by
  have e : (fun (m : Nat) => xs[((i : Int) + (m : Int) * 1).toNat]?) = fun m => xs[i + m]? := by
    funext m
    have : ((i : Int) + (m : Int) * 1).toNat = i + m := by omega
    rw [this]
  rw [e]
  have := pick_run xs i k
  rw [List.filterMap_map] at this
  have e2 : ((fun x => xs[x]?) ∘ fun x => i + x) = fun m => xs[i + m]? := rfl
  rw [e2] at this
  rw [this]
theorem getItem_tuple_cut {t sl : Addr} {items : Array Value} {vl vu : Value} {lo hi : Option Int} {Q : Value → Shared → Prop} (ht : IsTup s.heap t items) (hs : s.heap.IsSliceOf sl vl vu .none) (pl : IsPart vl lo) (pu : IsPart vu hi)
    (hw : ¬ (sIx items.size 0 lo = 0 ∧ sIx items.size items.size hi = items.size))
    (h : Q (.ref s.heap.objs.size) { s with heap := s.heap.push { cls := .type "tuple", data := .seq ((items.toList.drop (sIx items.size 0 lo)).take (sIx items.size items.size hi - sIx items.size 0 lo)).toArray } })
    (hsz : items.size ≤ sizeLine) : wpAny (model prog w) A (getItem (.ref t) (.ref sl)) Q E s := by
  have htake : sizeOk (.seq ((items.toList.drop (sIx items.size 0 lo)).take (sIx items.size items.size hi - sIx items.size 0 lo)).toArray) := by
    show ((items.toList.drop (sIx items.size 0 lo)).take (sIx items.size items.size hi - sIx items.size 0 lo)).toArray.size ≤ sizeLine
    rw [List.size_toArray, List.length_take, List.length_drop, Array.length_toList]
    omega
  have hj : sIx items.size items.size hi ≤ items.size := sIx_le _ _ (Nat.le_refl _) hi
  obtain ⟨os, hos, hcs, hds⟩ := id hs
  have hTs : s.TypeIs (.ref sl) "slice" := ⟨os, hos, hcs⟩
  unfold getItem
  try with_reducible refine wpAny_holding ?_
  first | refine wpAny_bind (wpAny_pure ?_) | skip
  refine wpAny_bind (wpAny_sequenceKey ht.typeIs (by decide) ?_)
  refine wpAny_bind (wpAny_callSpecial?_slot (name := Str.ofString "__getitem__") ht.typeIs PyProof.Rows.slot_tuple_getitem
    (wpAny_call_entry PyProof.Rows.slot_tuple_getitem ht.typeIs entry_tuple_getitem ?_ (args_tuple_getitem _ _)))
  show wpAny _ _ (Builtin.Tuple.tupleItemsOf (.ref t) >>= _) _ _ s
  refine wpAny_bind (tupleItemsOf_ ht ?_)
  refine wpAny_bind (wpAny_typeOf hTs ?_)
  rw [if_pos (by decide)]
  refine wpAny_bind (sliceApplied_gen hs pl pu ?_)
  have hno : ¬ ((((sIx items.size 0 lo : Nat) : Int) == 0 && (1 : Int) == 1 && (sIx items.size items.size hi - sIx items.size 0 lo) == items.size) = true) := by
    intro q
    rw [Bool.and_eq_true, Bool.and_eq_true] at q
    have q1 : ((sIx items.size 0 lo : Nat) : Int) = 0 := eq_of_beq q.1.1
    have q2 : sIx items.size items.size hi - sIx items.size 0 lo = items.size := eq_of_beq q.2
    exact hw ⟨by omega, by omega⟩
  show wpAny _ _ (if (((sIx items.size 0 lo : Nat) : Int) == 0 && (1 : Int) == 1 && (sIx items.size items.size hi - sIx items.size 0 lo) == items.size) = true then _ else _) _ _ s
  rw [if_neg hno, pick_gen]
  first
    | exact wpAny_bind (m := Builtin.Tuple.tupleExact _) (wpAny_newObj_type (wpAny_pure ⟨_, rfl, wpAny_pure h⟩) htake)
    | exact wpAny_bind (m := Builtin.Tuple.tupleExact _) (wpAny_newObj_type (wpAny_bind (wpAny_pure (wpAny_pure ⟨_, rfl, wpAny_pure h⟩))) htake)
    | exact wpAny_bind (wpAny_bind (m := Builtin.Tuple.tupleExact _) (wpAny_newObj_type (wpAny_pure (wpAny_pure ⟨_, rfl, wpAny_pure h⟩)) htake))
    | exact wpAny_bind (wpAny_bind (m := Builtin.Tuple.tupleExact _) (wpAny_newObj_type (wpAny_pure ⟨_, rfl, wpAny_pure h⟩) htake))
end
end HT
namespace L2
open PySem PySem.Spec PyProof.Rows
abbrev TO := St → Hp → (Option Int → Hp → Prop) → Prop
def PO (X : Cx) (e : Option Expr) (t : TO) : Prop :=
  ∀ (pins : List (Addr × Obj)) (s : Shared) (σ : St) (H : Hp) (Q : Option Int → Hp → Prop), Inv X pins σ H s → t σ H Q →
    wpAny (model X.prog X.w) X.A (evalPart e X.env) (fun u s' => ∃ o H', Inv X pins σ H' s' ∧ IsPart u o ∧ Q o H') X.xe s
def tNoPart : TO := fun _ H Q => Q none H
def tPart (t : TE) : TO := fun σ H Q => t σ H fun x H1 => ∃ i, x = .int i ∧ Q (some i) H1
theorem intsAre_of {ns : List Int} : ∀ {us : List Value}, Vals (ns.map V.int) us → IntsAre us ns := by
  induction ns with
  | nil => intro us r; rw [List.map_nil] at r; cases r; exact .nil
  | cons n ns ih =>
    intro us r
    rw [List.map_cons] at r
    cases r with
    | cons r1 r2 =>
      obtain ⟨t, e⟩ := r1
      subst e
      exact .cons n t (ih r2)
section
variable {X : Cx} {e : Expr} {te : TE} {lo hi : Option Expr} {tl th : TO} {pos p2 : Pos}
theorem po_none : PO X none tNoPart := by
  intro pins s σ H Q I h
  rw [evalPart_none]
  exact wpAny_pure ⟨none, H, I, .none, h⟩
theorem po_some (h : PE X e te) : PO X (some e) (tPart te) := by
  intro pins s σ H Q I hw
  rw [evalPart_some]
  refine thn (h pins s σ H _ I hw) fun u s1 ⟨x, H1, I1, r1, q1⟩ => ?_
  obtain ⟨i, rfl, q⟩ := q1
  obtain ⟨t, rfl⟩ := r1
  exact ⟨some i, H1, I1, .int i t, q⟩
def SlR (X : Cx) (r : V → Option Int → Option Int → Hp → VK → Prop) : Prop :=
  ∀ (pins : List (Addr × Obj)) (s : Shared) (σ : St) (H : Hp) (x : V) (v vl vu : Value) (lo hi : Option Int) (sl : Addr) (Q : VK), Inv X pins σ H s → RelV x v → s.heap.IsSliceOf sl vl vu .none → IsPart vl lo → IsPart vu hi → r x lo hi H Q →
    ∃ T id, typeLookup (.type T) "__getitem__" = pure (some (.builtin id)) ∧ s.TypeIs v T ∧ wpAny (model X.prog X.w) X.A (getItem v (.ref sl)) (EP X pins σ Q) X.xe s
theorem SlR.or {r r' : V → Option Int → Option Int → Hp → VK → Prop} (h : SlR X r) (h' : SlR X r') : SlR X (fun x lo hi H Q => r x lo hi H Q ∨ r' x lo hi H Q) := by
  intro pins s σ H x v vl vu lo hi sl Q I rx hs pl pu q
  rcases q with q | q
  · exact h pins s σ H x v vl vu lo hi sl Q I rx hs pl pu q
  · exact h' pins s σ H x v vl vu lo hi sl Q I rx hs pl pu q
def tSl (r : V → Option Int → Option Int → Hp → VK → Prop) (te : TE) (tl th : TO) : TE := fun σ H Q => te σ H fun x H1 => tl σ H1 fun l H2 => th σ H2 fun u H3 => r x l u H3 Q
theorem pe_slice {r : V → Option Int → Option Int → Hp → VK → Prop} (hr : SlR X r) (he : PE X e te) (hl : PO X lo tl) (hu : PO X hi th) : PE X (.Subscript e (.Slice lo hi none p2) pos) (tSl r te tl th) := by
  intro pins s σ H Q I h
  refine Subscript_ (thn (he pins s σ H _ I h) fun v s1 ⟨x, H1, I1, r1, q1⟩ => ?_)
  refine wpAny_Slice (thn (hl pins s1 σ H1 _ I1 q1) fun vl s2 ⟨l, H2, I2, pl, q2⟩ => thn (hu pins s2 σ H2 _ I2 q2) fun vu s3 ⟨u, H3, I3, pu, q3⟩ => ?_)
  rw [evalPart_none]
  refine wpAny_pure ?_
  have I4 : Inv X pins σ H3 { s3 with heap := s3.heap.push { cls := .type "slice", data := .fields #[vl, vu, .none] } } := I3.kept (t' := s3.toks) fun b ob q => Heap.get?_push_of_some _ q
  obtain ⟨T, id, hT, ht, hg⟩ := hr pins { s3 with heap := s3.heap.push { cls := .type "slice", data := .fields #[vl, vu, .none] } } σ H3 x v vl vu l u s3.heap.objs.size Q I4 r1 (Heap.IsSliceOf.new ..) pl pu q3
  show wpAny (model X.prog X.w) X.A (subscriptTail e (.Slice lo hi none p2) v (.ref s3.heap.objs.size)) (EP X pins σ Q) X.xe { s3 with heap := s3.heap.push { cls := .type "slice", data := .fields #[vl, vu, .none] } }
  exact tail_any (ops := [.ref s3.heap.objs.size, v]) ht hT hg (by with_unfolding_all rfl)
def cutV (xs : List V) (lo hi : Option Int) : List V := (xs.drop (HT.sIx xs.length 0 lo)).take (HT.sIx xs.length xs.length hi - HT.sIx xs.length 0 lo)
theorem cutV_length (xs : List V) (lo hi : Option Int) : (cutV xs lo hi).length ≤ xs.length := by
  unfold cutV
  rw [List.length_take, List.length_drop]
  omega
def rSlT (K : PySem.W.Frag) : V → Option Int → Option Int → Hp → VK → Prop := fun x lo hi H Q => ∃ a xs, x = .ref a ∧ SqT K H a xs ∧
  ¬ (HT.sIx xs.length 0 lo = 0 ∧ HT.sIx xs.length xs.length hi = xs.length) ∧ ∀ p, H p = none → Q (.ref p) (upd H p (.tup (cutV xs lo hi)))
theorem sl_tup : SlR X (rSlT X.K) := by
  intro pins s σ H x v vl vu lo hi sl Q I rx hs pl pu h
  obtain ⟨a, xs, rfl, hx, hw, q⟩ := h
  cases rx
  obtain ⟨its, r, ht, hz⟩ := I.tuple hx
  have hlen : its.toArray.size = xs.length := by rw [List.size_toArray]; exact r.length.symm
  refine ⟨"tuple", _, PyProof.Rows.slot_tuple_getitem.lookup, ht.typeIs, ?_⟩
  refine HT.getItem_tuple_cut ht hs pl pu (by rw [hlen]; exact hw) ?_ (by rw [hlen]; exact hz)
  rw [hlen]
  refine ⟨.ref s.heap.objs.size, _, I.laid (t' := s.toks) (o := .tup (cutV xs lo hi)) (fun b ob q => Heap.get?_push_of_some _ q) (Nat.le_refl _) ?_, rfl, q _ (I.hok.fresh (Nat.le_refl _))⟩
  exact ⟨Nat.le_trans (cutV_length xs lo hi) hz, _, (r.drop (HT.sIx xs.length 0 lo)).take (HT.sIx xs.length xs.length hi - HT.sIx xs.length 0 lo), IsTup.new _ _⟩
def rCatT (K : PySem.W.Frag) : R2 := fun x y H Q => ∃ a b xs ys, x = .ref a ∧ y = .ref b ∧ SqT K H a xs ∧ SqT K H b ys ∧ xs ≠ [] ∧ xs.length + ys.length ≤ sizeLine ∧
  (ys = [] → Q (.ref a) H) ∧ (ys ≠ [] → ∀ p, H p = none → Q (.ref p) (upd H p (.tup (xs ++ ys))))
theorem Vals.nil_iff {xs : List V} {us : List Value} (r : Vals xs us) : us = [] ↔ xs = [] := by
  cases r with
  | nil => simp
  | cons _ _ => simp
theorem op_catT : OpR X (binaryOp .Add) (rCatT X.K) := by
  intro pins s σ H x y v u Q I rx ry h
  obtain ⟨a, b, xs, ys, rfl, rfl, ha, hb, hx, hz, q1, q2⟩ := h
  cases rx
  cases ry
  obtain ⟨its, r1, p1, _⟩ := I.tuple ha
  obtain ⟨its2, r2, p2, _⟩ := I.tuple hb
  refine HT.cat_tup p1 p2 (fun z => hx (r1.nil_iff.mp z)) (fun z => ⟨.ref a, H, I, rfl, q1 (r2.nil_iff.mp z)⟩) (fun z => ?_) (by rw [← r1.length, ← r2.length]; exact hz)
  refine ⟨.ref s.heap.objs.size, _, I.laid (t' := s.toks) (o := .tup (xs ++ ys)) (fun b ob q => Heap.get?_push_of_some _ q) (Nat.le_refl _) ?_, rfl, q2 (fun w => z (r2.nil_iff.mpr w)) _ (I.hok.fresh (Nat.le_refl _))⟩
  exact ⟨by rw [List.length_append]; exact hz, _, r1.append r2, IsTup.new _ _⟩
end
end L2
namespace L2
open PySem PySem.Spec PyProof.Rows
def ixN (n : Nat) (i : Int) : Option Nat := if 0 ≤ i then (if i < n then some i.toNat else none) else if -(n : Int) ≤ i then some (i + n).toNat else none
def atI {α : Type} (xs : List α) (i : Int) : Option α := (ixN xs.length i).bind fun j => xs[j]?
theorem ixN_seq {n : Nat} {i : Int} {j : Nat} (h : ixN n i = some j) : seqIndex? i n = some j ∧ j < n ∧ -(n : Int) ≤ i ∧ i < n := by
  unfold ixN at h
  by_cases h0 : 0 ≤ i
  · rw [if_pos h0] at h
    by_cases h1 : i < n
    · rw [if_pos h1] at h
      have e : i.toNat = j := Option.some.inj h
      exact ⟨by rw [seqIndex_of h0 h1, e], by omega, by omega, h1⟩
    · rw [if_neg h1] at h; cases h
  · rw [if_neg h0] at h
    by_cases h1 : -(n : Int) ≤ i
    · rw [if_pos h1] at h
      have e : (i + n).toNat = j := Option.some.inj h
      exact ⟨by rw [seqIndex_neg (by omega) h1, e], by omega, h1, by omega⟩
    · rw [if_neg h1] at h; cases h
theorem atI_get {α : Type} {xs : List α} {i : Int} {v : α} (h : atI xs i = some v) : ∃ j, seqIndex? i xs.length = some j ∧ xs[j]? = some v ∧ j < xs.length ∧ -(xs.length : Int) ≤ i ∧ i < xs.length := by
  unfold atI at h
  cases e : ixN xs.length i with
  | none => rw [e] at h; cases h
  | some j =>
    rw [e] at h
    obtain ⟨h1, h2, h3, h4⟩ := ixN_seq e
    exact ⟨j, h1, h, h2, h3, h4⟩
theorem atI_nat {α : Type} {xs : List α} {j : Nat} {v : α} (h : xs[j]? = some v) : atI xs (j : Int) = some v := by
  have hj : j < xs.length := (List.getElem?_eq_some_iff.mp h).1
  have e : ixN xs.length (j : Int) = some j := by
    unfold ixN
    rw [if_pos (by omega), if_pos (by omega)]; simp
  unfold atI; rw [e]; exact h
def PlainIx (b : Expr) : Prop := ∀ o i, subscripted b false o i = operate [o, i] (getItem o i)
def IxR (X : Cx) (r : R2) : Prop :=
  ∀ (value slice : Expr) (pins : List (Addr × Obj)) (s : Shared) (σ : St) (H : Hp) (x y : V) (v u : Value) (Q : VK), Inv X pins σ H s → RelV x v → RelV y u → r x y H Q →
    subscripted slice false v u = operate [v, u] (getItem v u) → wpAny (model X.prog X.w) X.A (subscriptTail value slice v u) (EP X pins σ Q) X.xe s
def MtR (X : Cx) (id : String) (r : V → List V → Hp → VK → Prop) : Prop :=
  ∀ (pins : List (Addr × Obj)) (s : Shared) (σ : St) (H : Hp) (x : V) (xs : List V) (v : Value) (us : List Value) (Q : VK), Inv X pins σ H s → RelV x v → Vals xs us → r x xs H Q →
    wpAny (model X.prog X.w) X.A (call (.builtin id) (v :: us)) (EP X pins σ Q) X.xe s
section
variable {X : Cx} {a b : Expr} {ta tb : TE} {pos : Pos}
theorem IxR.or {r r' : R2} (h : IxR X r) (h' : IxR X r') : IxR X (fun x y H Q => r x y H Q ∨ r' x y H Q) := by
  intro value slice pins s σ H x y v u Q I rx ry q hs
  rcases q with q | q
  · exact h value slice pins s σ H x y v u Q I rx ry q hs
  · exact h' value slice pins s σ H x y v u Q I rx ry q hs
theorem MtR.or {id : String} {r r' : V → List V → Hp → VK → Prop} (h : MtR X id r) (h' : MtR X id r') : MtR X id (fun x xs H Q => r x xs H Q ∨ r' x xs H Q) := by
  intro pins s σ H x xs v us Q I rx rs q
  rcases q with q | q
  · exact h pins s σ H x xs v us Q I rx rs q
  · exact h' pins s σ H x xs v us Q I rx rs q
theorem pe_ix {r : R2} (hr : IxR X r) (ha : PE X a ta) (hb : PE X b tb) (hs : PlainIx b) : PE X (.Subscript a b pos) (tOp r ta tb) := by
  intro pins s σ H Q I h
  exact Subscript_ (binT ha hb I h fun v u s2 x y H2 I2 rx ry q => hr a b pins s2 σ H2 x y v u Q I2 rx ry q (hs _ _))
def rIxL (K : PySem.W.Frag) : R2 := fun x y H Q => ∃ p xs i v, x = .ref p ∧ y = .int i ∧ SqL K H p xs ∧ atI xs i = some v ∧ Q v H
def rIxT (K : PySem.W.Frag) : R2 := fun x y H Q => ∃ p xs i v, x = .ref p ∧ y = .int i ∧ SqT K H p xs ∧ atI xs i = some v ∧ Q v H
def rIxS : R2 := fun x y H Q => ∃ z i c, x = .str z ∧ y = .int i ∧ z.length ≤ sizeLine ∧ atI z.cps.toList i = some c ∧ Q (.str ⟨#[c]⟩) H
theorem ix_list : IxR X (rIxL X.K) := by
  intro value slice pins s σ H x y v u Q I rx ry h hs
  obtain ⟨p, xs, i, z, rfl, rfl, hq, he, q⟩ := h
  cases rx
  obtain ⟨t, rfl⟩ := ry
  obtain ⟨its, r, pl, hz⟩ := I.list hq
  obtain ⟨j, h1, h2, h3, h4, h5⟩ := atI_get he
  obtain ⟨w, ew, rw'⟩ := r.get h2
  have hl := r.length
  have hn := line63
  have fin : EP X pins σ Q w s := ⟨z, H, I, rw', q⟩
  by_cases h0 : 0 ≤ i
  · have hj : i.toNat = j := by
      rw [seqIndex_of h0 h5] at h1
      exact Option.some.inj h1
    exact item_listR pl.isList h0 (by omega) (by rw [hj]; simpa using ew) fin hs
  · have hj : (i + (its.toArray.size : Int)).toNat = j := by
      rw [seqIndex_neg (by omega) h4] at h1
      rw [List.size_toArray, ← hl]
      exact Option.some.inj h1
    exact subscriptTail_builtinR (x := w) pl.isList.typeIs slot_list_getitem.lookup
      (wpAny_getItem_list_neg (Q := fun r s' => r = w ∧ EP X pins σ Q r s') pl.isList (by omega) (by rw [List.size_toArray] <;> omega) (by omega) (by rw [hj]; simpa using ew) ⟨rfl, fin⟩) hs
theorem ix_tup : IxR X (rIxT X.K) := by
  intro value slice pins s σ H x y v u Q I rx ry h hs
  obtain ⟨p, xs, i, z, rfl, rfl, hq, he, q⟩ := h
  cases rx
  obtain ⟨t, rfl⟩ := ry
  obtain ⟨its, r, pl, hz⟩ := I.tuple hq
  obtain ⟨j, h1, h2, h3, h4, h5⟩ := atI_get he
  obtain ⟨w, ew, rw'⟩ := r.get h2
  have hl := r.length
  have hn := line63
  have fin : EP X pins σ Q w s := ⟨z, H, I, rw', q⟩
  exact subscriptTail_builtinR (x := w) pl.typeIs slot_tuple_getitem.lookup
    (getItem_tuple (j := j) (Q := fun r s' => r = w ∧ EP X pins σ Q r s') pl (by omega) (by omega) (by rw [List.size_toArray, ← hl]; exact h1) (by simpa using ew) ⟨rfl, fin⟩) hs
theorem ix_str : IxR X rIxS := by
  intro value slice pins s σ H x y v u Q I rx ry h hs
  obtain ⟨z, i, c, rfl, rfl, hz, he, q⟩ := h
  obtain ⟨t, rfl⟩ := rx
  obtain ⟨t', rfl⟩ := ry
  obtain ⟨j, h1, h2, h3, h4, h5⟩ := atI_get he
  have hl : z.cps.toList.length = z.length := by simp [Str.length]
  rw [hl] at h1 h4 h5
  have hn := line63
  exact tail_any (typeIs_str s z t) slot_str_getitem.lookup (getItem_str (c := c) (by
    have e1 : decide (i < -(2 ^ 63 : Int)) = false := decide_eq_false (by omega)
    have e2 : decide (i ≥ 2 ^ 63) = false := decide_eq_false (by omega)
    rw [e1, e2, Bool.or_false]) (by rw [h1]; simpa using h2) ⟨.str ⟨#[c]⟩, H, I.tok _, ⟨_, rfl⟩, q⟩) hs
def rIx (K : PySem.W.Frag) : R2 := fun x y H Q => rIxL K x y H Q ∨ rIxT K x y H Q ∨ rIxS x y H Q
theorem ix_seq : IxR X (rIx X.K) := ix_list.or (ix_tup.or ix_str)
theorem Inv.lst {pins : List (Addr × Obj)} {σ : St} {H : Hp} {s : Shared} {p : Addr} {xs : List V} (I : Inv X pins σ H s) (h : H p = some (.lst xs)) :
    ∃ (its : List Value) (n : Nat), Vals xs its ∧ s.heap.get? p = some { cls := .type "list", data := .seq its.toArray n } ∧ xs.length ≤ sizeLine := by
  obtain ⟨z, its, n, r, e⟩ := I.hok p _ h
  exact ⟨its, n, r, e, z⟩
theorem slice_bounds (lo hi : Option Int) (n : Nat) : (sliceBounds lo hi none n).1 = ((HT.sIx n 0 lo : Nat) : Int) ∧ (sliceBounds lo hi none n).2.1 = ((HT.sIx n n hi : Nat) : Int) ∧ (sliceBounds lo hi none n).2.2 = 1 := by
  refine ⟨?_, ?_, rfl⟩
  · cases lo with
    | none => simp [sliceBounds, HT.sIx]
    | some i =>
      simp only [sliceBounds, HT.sIx, Option.getD_none, show (1 : Int) > 0 by decide, if_true]
      by_cases h : i < 0
      · simp only [h, if_true] <;> omega
      · simp only [h, if_false] <;> omega
  · cases hi with
    | none => simp [sliceBounds, HT.sIx]
    | some i =>
      simp only [sliceBounds, HT.sIx, Option.getD_none, show (1 : Int) > 0 by decide, if_true]
      by_cases h : i < 0
      · simp only [h, if_true] <;> omega
      · simp only [h, if_false] <;> omega
theorem slicePick_cut (its : List Value) (lo hi : Option Int) : slicePick its.toArray lo hi none = ((its.drop (HT.sIx its.length 0 lo)).take (HT.sIx its.length its.length hi - HT.sIx its.length 0 lo)).toArray := by
  obtain ⟨h1, h2, h3⟩ := slice_bounds lo hi its.toArray.size
  unfold slicePick
  rw [h1, h2, h3]
  simp only [sliceRange_one, pick_run, List.size_toArray] <;> rfl
def rSlL (K : PySem.W.Frag) : V → Option Int → Option Int → Hp → VK → Prop := fun x lo hi H Q => ∃ a xs, x = .ref a ∧ SqL K H a xs ∧ ∀ p, H p = none → Q (.ref p) (upd H p (.lst (cutV xs lo hi)))
theorem sl_list : SlR X (rSlL X.K) := by
  intro pins s σ H x v vl vu lo hi sl Q I rx hs pl pu h
  obtain ⟨a, xs, rfl, hx, q⟩ := h
  cases rx
  obtain ⟨its, r, ht, hz⟩ := I.list hx
  have hlen := r.length
  refine ⟨"list", _, slot_list_getitem.lookup, ht.isList.typeIs, ?_⟩
  refine wpAny_getItem_list_slice ht.isList hs pl pu .none (by simp) ?_ (by rw [List.size_toArray] <;> omega)
  rw [slicePick_cut, ← hlen]
  refine ⟨.ref s.heap.objs.size, _, I.laid (t' := s.toks) (o := .lst (cutV xs lo hi)) (fun b ob q => Heap.get?_push_of_some _ q) (Nat.le_refl _) ?_, rfl, q _ (I.hok.fresh (Nat.le_refl _))⟩
  exact ⟨Nat.le_trans (cutV_length xs lo hi) hz, _, 0, (r.drop (HT.sIx xs.length 0 lo)).take (HT.sIx xs.length xs.length hi - HT.sIx xs.length 0 lo), Heap.get?_push_size _ rfl⟩
theorem call_len_seq : CallR X (.builtin "len") (fun xs H Q => ∃ p ys, xs = [.ref p] ∧ (SqL X.K H p ys ∨ SqT X.K H p ys) ∧ Q (.int ys.length) H) := by
  intro pins s σ H xs us Q I r h
  obtain ⟨p, ys, rfl, hq, q⟩ := h
  obtain ⟨u, rfl, rx⟩ := vals1 r
  cases rx
  have hn := line63
  rcases hq with hq | hq
  · obtain ⟨its, r', pl, hz⟩ := I.list hq
    have hlen := r'.length
    exact Calls.call_len_list pl.isList (by simp only [List.size_toArray] <;> omega) ⟨.int ys.length, H, I.tok _, ⟨s.toks + 1, by rw [List.size_toArray, hlen]⟩, q⟩
  · obtain ⟨its, r', pl, hz⟩ := I.tuple hq
    have hlen := r'.length
    exact len_tuple pl (by simp only [List.size_toArray] <;> omega) ⟨.int ys.length, H, I.tok _, ⟨s.toks + 1, by rw [List.size_toArray, hlen]⟩, q⟩
theorem CallR.or {f : Value} {r r' : List V → Hp → VK → Prop} (h : CallR X f r) (h' : CallR X f r') : CallR X f (fun xs H Q => r xs H Q ∨ r' xs H Q) := by
  intro pins s σ H xs us Q I rs q
  rcases q with q | q
  · exact h pins s σ H xs us Q I rs q
  · exact h' pins s σ H xs us Q I rs q
theorem call_list_of : CallR X (.type "list") (fun xs H Q => ∃ p ys, xs = [.ref p] ∧ (SqL X.K H p ys ∨ SqT X.K H p ys) ∧ ∀ l, H l = none → Q (.ref l) (upd H l (.lst ys))) := by
  intro pins s σ H xs us Q I r h
  obtain ⟨p, ys, rfl, hq, q⟩ := h
  obtain ⟨u, rfl, rx⟩ := vals1 r
  cases rx
  have fin : ∀ (its : List Value), Vals ys its → ys.length ≤ sizeLine → ∀ (h' : Heap) (c' : Nat), (∀ b o', s.heap.get? b = some o' → h'.get? b = some o') →
      h'.get? s.heap.objs.size = some { cls := .type "list", dict := none, data := .seq its.toArray c', slots := #[] } → EP X pins σ Q (.ref s.heap.objs.size) { s with heap := h' } := fun its r' hz h' c' kp e =>
    ⟨.ref s.heap.objs.size, _, I.laid (t' := s.toks) kp (Nat.le_refl _) (show ObjOk X.prog X.w _ h' _ (.lst ys) from ⟨hz, its, c', r', e⟩), rfl, q _ (I.hok.fresh (Nat.le_refl _))⟩
  rcases hq with hq | hq
  · obtain ⟨its, r', pl, hz⟩ := I.list hq
    have hlen := r'.length
    obtain ⟨o, ho, hc, n, hd⟩ := pl.isList
    exact call_list_seq p (.inl rfl) ho hc hd (fun h' c' kp e => fin its r' hz h' c' kp e) (by simp only [List.size_toArray] <;> omega)
  · obtain ⟨its, r', pl, hz⟩ := I.tuple hq
    have hlen := r'.length
    obtain ⟨o, ho, hc, n, hd⟩ := pl
    exact call_list_seq p (.inr rfl) ho hc hd (fun h' c' kp e => fin its r' hz h' c' kp e) (by simp only [List.size_toArray] <;> omega)
theorem call_tuple_of : CallR X (.type "tuple") (fun xs H Q => ∃ p ys, xs = [.ref p] ∧ ((SqL X.K H p ys ∧ ∀ l, H l = none → Q (.ref l) (upd H l (.tup ys))) ∨ (SqT X.K H p ys ∧ Q (.ref p) H))) := by
  intro pins s σ H xs us Q I r h
  obtain ⟨p, ys, rfl, h⟩ := h
  obtain ⟨u, rfl, rx⟩ := vals1 r
  cases rx
  rcases h with ⟨hq, q⟩ | ⟨hq, q⟩
  · obtain ⟨its, r', pl, hz⟩ := I.list hq
    have hlen := r'.length
    refine call_tuple_list pl.isList (fun h' kp => ?_) (by simp only [List.size_toArray] <;> omega)
    have I1 : Inv X pins σ H { s with heap := h' } := I.kept (t' := s.toks) kp
    have I2 : Inv X pins σ (upd H h'.objs.size (.tup ys)) { s with heap := h'.push { cls := .type "tuple", data := .seq its.toArray } } :=
      I1.laid (t' := s.toks) (fun b o e => Heap.get?_push_of_some _ e) (Nat.le_refl _) (show ObjOk X.prog X.w _ _ _ (.tup ys) from ⟨hz, its, r', IsTup.new _ _⟩)
    exact ⟨.ref h'.objs.size, _, I2, rfl, q _ (I1.hok.fresh (Nat.le_refl _))⟩
  · obtain ⟨its, r', pl, hz⟩ := I.tuple hq
    exact call_tuple_same pl ⟨.ref p, H, I, rfl, q⟩
def tyV (K : PySem.W.Frag) (T : String) (x : V) (H : Hp) : Prop := match x with
  | .str _ => T = "str"
  | .int _ => T = "int"
  | .ref p => (T = "list" ∧ ∃ xs, SqL K H p xs) ∨ (T = "tuple" ∧ ∃ o, K.lookup p = some o ∧ o.cls = .type "tuple" ∧ o.dict = none) ∨
      (T = "dict" ∧ ((∃ kvs, H p = some (.dK kvs)) ∨ ∃ kvs, H p = some (.dT kvs))) ∨ (T = "set" ∧ ∃ S n, H p = some (.set S n))
  | _ => False
theorem tyV_is {pins : List (Addr × Obj)} {σ : St} {H : Hp} {s : Shared} {T : String} {x : V} {v : Value} (I : Inv X pins σ H s) (r : RelV x v) (ty : tyV X.K T x H) :
    s.TypeIs v T ∧ ∀ a, v = .ref a → ∃ ob, s.heap.get? a = some ob ∧ ob.dict = none := by
  cases x with
  | str z =>
    obtain ⟨t, rfl⟩ := r
    cases (show T = "str" from ty)
    exact ⟨typeIs_str s z t, fun _ e => nomatch e⟩
  | int i =>
    obtain ⟨t, rfl⟩ := r
    cases (show T = "int" from ty)
    exact ⟨typeIs_int s i t, fun _ e => nomatch e⟩
  | ref p =>
    cases r
    rcases ty with ⟨rfl, xs, hq⟩ | ⟨rfl, o, hk, hc, hd⟩ | ⟨rfl, hk⟩ | ⟨rfl, S, n, hk⟩
    · obtain ⟨its, _, pl, _⟩ := I.list hq
      refine ⟨pl.isList.typeIs, fun a e => ?_⟩
      cases e
      obtain ⟨o, n, e, c, hd, _⟩ := pl
      exact ⟨o, e, hd⟩
    · refine ⟨⟨o, I.kIn p o hk, hc⟩, fun a e => ?_⟩
      cases e
      exact ⟨o, I.kIn _ o hk, hd⟩
    · have z : ∃ o, s.heap.get? p = some o ∧ o.ExactDict := by
        rcases hk with ⟨kvs, hk⟩ | ⟨kvs, hk⟩
        · obtain ⟨_, _, _, _, o, _, _, e, ex, _⟩ := I.hok p _ hk
          exact ⟨o, e, ex⟩
        · obtain ⟨_, _, _, _, o, _, _, e, ex, _⟩ := I.hok p _ hk
          exact ⟨o, e, ex⟩
      obtain ⟨o, e, ex⟩ := z
      refine ⟨⟨o, e, ex.1⟩, fun a e2 => ?_⟩
      cases e2
      exact ⟨o, e, ex.2.1⟩
    · obtain ⟨o, _, _, _, e, ex, _⟩ := I.hok p _ hk
      refine ⟨⟨o, e, ex.1⟩, fun a e2 => ?_⟩
      cases e2
      exact ⟨o, e, ex.2.1⟩
  | _ => exact False.elim ty
def tBM (K : PySem.W.Frag) (T : String) (r : V → List V → Hp → VK → Prop) (to : TE) (t : TA) : TE := fun σ H Q => to σ H fun x H1 => tyV K T x H1 ∧ t σ H1 fun xs H2 => r x xs H2 Q
variable {o e : Expr} {es : List Expr} {to : TE} {t : TA} {name : Str} {apos cpos : Pos} {T id : String} {r : V → List V → Hp → VK → Prop}
theorem pe_bm (pa : PlainAttrs T) (slot : Slot T name id) (hty : typeOf (.builtin id) = pure (.type "method_descriptor")) (hm : MtR X id r) (ho : PE X o to) (ha : PA X (e :: es) t)
    (hbase : attributeBase o name X.env (eval o X.env) = eval o X.env := by rfl)
    (hfew : ((backTo cpos (starEach (e :: es) X.env)).all (fun x => !x.1) && (backToKw cpos (keywordEach [] X.env)).all (fun x => x.1.isSome)
      && decide ((e :: es).length + ([] : List Keyword).length + (if ([] : List Keyword).isEmpty then 0 else 1) < 30)) = true := by rfl)
    (hline : (apos.endLine == cpos.line) = true := by rfl) (hs : starEach (e :: es) X.env = (false, eval e X.env) :: starEach es X.env := by rfl) (hplain : (backTo cpos (starEach es X.env)).any (·.1) = false := by rfl) :
    PE X (.Call (.Attribute o name apos) (e :: es) [] cpos) (tBM X.K T r to t) := by
  intro pins s σ H Q I h
  refine wpAny_Call_method_late hbase hfew hline rfl (thn (ho pins s σ H _ I h) fun v s1 ⟨x, H1, I1, r1, ty, q1⟩ => ?_)
  obtain ⟨h1, h2⟩ := tyV_is I1 r1 ty
  refine ⟨T, id, pa, slot, hty, h1, h2, ?_⟩
  have hA := ha cpos pins s1 σ H1 _ I1 q1
  rw [hs] at hA ⊢
  refine Calls.callWith_builtin (by show (false || (backTo cpos (starEach es X.env)).any (·.1)) = false; rw [hplain] <;> rfl) (Calls.evalArgs_plain ?_)
  exact thn hA fun us s2 ⟨vs, H2, I2, r2, q2⟩ => hm pins s2 σ H2 x vs v us Q I2 r1 r2 q2
end
end L2
namespace L2
open PySem PySem.Spec PyProof.Rows
def MtM (X : Cx) (id : String) (r : V → List V → Hp → VK → Prop) : Prop :=
  ∀ (pins : List (Addr × Obj)) (s : Shared) (σ : St) (H : Hp) (x : V) (xs : List V) (v : Value) (us : List Value) (Q : VK), Inv X pins σ H s → RelV x v → Vals xs us → r x xs H Q →
    wpAny (model X.prog X.w) X.A (call (.builtin id) (v :: us)) (EP X pins σ Q) X.xe s
theorem Vals.one : ∀ {x : V} {us : List Value}, Vals [x] us → ∃ u, us = [u] ∧ RelV x u
  | _, _, .cons r .nil => ⟨_, rfl, r⟩
theorem Vals.two : ∀ {x y : V} {us : List Value}, Vals [x, y] us → ∃ u v, us = [u, v] ∧ RelV x u ∧ RelV y v
  | _, _, _, .cons r (.cons q .nil) => ⟨_, _, rfl, r, q⟩
theorem Vals.zero : ∀ {us : List Value}, Vals [] us → us = []
  | _, .nil => rfl
theorem Vals.dropLast {xs : List V} {us : List Value} (h : Vals xs us) : Vals xs.dropLast us.dropLast := by
  induction h with
  | nil => exact .nil
  | cons r t ih =>
    cases t with
    | nil => exact .nil
    | cons q t' => exact .cons r ih
theorem Vals.eraseIdx : ∀ {xs : List V} {us : List Value} (i : Nat), Vals xs us → Vals (xs.eraseIdx i) (us.eraseIdx i)
  | _, _, _, .nil => .nil
  | _, _, 0, .cons _ t => t
  | _, _, i + 1, .cons r t => .cons r (Vals.eraseIdx i t)
theorem Vals.rep {xs : List V} {us : List Value} (h : Vals xs us) : ∀ k : Nat, Vals (List.replicate k xs).flatten (List.replicate k us).flatten
  | 0 => .nil
  | k + 1 => by
    rw [List.replicate_succ, List.replicate_succ, List.flatten_cons, List.flatten_cons]
    exact Vals.append h (Vals.rep h k)
theorem len_erase {α : Type} : ∀ (l : List α) (i : Nat), (l.eraseIdx i).length ≤ l.length
  | [], _ => Nat.le_refl _
  | _ :: _, 0 => Nat.le_succ _
  | _ :: r, i + 1 => Nat.succ_le_succ (len_erase r i)
section
variable {X : Cx} {pins : List (Addr × Obj)} {σ : St} {H : Hp} {s : Shared} {l b : Addr} {xs ys zs : List V}
theorem Inv.lset {its its' : List Value} {n : Nat} {f : Array Value → Array Value} {t' : Nat} (I : Inv X pins σ H s) (hH : H l = some (.lst xs))
    (e : s.heap.get? l = some { cls := .type "list", data := .seq its.toArray n }) (hf : f its.toArray = its'.toArray) (hv : Vals ys its') (hz : ys.length ≤ sizeLine) :
    Inv X pins σ (upd H l (.lst ys)) { s with heap := s.heap.update l (Obj.mapSeq f), toks := t' } := by
  have q := PySem.IsL.update e f
  rw [hf] at q
  refine I.write (x := l) (e := l) (by rw [hH]; exact trivial) (.inl rfl) (fun b' u hb hu => (Heap.get?_update_other s.heap (Obj.mapSeq f) (Ne.symm hb)).trans hu) ⟨_, q⟩ ?_
  exact ⟨hz, its', _, hv, q⟩
theorem Inv.lnew {its : List Value} {t' : Nat} (I : Inv X pins σ H s) (hv : Vals ys its) (hz : ys.length ≤ sizeLine) :
    Inv X pins σ (upd H s.heap.objs.size (.lst ys)) { s with heap := s.heap.push { cls := .type "list", data := .seq its.toArray }, toks := t' } :=
  I.laid (fun _ _ q => Heap.get?_push_of_some _ q) (Nat.le_refl _) ⟨hz, its, 0, hv, Heap.get?_push_size _ rfl⟩
theorem Inv.fresh (I : Inv X pins σ H s) : H s.heap.objs.size = none := I.hok.fresh (Nat.le_refl _)
theorem Inv.lstM (I : Inv X pins σ H s) (hH : H l = some (.lst xs)) : xs.length ≤ sizeLine ∧ ∃ (its : List Value) (n : Nat), Vals xs its ∧ xs.length = its.length ∧ s.heap.get? l = some { cls := .type "list", data := .seq its.toArray n } := by
  obtain ⟨z, its, n, r, e⟩ := I.hok l _ hH
  exact ⟨z, its, n, r, r.length, e⟩
theorem notLongL {n : Nat} (h : n ≤ sizeLine) : Builtin.List.listTooLong n = false := by
  unfold Builtin.List.listTooLong
  exact decide_eq_false (by omega)
end
section
variable {X : Cx}
def rAppend : V → List V → Hp → VK → Prop := fun x vs H Q => ∃ l xs y, x = .ref l ∧ vs = [y] ∧ H l = some (.lst xs) ∧ xs.length < sizeLine ∧ Q .non (upd H l (.lst (xs ++ [y])))
theorem mt_append : MtM X "list.append" rAppend := by
  intro pins s σ H x vs v us Q I rx rv h
  obtain ⟨l, xs, y, rfl, rfl, hH, hz, q⟩ := h
  cases rx
  obtain ⟨u, rfl, ru⟩ := rv.one
  obtain ⟨z, its, n, r, hl, e⟩ := I.lstM hH
  refine call_meets F.slot_list_append ⟨_, e, rfl⟩ F.entry_list_append (F.args_list_append_2 _ _) (PySem.list_append l its.toArray n u (by rw [List.size_toArray]; omega)) ⟨e, ?_⟩
  refine ⟨.non, _, I.lset (its' := its ++ [u]) hH e (by simp) (r.append (.cons ru .nil)) ?_, rfl, q⟩
  rw [List.length_append, List.length_singleton]
  omega
def rExtend : V → List V → Hp → VK → Prop := fun x vs H Q => ∃ l b xs zs, x = .ref l ∧ vs = [.ref b] ∧ H l = some (.lst xs) ∧ H b = some (.lst zs) ∧ xs.length + zs.length ≤ sizeLine ∧ Q .non (upd H l (.lst (xs ++ zs)))
theorem mt_extend : MtM X "list.extend" rExtend := by
  intro pins s σ H x vs v us Q I rx rv h
  obtain ⟨l, b, xs, zs, rfl, rfl, hH, hB, hz, q⟩ := h
  cases rx
  obtain ⟨u, rfl, ru⟩ := rv.one
  cases ru
  obtain ⟨z, its, n, r, hl, e⟩ := I.lstM hH
  obtain ⟨z2, its2, n2, r2, hl2, e2⟩ := I.lstM hB
  have hsz : its.toArray.size + its2.toArray.size ≤ sizeLine := by rw [List.size_toArray, List.size_toArray]; omega
  have hlong : ¬ (!its.toArray.isEmpty && Builtin.List.listTooLong (its.toArray.size + its2.toArray.size)) = true := by
    rw [notLongL hsz, Bool.and_false]
    exact Bool.false_ne_true
  refine call_meets F.slot_list_extend ⟨_, e, rfl⟩ F.entry_list_extend (F.args_list_extend_2 _ _)
    (AutoSeq1.list_extend_list_list_0 l its.toArray n b its2.toArray n2 hlong (by rw [List.size_toArray]; omega) (by omega)) ⟨e, e2, ?_⟩
  refine ⟨.non, _, I.lset (its' := its ++ its2) hH e (by simp) (r.append r2) ?_, rfl, q⟩
  rw [List.length_append]
  omega
def rPopAt : V → List V → Hp → VK → Prop := fun x vs H Q => ∃ l xs i k y, x = .ref l ∧ vs = [.int i] ∧ H l = some (.lst xs) ∧ -(2 ^ 63) ≤ i ∧ i < 2 ^ 63 ∧ seqIndex? i xs.length = some k ∧ xs[k]? = some y ∧ Q y (upd H l (.lst (xs.eraseIdx k)))
theorem mt_popAt : MtM X "list.pop" rPopAt := by
  intro pins s σ H x vs v us Q I rx rv h
  obtain ⟨l, xs, i, k, y, rfl, rfl, hH, h1, h2, hk, hy, q⟩ := h
  cases rx
  obtain ⟨u, rfl, ru⟩ := rv.one
  obtain ⟨t, rfl⟩ := ru
  obtain ⟨z, its, n, r, hl, e⟩ := I.lstM hH
  obtain ⟨w, hw, rw'⟩ := r.get hy
  refine call_meets F.slot_list_pop ⟨_, e, rfl⟩ F.entry_list_pop (F.args_list_pop_2 _ _)
    (MeetsSeq.list_pop_at l its.toArray n i t k w (fitsIndex_both h1 h2) (by rw [List.size_toArray, ← hl]; exact hk) (by rw [← Array.getElem?_toList]; exact hw) (by rw [List.size_toArray]; omega)) ⟨e, ?_⟩
  refine ⟨y, _, I.lset (its' := its.eraseIdx k) hH e ?_ (r.eraseIdx k) ?_, rw', q⟩
  · show its.toArray.eraseIdxIfInBounds k = (its.eraseIdx k).toArray
    rw [List.eraseIdxIfInBounds_toArray]
  · have := len_erase xs k
    omega
end
section
variable {prog : Program} {w : World} {A : Around} {E : Value → Shared → Prop} {s : Shared}
end
section
variable {X : Cx}
end
end L2
namespace Att
open PySem PySem.W PySem.Calls PyProof.Rows
theorem ints_of_wellAll {P : Params} {h : Heap} : ∀ (ns : List Int) (vs : List Value), WellAll P h vs (ns.map WData.int) → IntsAre vs ns := by
  intro ns
  induction ns with
  | nil =>
    intro vs w
    rw [List.map_nil] at w
    cases w
    exact .nil
  | cons n ns ih =>
    intro vs w
    rw [List.map_cons] at w
    cases w with
    | cons a b =>
      cases a
      exact .cons _ _ (ih _ b)
theorem script_of {l : OpenLaw} {n : Nat} (hn : l.most = some n) {P : Params} {h : Heap} {args : List WData} {vals : List Value}
    (hpre : l.row.toRowW.claim.pre args = true) (hwl : WellAll P h vals args) :
    ∃ a vs ns, vals = [Value.ref a] ∧ args = [WData.list (ns.map WData.int)] ∧ h.get? a = some { cls := .type "list", data := .seq vs.toArray } ∧ IntsAre vs ns ∧ ns.length ≤ n := by
  have hsh : WShape.hasAll [] args [.list .int] = true := (pre_splitW hpre).1
  have hc : l.pre.holds [] { args := args } = true := (pre_splitW hpre).2
  obtain ⟨d, r, rfl, h1, h2⟩ := hasAllW_cons hsh
  obtain rfl := hasAllW_nil h2
  obtain ⟨xs, rfl, h3⟩ := hasW_list h1
  obtain ⟨ns, rfl⟩ := items_int h3
  have hlen : ns.length ≤ n := by
    unfold OpenLaw.pre at hc
    have h4 : (WTm.not (.lt (.lit (.int (n : Int))) (.len (.arg 0)))).holds [] { args := [.list (ns.map .int)] } = true := by
      have h4 := (holds_andW hc).1
      rw [hn] at h4
      exact h4
    have h5 := condW_of h4 (w_not (w_lt w_lit (w_len_list (w_arg rfl))))
    rw [List.length_map] at h5
    refine Nat.le_of_not_lt fun q => ?_
    have q' : (n : Int) < ((ns.length : Nat) : Int) := by omega
    first
      | (rw [decide_eq_true q'] at h5; exact absurd h5 (by decide))
      | (simp at h5; omega)
  cases hwl with
  | cons w1 w2 =>
    cases w2
    cases w1 with
    | list ho hall => exact ⟨_, _, ns, rfl, rfl, ho, ints_of_wellAll ns _ hall, hlen⟩
theorem post_true (l : OpenLaw) (args : List WData) : l.row.toRowW.claim.post args (.bool true) args = true :=
  postW_of (r := l.row.toRowW) (X := (true == true))
    (show WShape.has [] (.bool true) .bool = true by first | rfl | decide | simp [WShape.has, WShape.arms, WShape.armsAll])
    (show (WTm.eq .res (.lit (.bool true))).value [] { args := args, res := some (.bool true), after := args } = some (.bool (true == true)) from w_eq_bool (w_res rfl) w_lit) rfl
theorem attach_call {l : OpenLaw} {n : Nat} {q : Program} {loose : List Str} {XP : (Str → Option Value) → Heap → Prop} {YP : World → Heap → Prop} {d : DefRec}
    (hn : l.most = some n) (hdf : d.params.defaults = [])
    (call : ∀ (w : World) (s₀ s₁ : Shared) (mg mb : Str → Option Value) (fa : Addr) (o : Obj) (pm cd doc : Value) (a : Addr) (vs : List Value) (ns : List Int),
      Ground q loose [] XP w s₀ mg mb s₁.heap → YP w s₁.heap →
      s₁.heap.get? fa = some o → o.data = .func (docDef d.name d.params d.body d.scope pm cd doc) → s₁.heap.CodeRec cd d.name → mg d.name = some (.ref fa) →
      s₁.heap.get? a = some { cls := .type "list", data := .seq vs.toArray } → IntsAre vs ns → ns.length ≤ n → s₁.gens = #[] →
      codeAny (model l.prog w) callerA (.call (.ref fa) ⟨[.ref a], []⟩) (fun r s' => r = .ok (.ret (.bool true)) ∧ OldK s₁.heap s'.heap ∧ s'.os = s₁.os ∧ AllBare s'.gens) s₁) :
    WalkO q loose XP YP l.row.toRowW d [] (fun f vs => PySem.call f vs) := by
  intro w s₀ s₁ mg mb G Y fa o pm cd doc dV kV ho hd hcd hD hmg hg args vals as hpre hlay hrd hwl hlo
  obtain rfl : dV = .none := Dflts.none hD hdf
  obtain rfl : kV = .none := Dflts.noKw hD
  obtain ⟨a, vs, ns, rfl, rfl, hobj, hints, hlen⟩ := script_of hn hpre hwl
  refine enter_call (codeAny_mono (call w s₀ s₁ mg mb fa o pm cd doc a vs ns G Y ho (fd_plain hd) hcd hmg hobj hints hlen hg) fun r s' hq => ?_)
  obtain ⟨rfl, h2, h3, h4⟩ := hq
  exact ⟨.inl ⟨.bool true, .bool true, [], rfl, fun _ => rfl, .bool true, post_true l _, fun _ => ⟨List.Pairwise.nil, fun _ hm => (nomatch hm)⟩⟩, h2, h3, h4⟩
section
variable {prog : Program} {w : World} {A : Around} {E : Value → Shared → Prop} {s : Shared} {K : Frag}
end
end Att
namespace L2
open PySem PySem.Spec PyProof.Rows
theorem vals_ints : ∀ {vs : List Value} {ns : List Int}, IntsAre vs ns → Vals (ns.map V.int) vs
  | _, _, .nil => .nil
  | _, _, .cons n t h => .cons ⟨t, rfl⟩ (vals_ints h)
def Only (H : Hp) : Prop := ∀ b, H b = none ∨ ∃ o xs, H b = some (.frz o (.lst xs))
theorem law_call {P : Program} {w : World} {K : PySem.W.Frag} {mg mb : Str → Option Value} {CX : CXT} {k : Nat} {fa a : Addr} {fd : FuncData} {x : Str} {sp : Sp} {s₁ : Shared} {vs : List Value} {ns : List Int}
    (KX : K.In s₁.heap) (hns : s₁.heap.Ns mainGlobals mg) (hb : s₁.heap.Ns builtinsNs mb) (hbb : ∀ x : Str, x ≠ "__name__" → mb x = bootBuiltins x) (hlim : s₁.heap.NoLimit) (hg : s₁.gens = #[])
    (ha : s₁.heap.get? a = some { cls := .type "list", data := .seq vs.toArray }) (hi : IntsAre vs ns) (hl : ns.length ≤ sizeLine) (hr : Room k callerA)
    (F : ∀ base : Heap, K.In base → base.Ns mainGlobals mg → FnOk P w K mg base CX k fa fd [x] sp) (hbind : ∀ (s : Shared) (u : Value), BindsTo s fd ⟨[u], []⟩ [(x, u)])
    (hsp : ∀ H : Hp, Only H → SqL K H a (ns.map V.int) → sp [.ref a] H (fun v _ => v = .bl true) fun _ _ _ => False)
    (hCX : ∀ H e s', CX [] H s₁ (fun _ _ _ => False) e s' → False) :
    codeAny (model P w) callerA (.call (.ref fa) ⟨[.ref a], []⟩) (fun r s' => r = .ok (.ret (.bool true)) ∧ OldK s₁.heap s'.heap ∧ s'.os = s₁.os ∧ AllBare s'.gens) s₁ := by
  have rv := vals_ints hi
  have lenV := hi.length
  have core : ∀ H : Hp, Only H → SqL K H a (ns.map V.int) → HOk P w H s₁.heap → (∀ b, H b ≠ none → b = a) → (H a ≠ none → K.lookup a = none) →
      codeAny (model P w) callerA (.call (.ref fa) ⟨[.ref a], []⟩) (fun r s' => r = .ok (.ret (.bool true)) ∧ OldK s₁.heap s'.heap ∧ s'.os = s₁.os ∧ AllBare s'.gens) s₁ := by
    intro H hO hS hok hA hK
    have base_of : ∀ {b : Addr} {o : Obj}, s₁.heap.get? b = some o → H b = none → (hidT s₁.heap H).get? b = some o := fun e n => hidT_get e n
    have noA : ∀ {b : Addr} {o : Obj} {es : Array DictEntry} {ep : Nat}, s₁.heap.get? b = some o → o.data = .dict es ep → H b = none := fun {b o es ep} e d => by
      cases q : H b with
      | none => rfl
      | some u =>
        have e' : b = a := hA b (by rw [q]; simp)
        subst e'
        rw [ha] at e; cases e
        have d' : Data.seq vs.toArray _ = Data.dict es ep := d
        cases d'
    have nsK : ∀ {b : Addr} {m : Str → Option Value}, s₁.heap.Ns b m → (hidT s₁.heap H).Ns b m := fun {b m} ⟨o, es, ep, e, d, r⟩ => ⟨o, es, ep, base_of e (noA e d), d, r⟩
    have hKb : K.In (hidT s₁.heap H) := fun b o e => base_of (KX b o e) (by
      cases q : H b with
      | none => rfl
      | some u =>
        have e' : b = a := hA b (by rw [q]; simp)
        subst e'
        rw [hK (by rw [q]; simp)] at e; cases e)
    have hM : Mod K mg (hidT s₁.heap H) := ⟨hKb, nsK hns, ⟨mb, nsK hb, hbb⟩, let ⟨mc, h1, h2⟩ := hlim; ⟨mc, nsK h1, h2⟩⟩
    have e0 : Env0 P w K mg (hidT s₁.heap H) callerA [] s₁ H := ⟨rfl, hM, fun b o e => of_hidT e, Nat.le_of_eq (hidT_size _ _), trivial, fun b hb => absurd (show b ∈ ([] : List Addr) from hb) (by simp), hok, .of_eq hg⟩
    refine codeAny_mono ((F _ hKb (nsK hns)).run callerA [] s₁ H ⟨[.ref a], []⟩ [.ref a] [.ref a] _ _ hr e0 (hbind s₁ (.ref a)) (.cons rfl .nil) (hsp H hO hS)) fun r s' h => ?_
    cases r with
    | error e => exact (hCX H e s' h).elim
    | ok fl =>
      cases fl with
      | next => exact False.elim h
      | brk => exact False.elim h
      | cont => exact False.elim h
      | ret u =>
        obtain ⟨v, H', os, bare, un, hok', r', q⟩ := h
        have q' : v = .bl true := q
        subst q'
        obtain rfl : u = Value.bool true := r'
        refine ⟨rfl, OldK.of_keep fun b o e => ?_, os, bare⟩
        cases q : H b with
        | none => exact un.keep b o e q (by intro z; exact absurd (show b ∈ ([] : List Addr) from z) (by simp)) (by simp)
        | some u =>
          rcases hO b with z | ⟨ob, xs, z⟩
          · rw [q] at z; cases z
          · have z2 := un.frzs b ob _ z
            obtain ⟨e1, _⟩ := hok b _ z
            obtain ⟨e2, _⟩ := hok' b _ z2
            rw [e] at e1; cases e1
            exact e2
  cases hk : K.lookup a with
  | some o =>
    have e := KX a o hk
    rw [ha] at e
    cases e
    refine core (fun _ => none) (fun _ => .inl rfl) (.inr ⟨_, vs.toArray, _, hk, rfl, rfl, rfl, by rw [List.size_toArray, lenV]; exact hl, by simpa using rv⟩) (fun b u z => by have z' : (none : Option HO) = some u := z; cases z') (fun b z => absurd rfl z) fun z => absurd rfl z
  | none =>
    refine core (fun b => if b = a then some (.frz { cls := .type "list", data := .seq vs.toArray } (.lst (ns.map V.int))) else none) (fun b => ?_) (.inl (.inr ⟨{ cls := .type "list", data := .seq vs.toArray }, if_pos rfl⟩)) (fun b u z => ?_) (fun b z => ?_) fun _ => hk
    · by_cases hb : b = a
      · exact .inr ⟨_, _, if_pos hb⟩
      · exact .inl (if_neg hb)
    · by_cases hb : b = a
      · have z' := (if_pos hb).symm.trans z
        cases z'
        subst hb
        exact ⟨ha, by rw [List.length_map]; exact hl, vs, _, rv, ha⟩
      · have z' := (if_neg hb).symm.trans z
        cases z'
    · by_cases hb : b = a
      · exact hb
      · exact absurd (if_neg hb) z
end L2
namespace L2
open PySem PySem.Spec PyProof.Rows
theorem walk_of {l : PySem.W.OpenLaw} {n k : Nat} {q : Program} {loose : List Str} {XP : (Str → Option Value) → Heap → Prop} {YP : World → Heap → Prop} {d : DefRec} {K : Params → PySem.W.Frag} {CX : World → CXT} {sp : World → Sp} {x : Str}
    (hn : l.most = some n) (hn2 : n ≤ sizeLine) (hdf : d.params.defaults = []) (hr : Room k callerA)
    (hY : ∀ (w : World) (h : Heap), YP w h → (K w.params).In h)
    (F : ∀ (w : World) (mg : Str → Option Value) (fa : Addr) (h : Heap), (K w.params).In h → h.Ns mainGlobals mg → mg d.name = some (.ref fa) →
      ∃ fd : FuncData, (∀ (s : Shared) (u : Value), BindsTo s fd ⟨[u], []⟩ [(x, u)]) ∧
        ∀ base : Heap, (K w.params).In base → base.Ns mainGlobals mg → FnOk l.prog w (K w.params) mg base (CX w) k fa fd [x] (sp w))
    (hsp : ∀ (w : World) (H : Hp) (a : Addr) (ns : List Int), ns.length ≤ n → Only H → SqL (K w.params) H a (ns.map V.int) → sp w [.ref a] H (fun v _ => v = .bl true) fun _ _ _ => False)
    (hCX : ∀ (w : World) (H : Hp) (s : Shared) (e : Value) (s' : Shared), CX w [] H s (fun _ _ _ => False) e s' → False) :
    PySem.W.WalkO q loose XP YP l.row.toRowW d [] (fun f vs => PySem.call f vs) := by
  refine Att.attach_call hn hdf fun w s₀ s₁ mg mb fa o pm cd doc a vs ns G Y ho hd hcd hmg hobj hints hlen hg => ?_
  have KX := hY w _ Y
  obtain ⟨fd, hb, hF⟩ := F w mg fa _ KX G.T.g hmg
  exact law_call KX G.T.g G.T.b G.T.builtins G.T.nolimit hg hobj hints (Nat.le_trans hlen hn2) hr hF hb (fun H hO hS => hsp w H a ns hlen hO hS) fun H e s' => hCX w H s₁ e s'
end L2
namespace L2
open PySem PySem.Spec PyProof.Rows
def defArgs (s : Stmt) : Arguments := match s with
  | .FunctionDef _ a _ _ _ _ _ _ _ _ => a
  | _ => { posonlyargs := [], args := [], vararg := none, kwonlyargs := [], kw_defaults := [], kwarg := none, defaults := [] }
def defBody (s : Stmt) : List Stmt := match s with
  | .FunctionDef _ _ b _ _ _ _ _ _ _ => b
  | _ => []
def defScope (s : Stmt) : Scope := match s with
  | .FunctionDef _ _ _ _ _ _ sc _ _ _ => sc
  | _ => { kind := .function, names := [], isGenerator := false, isCoroutine := false }
abbrev CX0 : CXT := fun _ _ _ _ _ _ => False
structure Fun (K : PySem.W.Frag) (x qual : Str) (st : Stmt) (f : Addr) (fd : FuncData) : Prop where
  ex : ∃ (oc : Value) (od : Option Addr) (kV doc pm : Value) (an : Option Addr) (cdv ct : Value) (osl : Array (Option Value)),
    fd = PySem.W.fnOf x qual (defArgs st) (defBody st) (defScope st) .none kV doc pm an cdv ct ∧ K.lookup f = some ⟨oc, od, .func fd, osl⟩ ∧ PySem.W.codeIn K cdv qual = true
  kp : PySem.W.keepIn K (.ref f) = true
section
variable {P : Program} {w : World} {K : PySem.W.Frag} {mg : Str → Option Value} {base : Heap}
theorem Fun.ok {x qual : Str} {st : Stmt} {f : Addr} {fd : FuncData} {N ps : List Str} {k : Nat} {sp : Sp} (F : Fun K x qual st f fd) (S : FnScope N ps (defScope st)) (len : ∀ vs H Q E, sp vs H Q E → vs.length = ps.length)
    (hbody : ∀ (cdv : Value) (A : Around) (outer : List Env) (s : Shared) (H : Hp) (vs : List V) (Q : VK) (E : XK), Room k (A.deeper (envOfC qual (defScope st) s.heap.objs.size f cdv)) → sp vs H Q E →
      ∃ t, PSs (cxOf CX0 P w K mg base N qual (defScope st) f cdv A outer s H E).nox (defBody st) t ∧ t { nx := fun _ H' => Q .non H', rt := Q } (start N vs) H) : FnOk P w K mg base CX0 (k + 1) f fd ps sp := by
  obtain ⟨oc, od, kV, doc, pm, an, cdv, ct, osl, rfl, lk, hcd⟩ := F.ex
  refine fn_of lk hcd S len fun A outer s H vs Q E hr hsp => ?_
  obtain ⟨t, h, q⟩ := hbody cdv A outer s H vs Q E hr hsp
  exact ⟨t, h.nox, q⟩
theorem Fun.binds {x qual : Str} {st : Stmt} {f : Addr} {fd : FuncData} {ps : List Str} (F : Fun K x qual st f fd)
    (h : ∀ (kV doc pm : Value) (an : Option Addr) (cdv ct : Value) (us : List Value), us.length = ps.length → bindArgs (PySem.W.fnOf x qual (defArgs st) (defBody st) (defScope st) .none kV doc pm an cdv ct) ⟨us, []⟩ = pure (ps.zip us)) : Binds K fd ps [] := by
  obtain ⟨oc, od, kV, doc, pm, an, cdv, ct, osl, rfl, lk, hcd⟩ := F.ex
  exact .all (h kV doc pm an cdv ct)
theorem fun_mk {x qual : Str} {st : Stmt} {f : Addr} {oc : Value} {od an : Option Addr} {osl : Array (Option Value)} {kV doc pm cdv ct : Value} (l : K.lookup f = some ⟨oc, od, .func (PySem.W.fnOf x qual (defArgs st) (defBody st) (defScope st) .none kV doc pm an cdv ct), osl⟩)
    (c : PySem.W.codeIn K cdv qual = true) (k : PySem.W.keepIn K (.ref f) = true) : Fun K x qual st f (PySem.W.fnOf x qual (defArgs st) (defBody st) (defScope st) .none kV doc pm an cdv ct) := ⟨⟨oc, od, kV, doc, pm, an, cdv, ct, osl, rfl, l, c⟩, k⟩
end
section
variable {X : Cx}
theorem pv (i : Nat) {x : Str} {pos : Pos} (hN : X.N[i]? = some x := by rfl) (hv : Vis X.env.scope x := by first | exact Or.inl rfl | exact Or.inr (Or.inl rfl) | exact Or.inr (Or.inr rfl)) (hd : (x == ("__debug__" : Str)) = false := by decide)
    (hcd : (x == ("__classdict__" : Str)) = false := by decide) : PE X (.Name x pos) (tVar i) := pe_var hN hv hd hcd
end
theorem iteF {A B : Prop} (h : B) : if false = true then A else B := by
  rw [if_neg Bool.false_ne_true]
  exact h
theorem iteT {A B : Prop} (h : A) : if true = true then A else B := by
  rw [if_pos rfl]
  exact h
def Same (H H' : Hp) : Prop := ∀ b o, H b = some o → H' b = some o
theorem Same.refl (H : Hp) : Same H H := fun _ _ h => h
theorem Same.trans {H H1 H2 : Hp} (a : Same H H1) (b : Same H1 H2) : Same H H2 := fun c o h => b c o (a c o h)
theorem Same.free {H H' : Hp} (e : Same H H') {l : Addr} (h : H' l = Option.none) : H l = Option.none := by
  cases q : H l with
  | none => rfl
  | some o =>
    rw [e l o q] at h
    cases h
theorem Same.seq {K : PySem.W.Frag} {H H' : Hp} {a : Addr} {xs : List V} (e : Same H H') (h : SqL K H a xs) : SqL K H' a xs := by
  rcases h with (h | ⟨o, h⟩) | h
  · exact .inl (.inl (e _ _ h))
  · exact .inl (.inr ⟨o, e _ _ h⟩)
  · exact .inr h
end L2
set_option Elab.async false
set_option linter.all false
set_option maxRecDepth 100000
set_option maxHeartbeats 1000000
namespace Zp
open PySem
def rcd (TI TO T : Addr) (f : Bool) : Obj := { cls := .type "zip", data := .fields #[rawInt T, .bool f, .bool false, .ref TI, .ref TO] }
section
variable {prog : Program} {w : World} {A : Around} {E : Value → Shared → Prop} {s : Shared}
theorem alive {a : Addr} {o : Obj} {Q : Option Obj → Shared → Prop} (ho : s.heap.get? a = some o) (q : Q (some o) s) : wpAny (model prog w) A (Sem.loadIfAlive ((a : Nat) : Int).toNat Sem.pure) Q E s :=
  fun _ _ _ => by rw [Int.toNat_natCast]; exact (ho ▸ q : Q (s.heap.get? a) s)
theorem held {z TI TO T : Addr} {f : Bool} {oT : Obj} {Q : Bool → Shared → Prop} (ho : s.heap.get? z = some (rcd TI TO T f)) (hT : s.heap.get? T = some oT)
    (q : ∀ h', h'.get? z = some (rcd TI TO T true) → Heap.SameBut z s.heap h' → Q false { s with heap := h' }) : wpAny (model prog w) A (Builtin.SmallTypes.ownedTupleIsFree (.ref z)) Q E s := by
  unfold rcd at ho
  cases f
  all_goals repeat (first | assumption | (with_reducible refine wpAny_field ho rfl rfl ?_) | (with_reducible refine alive hT ?_) | (with_reducible refine wpAny_setField_rec ho (by simp) fun h' e1 e2 => ?_) | wp_step)
  · exact q _ e1 e2
  · exact q _ ho (Heap.SameBut.refl _ _)
def Out (N : List Addr) (h h' : Heap) : Prop := ∀ c o, c ∉ N → h.get? c = some o → h'.get? c = some o
theorem Out.of {a : Addr} {N : List Addr} {h h' : Heap} (e : Heap.ExtBut a h h') (m : a ∈ N) : Out N h h' := fun c o n q => e c o (fun x => n (x ▸ m)) q
theorem Out.then {N : List Addr} {h h1 h2 : Heap} (a : Out N h h1) (b : Out N h1 h2) : Out N h h2 := fun c o n q => b c o n (a c o n q)
theorem Out.up {N : List Addr} {h h1 : Heap} {o : Obj} (a : Out N h h1) : Out N h (h1.push o) := fun c u n q => Heap.get?_push_of_some o (a c u n q)
variable {z TI TO T i1 i2 l1 l2 : Addr} {f : Bool} {oT : Obj} {k : Nat} {xs ys : Array Value}
theorem draw {x y : Value} {Q : Fin → Shared → Prop} (D : ZipApart z TI TO i1 i2 l1 l2)
    (ho : s.heap.get? z = some (rcd TI TO T f)) (hT : s.heap.get? T = some oT) (hTI : IsPair s.heap TI (.ref i1) (.ref i2)) (a1 : s.heap.IsListIter i1 l1 k) (a2 : s.heap.IsListIter i2 l2 k)
    (b1 : s.heap.IsList l1 xs) (b2 : s.heap.IsList l2 ys) (ex : xs[k]? = some x) (ey : ys[k]? = some y)
    (q : ∀ h', h'.get? z = some (rcd TI TO T true) → h'.IsListIter i1 l1 (k + 1) → h'.IsListIter i2 l2 (k + 1) → IsPair h' s.heap.objs.size x y → h'.objs.size = s.heap.objs.size + 1 → Out [z, i1, i2] s.heap h' →
      Q (.done (.ret (.ref s.heap.objs.size))) { s with heap := h' }) : wpAny (model prog w) A (Builtin.«zip.__next__» ⟨[.ref z], []⟩) Q E s := by
  have hd := show (rcd TI TO T f).data = .fields #[rawInt T, .bool f, .bool false, .ref TI, .ref TO] from rfl
  repeat (first | assumption | (with_reducible refine wpAny_field ho hd rfl ?_) | (with_reducible refine held ho hT fun h1 e1 u1 => ?_) | (refine wpAny_nextOf_list_item (it := i1) (a1.extBut u1.extBut D.i1z) (b1.extBut u1.extBut D.l1z) ex fun h2 e2 u2 => ?_) | (refine wpAny_nextOf_list_item (it := i2) ((a2.extBut u1.extBut D.i2z).extBut u2.extBut D.i12.symm) ((b2.extBut u1.extBut D.l2z).extBut u2.extBut D.l2i1) ey fun h3 e3 u3 => ?_) | wp_step)
  have z3 : h3.objs.size = s.heap.objs.size := u3.1.trans (u2.1.trans u1.1)
  have fr : Out [z, i1, i2] s.heap h3 := ((Out.of u1.extBut (by simp)).then (Out.of u2.extBut (by simp))).then (Out.of u3.extBut (by simp))
  rw [z3]
  refine q _ (Heap.get?_push_of_some _ (u3.extBut _ _ D.i2z.symm (u2.extBut _ _ D.i1z.symm e1))) ((e2.extBut u3.extBut D.i12).at fun _ => Heap.get?_push_of_some _) (e3.at fun _ => Heap.get?_push_of_some _) ?_ (by rw [Heap.size_push, z3]) fr.up
  exact z3 ▸ Heap.get?_push_size h3 rfl
theorem dry {Q : Fin → Shared → Prop} (hh : A.handled = none) (D : ZipApart z TI TO i1 i2 l1 l2)
    (ho : s.heap.get? z = some (rcd TI TO T f)) (hT : s.heap.get? T = some oT) (hTI : IsPair s.heap TI (.ref i1) (.ref i2)) (a1 : s.heap.IsListIter i1 l1 k) (a2 : s.heap.IsListIter i2 l2 k)
    (b1 : s.heap.IsList l1 xs) (b2 : s.heap.IsList l2 ys) (no : xs.size ≤ k ∨ ys.size ≤ k)
    (q : ∀ h' e o, h'.get? e = some o → o.cls = .type "StopIteration" → Out [z, i1, i2] s.heap h' → E (.ref e) { s with heap := h' }) : wpAny (model prog w) A (Builtin.«zip.__next__» ⟨[.ref z], []⟩) Q E s := by
  have hd := show (rcd TI TO T f).data = .fields #[rawInt T, .bool f, .bool false, .ref TI, .ref TO] from rfl
  by_cases hx : k < xs.size
  · have ex : xs[k]? = some xs[k] := Array.getElem?_eq_getElem hx
    have ey : ys[k]? = none := Array.getElem?_eq_none (no.resolve_left (Nat.not_le.mpr hx))
    repeat (first | assumption | (with_reducible refine wpAny_field ho hd rfl ?_) | (with_reducible refine held ho hT fun h1 e1 u1 => ?_) | (refine wpAny_nextOf_list_item (it := i1) (a1.extBut u1.extBut D.i1z) (b1.extBut u1.extBut D.l1z) ex fun h2 e2 u2 => ?_) | (refine wpAny_nextOf_list_end (it := i2) hh ((a2.extBut u1.extBut D.i2z).extBut u2.extBut D.i12.symm) ((b2.extBut u1.extBut D.l2z).extBut u2.extBut D.l2i1) ey fun h3 e u3 p => ?_) | wp_step)
    obtain ⟨o, p1, p2⟩ := p
    exact q h3 e o p1 p2 (((Out.of u1.extBut (by simp)).then (Out.of u2.extBut (by simp))).then (Out.of u3 (by simp)))
  · have ex : xs[k]? = none := Array.getElem?_eq_none (Nat.not_lt.mp hx)
    repeat (first | assumption | (with_reducible refine wpAny_field ho hd rfl ?_) | (with_reducible refine held ho hT fun h1 e1 u1 => ?_) | (refine wpAny_nextOf_list_end (it := i1) hh (a1.extBut u1.extBut D.i1z) (b1.extBut u1.extBut D.l1z) ex fun h2 e u2 p => ?_) | wp_step)
    obtain ⟨o, p1, p2⟩ := p
    exact q h2 e o p1 p2 ((Out.of u1.extBut (by simp)).then (Out.of u2 (by simp)))
theorem nxt {o : Obj} {Q : Option Value → Shared → Prop} (ho : s.heap.get? z = some o) (hc : o.cls = .type "zip")
    (h : wpAny (model prog w) A.in1 (Builtin.«zip.__next__» ⟨[.ref z], []⟩) (fun r s' => ∃ v, r = .done (.ret v) ∧ Q (some v) s') (fun e s' => ∃ a u, e = .ref a ∧ s'.heap.get? a = some u ∧ u.cls = .type "StopIteration" ∧ Q none s') s) : wpAny (model prog w) A (pyNext (.ref z)) Q E s := by
  have ty : s.TypeIs (.ref z) "zip" := ⟨o, ho, hc⟩
  refine wpAny_bind (wpAny_attempt (wpAny_mono (Q := fun r s' => ∃ v, r = some v ∧ Q (some v) s') (wpAny_callSpecial?_slot ty F.slot_zip_next (wpAny_call_entry F.slot_zip_next ty F.entry_zip_next (wpAny_mono h ?_ fun _ _ e => e) (F.args_zip_next_1 _))) ?_ ?_))
  · rintro _ s' ⟨v, rfl, q⟩
    exact ⟨v, rfl, v, rfl, q⟩
  · rintro _ s' ⟨v, rfl, q⟩
    exact wpAny_pure q
  · rintro _ s' ⟨a, u, rfl, e1, e2, q⟩
    exact wpAny_bind (wpAny_isInstance (T := "StopIteration") (b := true) ⟨u, e1, e2⟩ isSubtype_stop (wpAny_pure q))
end
end Zp
set_option Elab.async false
set_option linter.all false
set_option maxRecDepth 100000
set_option maxHeartbeats 1000000
namespace Zp
open PySem
def mk (vs : List Value) (c : Nat) : Obj := { cls := .type "list", data := .seq vs.toArray c }
structure Feed (prog : Program) (w : World) (A : Around) (z S : Addr) (P : Nat → List Value → Heap → Prop) (L : List Value → Heap → Prop) : Prop where
  more : ∀ (n : Nat) (vs : List Value) (s : Shared) (Q : Option Value → Shared → Prop) (E : Value → Shared → Prop), P (n + 1) vs s.heap →
    (∀ v h', P n (vs ++ [v]) h' → (∀ o, s.heap.get? S = some o → h'.get? S = some o) → Q (some v) { s with heap := h' }) → wpAny (model prog w) A (pyNext (.ref z)) Q E s
  over : ∀ (vs : List Value) (s : Shared) (Q : Option Value → Shared → Prop) (E : Value → Shared → Prop), P 0 vs s.heap →
    (∀ h', L vs h' → (∀ o, s.heap.get? S = some o → h'.get? S = some o) → Q none { s with heap := h' }) → wpAny (model prog w) A (pyNext (.ref z)) Q E s
  blind : ∀ (n : Nat) (vs : List Value) (h h' : Heap), P n vs h → Heap.SameBut S h h' → P n vs h'
section
variable {prog : Program} {w : World} {A : Around} {z S : Addr} {P : Nat → List Value → Heap → Prop} {L : List Value → Heap → Prop} {R : Result → Shared → Prop}
theorem turn {s : Shared} {as : Args} (h : wpAny (model prog w) A.in1 (Builtin.«list.extend.loop» as) (fun r s' => match r with | .done f => R (.ok f) s' | .again c => c.quiet = true ∧ codeAny (model prog w) A c R s') (fun e s' => R (.error e) s') s) :
    codeAny (model prog w) A (.builtin "list.extend.loop" as) R s :=
  codeAny_builtin PySem.F.entry_extend_loop (by rw [Around.under_plainId PySem.F.plain_extend_loop]; exact h)
theorem fill (F : Feed prog w A.in1 z S P L) (r : Value) : ∀ (n : Nat) (vs : List Value) (c : Nat) (s : Shared), P n vs s.heap → s.heap.get? S = some (mk vs c) → vs.length + n ≤ sizeLine →
    (∀ h' us c', L us h' → h'.get? S = some (mk us c') → R (.ok (.ret r)) { s with heap := h' }) → codeAny (model prog w) A (.builtin "list.extend.loop" ⟨[.ref S, .ref z, r], []⟩) R s
  | 0, vs, c, s, p, e, _, q => by
    refine turn (wpAny_bind (F.over vs s _ _ p fun h' l k => wpAny_pure ?_))
    exact q h' vs c l (k _ e)
  | n + 1, vs, c, s, p, e, b, q => by
    refine turn (wpAny_bind (F.more n vs s _ _ p fun v h' p' k => ?_))
    have e' := k _ e
    have len : (vs.toArray.push v).size ≤ sizeLine := by simp; omega
    obtain ⟨c2, e2⟩ : ∃ c2, (h'.update S (Obj.mapSeq (·.push v))).get? S = some (mk (vs ++ [v]) c2) := by
      have := Heap.get?_update_self (Obj.mapSeq (·.push v)) e' rfl
      simp only [mk, Obj.mapSeq, List.push_toArray] at this
      exact ⟨_, this⟩
    refine wpAny_bind (wpAny_updateSeq e' rfl (wpAny_pure ⟨plainId_quiet PySem.F.plain_extend_loop _, ?_⟩) (by simp; omega) (Nat.le_succ_of_le len))
    refine fill F r n (vs ++ [v]) c2 _ (F.blind _ _ _ _ p' (Heap.SameBut.update ..)) e2 (by simp; omega) fun h2 us c3 l e3 => ?_
    exact q h2 us c3 l e3
theorem upd {E : Value → Shared → Prop} {s : Shared} {vs : List Value} {c : Nat} {f : Array Value → Array Value} {Q : Unit → Shared → Prop} (e : s.heap.get? S = some (mk vs c)) (l : vs.length ≤ 1) (m : (f vs.toArray).size ≤ 1)
    (q : ∀ h' c', h'.get? S = some (mk (f vs.toArray).toList c') → Heap.SameBut S s.heap h' → Q () { s with heap := h' }) : wpAny (model prog w) A (updateSeq S f) Q E s :=
  have one : 1 ≤ sizeLine := by decide
  wpAny_updateSeq e rfl (q _ _ (Heap.get?_update_self _ e rfl) (Heap.SameBut.update ..)) (by simp; omega) (by omega)
end
end Zp
set_option Elab.async false
set_option linter.all false
set_option maxRecDepth 100000
set_option maxHeartbeats 1000000
namespace Zp
open PySem
structure Pl (old z TI TO i1 i2 l1 l2 S : Addr) : Prop where
  ap : ZipApart z TI TO i1 i2 l1 l2
  new : ∀ a ∈ [z, TO, i1, i2], old ≤ a
  low : ∀ a ∈ [z, TO, i1, i2], a < S
  lo2 : ∀ a ∈ [TI, l1, l2], a < S
structure Got (h0 : Heap) (old S : Addr) (xs ys : Array Value) (vs : List Value) (h : Heap) : Prop where
  vals : ∀ (j : Nat) (v : Value), vs[j]? = some v → v = .ref (S + 1 + j)
  pair : ∀ j : Nat, j < vs.length → ∃ x y, xs[j]? = some x ∧ ys[j]? = some y ∧ IsPair h (S + 1 + j) x y
  keep : ∀ b o, b < old → h0.get? b = some o → h.get? b = some o
structure Zs (h0 : Heap) (old z TI TO i1 i2 l1 l2 S : Addr) (xs ys : Array Value) (n : Nat) (vs : List Value) (h : Heap) : Prop extends Got h0 old S xs ys vs h where
  cnt : vs.length + n = min xs.size ys.size
  size : h.objs.size = S + 1 + vs.length
  now : (vs = [] ∧ IsZip h z TI TO .none ∧ ∃ a b, IsPair h TO a b) ∨ ∃ f T oT, h.get? z = some (rcd TI TO T f) ∧ S < T ∧ h.get? T = some oT
  its : IsPair h TI (.ref i1) (.ref i2)
  it1 : h.IsListIter i1 l1 vs.length
  it2 : h.IsListIter i2 l2 vs.length
  ls1 : h.IsList l1 xs
  ls2 : h.IsList l2 ys
section
variable {h0 h h' : Heap} {old z TI TO i1 i2 l1 l2 S : Addr} {xs ys : Array Value} {n : Nat} {vs : List Value}
theorem Pl.ns (P : Pl old z TI TO i1 i2 l1 l2 S) : S ∉ [z, TO, i1, i2] := fun m => Nat.lt_irrefl _ (P.low _ m)
theorem Pl.gt (P : Pl old z TI TO i1 i2 l1 l2 S) {b : Addr} (m : S < b) : b ∉ [z, TO, i1, i2] := fun k => Nat.lt_asymm m (P.low _ k)
theorem Pl.lt (P : Pl old z TI TO i1 i2 l1 l2 S) {b : Addr} (m : b < old) : b ∉ [z, TO, i1, i2] := fun k => Nat.not_le.mpr m (P.new _ k)
theorem past (S : Addr) (j : Nat) : S < S + 1 + j := Nat.lt_of_lt_of_le (Nat.lt_succ_self S) (Nat.le_add_right _ _)
theorem Got.on (G : Got h0 old S xs ys vs h) (P : Pl old z TI TO i1 i2 l1 l2 S) (o : Out [z, TO, i1, i2] h h') : Got h0 old S xs ys vs h' where
  vals := G.vals
  pair j m := let ⟨x, y, e1, e2, e3⟩ := G.pair j m; ⟨x, y, e1, e2, o _ _ (P.gt (past S j)) e3⟩
  keep b u m e := o b u (P.lt m) (G.keep b u m e)
theorem Zs.next (Z : Zs h0 old z TI TO i1 i2 l1 l2 S xs ys (n + 1) vs h) (P : Pl old z TI TO i1 i2 l1 l2 S) {x y : Value} {f : Bool} {T : Addr} {oT : Obj} (ex : xs[vs.length]? = some x) (ey : ys[vs.length]? = some y)
    (r : h'.get? z = some (rcd TI TO T f)) (rT : S < T) (eT : h'.get? T = some oT) (a1 : h'.IsListIter i1 l1 (vs.length + 1)) (a2 : h'.IsListIter i2 l2 (vs.length + 1)) (pr : IsPair h' h.objs.size x y) (sz : h'.objs.size = h.objs.size + 1)
    (o : Out [z, TO, i1, i2] h h') : Zs h0 old z TI TO i1 i2 l1 l2 S xs ys n (vs ++ [.ref h.objs.size]) h' := by
  have D := P.ap
  have len : (vs ++ [Value.ref h.objs.size]).length = vs.length + 1 := by simp
  have G := Z.toGot.on P o
  refine ⟨⟨fun j v e => ?_, fun j m => ?_, G.keep⟩, by rw [len]; have := Z.cnt; omega, by rw [len, sz, Z.size]; rfl, .inr ⟨f, T, oT, r, rT, eT⟩, o _ _ (by simp [D.TIz, D.TITO, D.TIi1, D.TIi2]) Z.its, by rw [len]; exact a1, by rw [len]; exact a2,
    Heap.IsList.at Z.ls1 fun u e => o _ u (by simp [D.l1z, D.l1TO, D.l1i1, D.l1i2]) e, Heap.IsList.at Z.ls2 fun u e => o _ u (by simp [D.l2z, D.l2TO, D.l2i1, D.l2i2]) e⟩
  · rcases Nat.lt_or_ge j vs.length with q | q
    · exact G.vals j v (by rwa [List.getElem?_append_left q] at e)
    · have jl : j = vs.length := by have := (List.getElem?_eq_some_iff.mp e).1; rw [len] at this; omega
      subst jl
      simp only [List.getElem?_concat_length, Option.some.injEq] at e
      rw [← e, Z.size]
  · rcases Nat.lt_or_ge j vs.length with q | q
    · exact G.pair j q
    · have jl : j = vs.length := by rw [len] at m; omega
      subst jl
      exact ⟨x, y, ex, ey, Z.size ▸ pr⟩
end
section
variable {prog : Program} {w : World} {A : Around} {h0 : Heap} {old z TI TO i1 i2 l1 l2 S : Addr} {xs ys : Array Value}
theorem out3 {h h' : Heap} (o : Out [z, i1, i2] h h') : Out [z, TO, i1, i2] h h' := fun c u m => o c u (by simp only [List.mem_cons, List.not_mem_nil, or_false, not_or] at m ⊢; exact ⟨m.1, m.2.2⟩)
theorem out4 {h h' : Heap} (o : ∀ c u, c ≠ z → c ≠ TO → c ≠ i1 → c ≠ i2 → h.get? c = some u → h'.get? c = some u) : Out [z, TO, i1, i2] h h' := fun c u m => by
  simp only [List.mem_cons, List.not_mem_nil, or_false, not_or] at m
  exact o c u m.1 m.2.1 m.2.2.1 m.2.2.2
theorem feed (hh : A.handled = none) (P : Pl old z TI TO i1 i2 l1 l2 S) : Feed prog w A z S (Zs h0 old z TI TO i1 i2 l1 l2 S xs ys) (fun vs h => vs.length = min xs.size ys.size ∧ Got h0 old S xs ys vs h) where
  more n vs s Q E Z q := by
    have c := Z.cnt
    have hx : vs.length < xs.size := by omega
    have hy : vs.length < ys.size := by omega
    have ex := Array.getElem?_eq_getElem hx
    have ey := Array.getElem?_eq_getElem hy
    have sS : S < s.heap.objs.size := by rw [Z.size]; exact past S _
    rcases Z.now with ⟨e0, ez, a, b, eO⟩ | ⟨f, T, oT, ez, mT, eT⟩
    · refine wpAny_pyNext_zip_item P.ap ez Z.its eO Z.it1 Z.it2 Z.ls1 Z.ls2 ex ey fun h' b1 b2 b3 b4 b5 b6 b7 => ?_
      exact q _ h' (Z.next P ex ey (f := false) b1 sS b5 b3 b4 b5 b6 (out4 b7)) fun o e => out4 b7 S o P.ns e
    · refine nxt ez rfl (draw P.ap ez eT Z.its Z.it1 Z.it2 Z.ls1 Z.ls2 ex ey fun h' b1 b2 b3 b4 b5 b6 => ⟨_, rfl, ?_⟩)
      have o4 := out3 (TO := TO) b6
      exact q _ h' (Z.next P ex ey b1 mT (o4 T _ (P.gt mT) eT) b2 b3 b4 b5 o4) fun o e => o4 S o P.ns e
  over vs s Q E Z q := by
    have c := Z.cnt
    have no : xs.size ≤ vs.length ∨ ys.size ≤ vs.length := by omega
    rcases Z.now with ⟨e0, ez, a, b, eO⟩ | ⟨f, T, oT, ez, mT, eT⟩
    · refine wpAny_pyNext_zip_end hh P.ap ez Z.its eO Z.it1 Z.it2 Z.ls1 Z.ls2 (no.imp Array.getElem?_eq_none Array.getElem?_eq_none) fun h' b7 => ?_
      exact q h' ⟨c, Z.toGot.on P (out4 b7)⟩ fun o e => out4 b7 S o P.ns e
    · refine nxt ez rfl (dry hh P.ap ez eT Z.its Z.it1 Z.it2 Z.ls1 Z.ls2 no fun h' e o b1 b2 b3 => ⟨e, o, rfl, b1, b2, ?_⟩)
      exact q h' ⟨c, Z.toGot.on P (out3 b3)⟩ fun u e => out3 (TO := TO) b3 S u P.ns e
  blind n vs h h' Z u := by
    have go : ∀ b o, b ≠ S → h.get? b = some o → h'.get? b = some o := fun b o m e => (u.2 b m).trans e
    have low : ∀ a, a ∈ [z, TO, i1, i2] ∨ a ∈ [TI, l1, l2] → a ≠ S := fun a m => Nat.ne_of_lt (m.elim (P.low a) (P.lo2 a))
    refine ⟨⟨Z.vals, fun j m => ?_, fun b o m e => go b o ?_ (Z.keep b o m e)⟩, Z.cnt, u.1.trans Z.size, ?_, go _ _ (low _ (by simp)) Z.its, Z.it1.at fun o e => go _ o (low _ (by simp)) e, Z.it2.at fun o e => go _ o (low _ (by simp)) e,
      Heap.IsList.at Z.ls1 fun o e => go _ o (low _ (by simp)) e, Heap.IsList.at Z.ls2 fun o e => go _ o (low _ (by simp)) e⟩
    · obtain ⟨x, y, e1, e2, e3⟩ := Z.pair j m
      exact ⟨x, y, e1, e2, go _ _ (Nat.ne_of_gt (past S j)) e3⟩
    · exact Nat.ne_of_lt (Nat.lt_trans (Nat.lt_of_lt_of_le m (P.new z (by simp))) (P.low z (by simp)))
    · rcases Z.now with ⟨e0, ez, a, b, eO⟩ | ⟨f, T, oT, ez, mT, eT⟩
      · exact .inl ⟨e0, go _ _ (low _ (by simp)) ez, a, b, go _ _ (low _ (by simp)) eO⟩
      · exact .inr ⟨f, T, oT, go _ _ (low _ (by simp)) ez, mT, go _ _ (Nat.ne_of_gt mT) eT⟩
end
end Zp
set_option Elab.async false
set_option linter.all false
set_option maxRecDepth 100000
set_option maxHeartbeats 1000000
namespace L2
open PySem PySem.Spec PyProof.Rows
theorem HOk.but {P : Program} {w : World} {H : Hp} {h h' : Heap} {c : Addr} (x : HOk P w H h) (n : H c = none) (k : ∀ b o, b ≠ c → h.get? b = some o → h'.get? b = some o) : HOk P w H h' := fun b u e => by
  have nc : ∀ b u, H b = some u → b ≠ c := fun b u e z => by rw [z, n] at e; cases e
  refine (x b u e).stay (fun d v hd q => k d v ?_ q) (fun _ q => q) fun _ _ q => q
  rcases hd with z | z
  · rw [z]; exact nc b u e
  · exact nc d _ z
section
variable {pg : Program} {w : World} {A : Around}
abbrev nox : Value → Shared → Prop := fun _ _ => False
abbrev wpN {α : Type} (pg : Program) (w : World) (A : Around) (t : Sem α) (Q : α → Shared → Prop) (s : Shared) : Prop := wpAny (model pg w) A t Q nox s
def tested (ifs : List Expr) (env : Env) : Sem Bool :=
  forIn ifs true fun c r =>
    if r = true then do
      let ok ← isTrue c env (eval c env)
      pure (ForInStep.yield ok)
    else pure (ForInStep.yield r)
def ItemGoes (pg : Program) (w : World) (A : Around) (elt tg : Expr) (ifs : List Expr) (it acc : Value) (env : Env) (J : Shared → Prop) (v : Value) (s : Shared) : Prop :=
  wpN pg w A (letOwnedTupleGo tg it v) (fun _ sa => wpN pg w A (assign tg env v) (fun _ sb => wpN pg w A (tested ifs env) (fun ok sc =>
    if ok = true then wpN pg w A (eval elt env) (fun x sd => wpN pg w A (call (.builtin "list.append") [acc, x]) (fun _ se => J se) sd) sc else J sc) sb) sa) s
theorem mo {α : Type} {t : Sem α} {Q Q' : α → Shared → Prop} {E : Value → Shared → Prop} {s : Shared} (h : wpN pg w A t Q s) (k : ∀ a s', Q a s' → Q' a s') : wpAny (model pg w) A t Q' E s :=
  wpAny_mono h k (fun _ _ f => False.elim f)
theorem compLoop_any {elt target iter : Expr} {ifs : List Expr} {scope : Scope} {pos : Pos} {it acc : Value} {env : Env} {R : Result → Shared → Prop} {s₀ : Shared} (I : Nat → Shared → Prop)
    (turn : ∀ n s, I n s → wpN pg w A (pyNext it) (fun r s₁ => match r with
      | none => R (.ok .next) s₁
      | some v => ItemGoes pg w A elt target ifs it acc env (fun s' => ∃ m, m < n ∧ I m s') v s₁) s)
    (top : Nat) (start : I top s₀) : codeAny (model pg w) A (.compLoop (.ListComp elt [⟨target, iter, ifs, 0⟩] scope pos) 0 it acc env) R s₀ := by
  apply codeAny_loop rfl I _ top start
  intro n s hI
  apply wpAny_noted
  rw [compTurn_list]
  refine wpAny_bind (wpAny_standAt (wpAny_bind (mo (turn n s hI) ?_)))
  rintro (_ | v) s₁ goal
  · exact wpAny_pure goal
  · refine wpAny_bind (mo goal fun _ sa ga => wpAny_bind (mo ga fun _ sb gb => wpAny_bind (mo gb ?_)))
    rintro (_ | _) sc gc
    · exact wpAny_pure (And.intro rfl gc)
    · refine wpAny_bind (wpAny_bind (mo gc fun x sd gd => wpAny_bind (mo gd fun _ se ge => ?_)))
      exact wpAny_pure (wpAny_pure (And.intro rfl ge))
end
theorem cellsFrom_acc : ∀ (names : List (Str × NameKind)) (n : Nat) (acc : List (Str × Addr)), cellsFrom n names acc = cellsFrom n names [] ++ acc
  | [], _, _ => rfl
  | (x, k) :: r, n, acc => by
    unfold cellsFrom
    split
    · rw [cellsFrom_acc r (n + 1) ((x, n) :: acc), cellsFrom_acc r (n + 1) [(x, n)], List.append_assoc]; rfl
    · exact cellsFrom_acc r n acc
theorem cellsFrom_mem : ∀ (names : List (Str × NameKind)) (n : Nat) {x : Str} {c : Addr}, (x, c) ∈ cellsFrom n names [] → (x, NameKind.cell) ∈ names
  | [], _, _, _, h => by simp [cellsFrom] at h
  | (y, k) :: r, n, x, c, h => by
    unfold cellsFrom at h
    split at h
    · rename_i hk
      rw [cellsFrom_acc] at h
      have two := List.mem_append.mp h
      rcases two with h | h
      · exact List.mem_cons_of_mem _ (cellsFrom_mem r _ h)
      · have e : (x, c) = (y, n) := by simpa using h
        have e2 : k = NameKind.cell := by simpa using hk
        cases e
        rw [e2]
        exact List.mem_cons_self
    · exact List.mem_cons_of_mem _ (cellsFrom_mem r n h)
def clGo (cells : List (Str × Addr)) : List (Str × NameKind) → List (Str × Addr) → List (Str × Addr)
  | [], acc => acc
  | (n, k) :: r, acc => clGo cells r (if k == .free then ((cells.lookup n).map fun c => (n, c)).toList ++ acc else acc)
theorem clGo_mem {cells : List (Str × Addr)} : ∀ (names : List (Str × NameKind)) (acc : List (Str × Addr)) {x : Str} {c : Addr}, (x, c) ∈ clGo cells names acc → (x, c) ∈ acc ∨ cells.lookup x = some c
  | [], _, _, _, h => .inl h
  | (n, k) :: r, acc, x, c, h => by
    unfold clGo at h
    rcases clGo_mem r _ h with h | h
    · split at h
      · have two := List.mem_append.mp h
        rcases two with h | h
        · cases e : cells.lookup n with
          | none => rw [e] at h; simp at h
          | some c' =>
            rw [e] at h
            have e2 : (x, c) = (n, c') := by simpa using h
            cases e2
            exact .inr e
        · exact .inl h
      · exact .inl h
    · exact .inr h
theorem clGo_has {cells : List (Str × Addr)} : ∀ (names : List (Str × NameKind)) (acc : List (Str × Addr)) {x : Str} {c : Addr}, ((x, c) ∈ acc ∨ ((x, NameKind.free) ∈ names ∧ cells.lookup x = some c)) → (x, c) ∈ clGo cells names acc
  | [], _, _, _, h => h.elim id fun h => by simp at h
  | (n, k) :: r, acc, x, c, h => by
    unfold clGo
    refine clGo_has r _ ?_
    rcases h with h | ⟨h, e⟩
    · left
      split
      · exact List.mem_append_right _ h
      · exact h
    · rcases List.mem_cons.mp h with h | h
      · cases h
        left
        rw [if_pos (by rfl), e]
        simp
      · exact .inr ⟨h, e⟩
theorem closureFor_go {scope : Scope} {env : Env} (h : ∀ y ∈ scope.names, y.2 = .free → ∃ c, env.cells.lookup y.1 = some c) : closureFor scope env = pure (clGo env.cells scope.names []) := by
  unfold closureFor
  have go : ∀ (names : List (Str × NameKind)) (acc : List (Str × Addr)), (∀ y ∈ names, y.2 = .free → ∃ c, env.cells.lookup y.1 = some c) →
      (forIn names acc fun x r => match x with
        | (name, kind) => if (kind == NameKind.free) = true then do let a ← cellOf env name; pure (ForInStep.yield ((name, a) :: r)) else pure (ForInStep.yield r) : Sem (List (Str × Addr))) = pure (clGo env.cells names acc) := by
    intro names
    induction names with
    | nil => intro acc _; rfl
    | cons y r ih =>
      obtain ⟨n, k⟩ := y
      intro acc hh
      rw [List.forIn_cons]
      unfold clGo
      by_cases hk : (k == NameKind.free) = true
      · have e2 : k = NameKind.free := by simpa using hk
        obtain ⟨c, hc⟩ := hh (n, k) List.mem_cons_self e2
        have hcell : cellOf env n = pure c := by unfold cellOf; rw [hc]
        simp only [hk, if_true, hcell, pure_bind, hc, Option.map_some, Option.toList_some, List.singleton_append]
        exact ih _ fun y hy => hh y (List.mem_cons_of_mem _ hy)
      · simp only [hk, if_false, pure_bind]
        exact ih _ fun y hy => hh y (List.mem_cons_of_mem _ hy)
  have := go scope.names [] h
  simp only [this, pure_bind]
theorem mem_lookup {α : Type} : ∀ {l : List (Str × α)} {x : Str} {a : α}, (l.map (·.1)).Nodup → (x, a) ∈ l → l.lookup x = some a
  | (y, b) :: r, x, a, hn, h => by
    have hn := List.nodup_cons.mp (show (y :: r.map (·.1)).Nodup from hn)
    rcases List.mem_cons.mp h with h | h
    · cases h
      simp
    · have hne : x ≠ y := fun e => hn.1 (by rw [← e]; exact List.mem_map.mpr ⟨(x, a), h, rfl⟩)
      rw [List.lookup_cons, beq_false_of_ne hne]
      exact mem_lookup hn.2 h
theorem lookup_isSome_of_mem {α : Type} : ∀ {l : List (Str × α)} {x : Str}, x ∈ l.map (·.1) → ∃ a, l.lookup x = some a
  | (y, b) :: r, x, h => by
    rw [List.lookup_cons]
    cases e : x == y with
    | true => exact ⟨b, rfl⟩
    | false =>
      rw [List.map_cons] at h
      rcases List.mem_cons.mp h with h | h
      · rw [h] at e; simp at e
      · exact lookup_isSome_of_mem h
def compEnvX (scope : Scope) (C : Addr) (env : Env) : Env := compEnvC scope (cellsFrom (C + 1) scope.names (clGo env.cells scope.names [])) C env
def cxComp (X : Cx) (scope : Scope) (N : List Str) (fp : List Addr) (s : Shared) (H : Hp) : Cx :=
  { X with N := N, s₀ := s, H₀ := H, env := compEnvX scope s.heap.objs.size X.env, outer := X.stack, stack := X.stack, ex := fp, fn := fun x => decide (scope.names.lookup x = some .cell), pn := [], xe := fun _ _ => False }
structure CompOk (X : Cx) (scope : Scope) (N : List Str) (k : Nat) (fs : List Nat) : Prop where
  kind : scope.kind = .function
  nd : (scope.names.map (·.1)).Nodup
  free : ∀ y ∈ scope.names, y.2 = .free → y.1 ∈ X.env.cells.map (·.1)
  len : N.length = k + fs.length
  out : ∀ (j i : Nat), fs[j]? = some i → ∃ x, N[k + j]? = some x ∧ X.N[i]? = some x ∧ scope.names.lookup x = some .free ∧ (X.env.kindOf x = some .cell ∨ X.env.kindOf x = some .free)
def compSt (k : Nat) (fs : List Nat) (σ : St) : St := List.replicate k none ++ fs.map fun i => (σ[i]?).join
def GLow (k : Nat) (g : TG) : Prop := ∀ x σ H Q, g x σ H Q → g x σ H fun σ' H' => Q σ' H' ∧ σ'.length = σ.length ∧ ∀ i, k ≤ i → σ'[i]? = σ[i]?
def GsLow (k : Nat) (g : TGs) : Prop := ∀ x σ H Q, g x σ H Q → g x σ H fun σ' H' => Q σ' H' ∧ σ'.length = σ.length ∧ ∀ i, k ≤ i → σ'[i]? = σ[i]?
theorem low_name {k i : Nat} (h : i < k) : GLow k (gName i) := fun x σ H Q q => ⟨q, by simp, fun j hj => by rw [List.getElem?_set_ne (by omega)]⟩
theorem lows_nil {k : Nat} : GsLow k gNil := fun x σ H Q ⟨e, q⟩ => ⟨e, q, rfl, fun _ _ => rfl⟩
def GMono (g : TG) : Prop := ∀ x σ H Q Q', (∀ σ' H', Q σ' H' → Q' σ' H') → g x σ H Q → g x σ H Q'
def GsMono (g : TGs) : Prop := ∀ x σ H Q Q', (∀ σ' H', Q σ' H' → Q' σ' H') → g x σ H Q → g x σ H Q'
theorem mono_name {i : Nat} : GMono (gName i) := fun _ _ _ _ _ h q => h _ _ q
theorem monos_nil : GsMono gNil := fun _ _ _ _ _ h ⟨e, q⟩ => ⟨e, h _ _ q⟩
theorem monos_cons {t : TG} {u : TGs} (h1 : GMono t) (h2 : GsMono u) : GsMono (gCons t u) := fun x σ H Q Q' h ⟨v, r, e, q⟩ => ⟨v, r, e, h1 _ _ _ _ _ (fun σ' H' q' => h2 _ _ _ _ _ h q') q⟩
theorem mono_tup {K : PySem.W.Frag} {n : Nat} {u : TGs} (h : GsMono u) : GMono (gTup K n u) := fun x σ H Q Q' hq ⟨a, xs, e, h1, h2, q⟩ => ⟨a, xs, e, h1, h2, h _ _ _ _ _ hq q⟩
theorem lows_cons {k : Nat} {t : TG} {u : TGs} (m1 : GMono t) (m2 : GsMono u) (h1 : GLow k t) (h2 : GsLow k u) : GsLow k (gCons t u) := fun x σ H Q ⟨v, r, e, q⟩ => by
  refine ⟨v, r, e, ?_⟩
  refine m1 _ _ _ _ _ (fun σ' H' q' => ?_) (h1 _ _ _ _ q)
  obtain ⟨q1, l1, a1⟩ := q'
  refine m2 _ _ _ _ _ (fun σ2 H2 q2 => ?_) (h2 _ _ _ _ q1)
  obtain ⟨q3, l3, a3⟩ := q2
  exact ⟨q3, l3.trans l1, fun i hi => (a3 i hi).trans (a1 i hi)⟩
theorem low_tup {k n : Nat} {K : PySem.W.Frag} {u : TGs} (h : GsLow k u) : GLow k (gTup K n u) := fun x σ H Q ⟨a, xs, e, h1, h2, q⟩ => ⟨a, xs, e, h1, h2, h _ _ _ _ q⟩
section
variable {X : Cx} {pins : List (Addr × Obj)} {σ : St} {H : Hp} {s : Shared} {scope : Scope} {N : List Str} {k : Nat} {fs : List Nat} {fp : List Addr}
theorem CompOk.clos (C : CompOk X scope N k fs) : closureFor scope X.env = pure (clGo X.env.cells scope.names []) := closureFor_go fun y hy hf => lookup_isSome_of_mem (C.free y hy hf)
theorem CompOk.names (C : CompOk X scope N k fs) : ∀ y ∈ scope.names, y.2 = .local → scope.names.lookup y.1 = some .local := fun y hy e => mem_lookup C.nd (by rw [← e]; exact hy)
theorem clGo_lookup {cells : List (Str × Addr)} {names : List (Str × NameKind)} {x : Str} {c : Addr} (h : (clGo cells names []).lookup x = some c) : cells.lookup x = some c :=
  (clGo_mem names [] (mem_of_lookup h)).elim (fun z => by simp at z) id
theorem comp_cells {cells : List (Str × Addr)} {C : Nat} {x : Str} {c : Addr} (h : (cellsFrom (C + 1) scope.names (clGo cells scope.names [])).lookup x = some c) :
    (x, c) ∈ cellsFrom (C + 1) scope.names [] ∨ cells.lookup x = some c := by
  rw [cellsFrom_acc] at h
  rcases List.mem_append.mp (mem_of_lookup h) with z | z
  · exact .inl z
  · exact .inr ((clGo_mem _ _ z).elim (fun z => by simp at z) id)
theorem relabel_kind {env : Env} {x : Str} : (relabel scope env).names.lookup x = some .cell ∨ (relabel scope env).names.lookup x = some .free → scope.names.lookup x = some .cell ∨ scope.names.lookup x = some .free := by
  unfold relabel
  generalize scope.names = names
  induction names with
  | nil => simp
  | cons y r ih =>
    obtain ⟨n, kd⟩ := y
    simp only [List.map_cons]
    by_cases hx : (x == n) = true
    · split
      · rename_i hc
        intro _
        have : (kd == NameKind.free) = true := by
          have hc := Bool.and_eq_true_iff.mp hc
          exact (Bool.and_eq_true_iff.mp hc.1).1
        have e : kd = NameKind.free := by simpa using this
        rw [List.lookup_cons, hx, e]
        exact .inr rfl
      · intro h
        simp only [List.lookup_cons, hx] at h ⊢
        exact h
    · have hx' : (x == n) = false := by simpa using hx
      intro h
      have h' : (List.lookup x (r.map fun x => match x with | (n, k) => if (k == NameKind.free && env.scope.kind == .function && env.kindOf n == some .cell) = true then (n, NameKind.cell) else (n, k)) = some .cell ∨ List.lookup x (r.map fun x => match x with | (n, k) => if (k == NameKind.free && env.scope.kind == .function && env.kindOf n == some .cell) = true then (n, NameKind.cell) else (n, k)) = some .free) := by
        split at h <;> simpa only [List.lookup_cons, hx'] using h
      rw [List.lookup_cons, hx']
      exact ih h'
theorem relabel_free {env : Env} {x : Str} : scope.names.lookup x = some .free → (relabel scope env).names.lookup x = some .cell ∨ (relabel scope env).names.lookup x = some .free := by
  unfold relabel
  generalize scope.names = names
  induction names with
  | nil => simp
  | cons y r ih =>
    obtain ⟨n, kd⟩ := y
    simp only [List.map_cons]
    intro h
    by_cases hx : (x == n) = true
    · rw [List.lookup_cons, hx] at h
      cases h
      split
      · left; rw [List.lookup_cons, hx]
      · right; rw [List.lookup_cons, hx]
    · have hx' : (x == n) = false := by simpa using hx
      rw [List.lookup_cons, hx'] at h
      have := ih h
      split <;> simpa only [List.lookup_cons, hx'] using this
theorem comp_ok (C : CompOk X scope N k fs) (I : Inv X pins σ H s) (hf : ∀ b ∈ fp, FpOk X pins H b) (ho : ∀ b ∈ fp, b < s.heap.objs.size) : (cxComp X scope N fp s H).Ok where
  mod := I.ok.mod
  kind := C.kind
  glob := I.ok.glob
  blt := I.ok.blt
  above := Nat.le_refl _
  inj := fun x y c hx hy => by
    have ok := cellsFrom_ok scope.names (s.heap.push { cls := .type "dict", data := .dict #[] }) (s.heap.objs.size + 1) [] ⟨fun _ _ hm => (nomatch hm), List.Pairwise.nil⟩ (by rw [Heap.size_push]; exact Nat.le_refl _)
    rw [Heap.size_push] at ok
    have old : ∀ z c, X.env.cells.lookup z = some c → c < s.heap.objs.size := fun z c e => let ⟨_, q⟩ := I.cell z c e; q.lt
    rcases comp_cells hx with h1 | h1 <;> rcases comp_cells hy with h2 | h2
    · exact name_of_addr ok.apart h1 h2
    · exact absurd (old _ _ h2) (Nat.not_lt.mpr (Nat.le_of_succ_le (ok.empty _ _ h1).2))
    · exact absurd (old _ _ h1) (Nat.not_lt.mpr (Nat.le_of_succ_le (ok.empty _ _ h2).2))
    · exact I.ok.inj x y c h1 h2
  has := fun x h => by
    have h' : scope.names.lookup x = some .cell ∨ scope.names.lookup x = some .free := relabel_kind h
    have : ((cellsFrom (s.heap.objs.size + 1) scope.names (clGo X.env.cells scope.names [])).lookup x).isSome = true := by
      refine PySem.W.cellsFrom_some _ _ _ ?_
      rcases h' with h' | h'
      · exact .inl h'
      · right
        obtain ⟨c, hc⟩ := lookup_isSome_of_mem (C.free _ (mem_of_lookup h') rfl)
        have hm : x ∈ (clGo X.env.cells scope.names []).map (·.1) := List.mem_map.mpr ⟨(x, c), clGo_has _ _ (.inr ⟨mem_of_lookup h', hc⟩), rfl⟩
        obtain ⟨a, ha⟩ := lookup_isSome_of_mem hm
        rw [ha]; rfl
    exact Option.isSome_iff_exists.mp this
  cab := fun x c hx hl => by
    have hx' : scope.names.lookup x = some .cell := of_decide_eq_true hx
    have hsome : ((cellsFrom (s.heap.objs.size + 1) scope.names []).lookup x).isSome = true := PySem.W.cellsFrom_some _ _ _ (.inl hx')
    obtain ⟨c', hc'⟩ := Option.isSome_iff_exists.mp hsome
    have hl' : (cellsFrom (s.heap.objs.size + 1) scope.names (clGo X.env.cells scope.names [])).lookup x = some c := hl
    rw [cellsFrom_acc, List.lookup_append, hc'] at hl'
    cases hl'
    have ok := cellsFrom_ok scope.names (s.heap.push { cls := .type "dict", data := .dict #[] }) (s.heap.objs.size + 1) [] ⟨fun _ _ hm => (nomatch hm), List.Pairwise.nil⟩ (by rw [Heap.size_push]; exact Nat.le_refl _)
    rw [Heap.size_push] at ok
    exact Nat.le_of_succ_le (ok.empty _ _ (mem_of_lookup hc')).2
  hd := I.ok.hd
  frames := I.ok.frames
  stk := .inl rfl
  exf := fun b hb => ⟨Nat.ne_of_lt (ho b hb), fun x c e z => by
    have ok := cellsFrom_ok scope.names (s.heap.push { cls := .type "dict", data := .dict #[] }) (s.heap.objs.size + 1) [] ⟨fun _ _ hm => (nomatch hm), List.Pairwise.nil⟩ (by rw [Heap.size_push]; exact Nat.le_refl _)
    rw [Heap.size_push] at ok
    rcases comp_cells (cells := X.env.cells) e with h1 | h1
    · have h2 := (ok.empty _ _ h1).2
      have h3 := ho b hb
      rw [z] at h2
      exact Nat.lt_irrefl _ (Nat.lt_of_lt_of_le h3 (Nat.le_of_succ_le h2))
    · exact (hf b hb).2.2.2.2.1 x c h1 z⟩
  bs := I.bs
  bsz := Nat.le_trans I.ok.bsz I.sz
  noex := fun b o e hb => by
    rcases (hf b hb).2.2.2.1 with z | z
    · exact I.ok.noex b o e z
    · exact absurd (Nat.lt_of_lt_of_le (Heap.lt_size e) (Nat.le_trans I.ok.bsz z)) (Nat.lt_irrefl _)
  exfs := fun b hb z => by
    rcases List.mem_cons.mp (I.stkSub b z) with e | e
    · exact (hf b hb).2.1 e
    · exact (hf b hb).2.2.1 e
  funs := I.stack
  frf := I.stkFree
theorem compSt_len (σ : St) : (compSt k fs σ).length = k + fs.length := by simp [compSt]
theorem compSt_out {σ : St} {i : Nat} {v : V} (h : (compSt k fs σ)[i]? = some (some v)) : ∃ j i', i = k + j ∧ fs[j]? = some i' ∧ σ[i']? = some (some v) := by
  unfold compSt at h
  by_cases hi : i < k
  · rw [List.getElem?_append_left (by simpa using hi), List.getElem?_replicate_of_lt hi] at h
    cases h
  · rw [List.getElem?_append_right (by simpa using Nat.le_of_not_lt hi), List.length_replicate, List.getElem?_map] at h
    cases e : fs[i - k]? with
    | none => rw [e] at h; cases h
    | some i' =>
      rw [e] at h
      refine ⟨i - k, i', by omega, e, ?_⟩
      have h' : (σ[i']?).join = some v := Option.some.inj h
      cases e2 : σ[i']? with
      | none => rw [e2] at h'; cases h'
      | some o =>
        rw [e2] at h'
        have : o = some v := h'
        rw [this]
theorem comp_inv (C : CompOk X scope N k fs) (I : Inv X pins σ H s) (hf : ∀ b ∈ fp, FpOk X pins H b) (ho : ∀ b ∈ fp, b < s.heap.objs.size) :
    Inv (cxComp X scope N fp s H) [] (compSt k fs σ) H { s with heap := pushCells (s.heap.push { cls := .type "dict", data := .dict #[] }) scope.names } := by
  have keep : ∀ b o, s.heap.get? b = some o → (pushCells (s.heap.push { cls := .type "dict", data := .dict #[] }) scope.names).get? b = some o := fun b o e => pushCells_keeps _ _ b o (Heap.get?_push_of_some _ e)
  have ok := cellsFrom_ok scope.names (s.heap.push { cls := .type "dict", data := .dict #[] }) (s.heap.objs.size + 1) [] ⟨fun _ _ hm => (nomatch hm), List.Pairwise.nil⟩ (by rw [Heap.size_push]; exact Nat.le_refl _)
  rw [Heap.size_push] at ok
  refine ⟨comp_ok C I hf ho, rfl, I.bare, Un.kept keep, ⟨fun _ => none, ?_, fun i x v hN hσ hv => ?_⟩, fun x c e => ?_, I.hok.fresh (Nat.le_refl _), fun x c e => ?_, (fun p hp => by simp [cxComp] at hp), I.hok.kept keep, by rw [compSt_len]; exact C.len.symm⟩
  · exact (Heap.Ns.new s.heap (.type "dict")).keeps (pushCells_keeps _ _)
  · obtain ⟨j, i', rfl, hj, hσ'⟩ := compSt_out hσ
    obtain ⟨y, hy1, hy2, hy3, hy4⟩ := C.out j i' hj
    have e : y = x := Option.some.inj (hy1.symm.trans hN)
    subst e
    obtain ⟨m, hn, hl⟩ := I.loc
    have hvis : Vis X.env.scope y := by
      rcases hy4 with z | z
      · exact .inr (.inl z)
      · exact .inr (.inr z)
    obtain ⟨u, ru, lk⟩ := hl i' y v hy2 hσ' hvis
    refine ⟨u, ru, .inr ⟨?_, ?_⟩⟩
    · exact relabel_free hy3
    · rcases lk with ⟨hk, _⟩ | ⟨_, c, hc, hcell⟩
      · rcases hy4 with z | z <;> (rw [hk] at z; cases z)
      · refine ⟨c, ?_, hcell.keeps keep⟩
        show (cellsFrom (s.heap.objs.size + 1) scope.names (clGo X.env.cells scope.names [])).lookup y = some c
        have h1 : (cellsFrom (s.heap.objs.size + 1) scope.names []).lookup y = none := by
          cases e2 : (cellsFrom (s.heap.objs.size + 1) scope.names []).lookup y with
          | none => rfl
          | some c' =>
            have := mem_lookup C.nd (cellsFrom_mem _ _ (mem_of_lookup e2))
            rw [hy3] at this
            cases this
        have h2 : y ∈ (clGo X.env.cells scope.names []).map (·.1) := List.mem_map.mpr ⟨(y, c), clGo_has _ _ (.inr ⟨mem_of_lookup hy3, hc⟩), rfl⟩
        obtain ⟨c2, hc2⟩ := lookup_isSome_of_mem h2
        have h3 := clGo_lookup hc2
        rw [hc] at h3
        cases h3
        rw [cellsFrom_acc, List.lookup_append, h1, hc2]
        rfl
  · rcases comp_cells (cells := X.env.cells) e with h1 | h1
    · exact ⟨none, (ok.empty _ _ h1).1⟩
    · obtain ⟨v, z⟩ := I.cell x c h1
      exact ⟨v, z.keeps keep⟩
  · rcases comp_cells (cells := X.env.cells) e with h1 | h1
    · exact I.hok.fresh (Nat.le_of_succ_le (ok.empty _ _ h1).2)
    · exact I.freeC x c h1
end
end L2
set_option Elab.async false
set_option linter.all false
set_option maxRecDepth 100000
set_option maxHeartbeats 1000000
namespace L2
open PySem PySem.Spec PyProof.Rows
theorem newEnv_comp {M : Model} {A : Around} {E : Value → Shared → Prop} {s : Shared} {scope : Scope} {env : Env} {Q : Env → Shared → Prop}
    (h : Q (newEnv scope s.heap.objs.size env.globals (cellsFrom (s.heap.objs.size + 1) scope.names (clGo env.cells scope.names [])) env.qual none .none (some env) builtinsNs)
      { s with heap := pushCells (s.heap.push { cls := .type "dict", data := .dict #[] }) scope.names }) :
    wpAny M A (newFunctionEnv scope env.globals (clGo env.cells scope.names []) [] env.qual none .none (some env)) Q E s := by
  have sz : (s.heap.push { cls := .type "dict", data := .dict #[] }).objs.size = s.heap.objs.size + 1 := Heap.size_push ..
  unfold newFunctionEnv
  rw [if_pos (show (some env).isSome = true from rfl)]
  apply wpAny_bind
  apply wpAny_alloc
  apply wpAny_bind
  apply wpAny_layCells
  · intro name kind cells
    cases e : kind == NameKind.cell <;> simp [e]
  · rw [sz]
    apply wpAny_bind
    apply wpAny_pure
    exact wpAny_pure h
def CompRd (J : It) (k : Nat) (fs : List Nat) (g : TG) (tb : St → Hp → (Option V → Hp → Prop) → Prop) (σ : St) (acc : Addr) (Qf : Hp → Prop) (H : Hp) : Prop :=
  ∃ W : Nat → Nat → List V → Hp → Prop, (∃ m, W 0 m [] (upd H acc (.lst []))) ∧ ∀ i m ys H2, W i m ys H2 → H2 acc = some (.lst ys) ∧
    ((J.stop i H2 ∧ Qf H2) ∨ (J.go i H2 ∧ ys.length < sizeLine ∧ ∀ x H3, J.yld i H2 x H3 → g x (compSt k fs σ) H3 fun σ4 H4 => tb σ4 H4 fun o H5 =>
      match o with
      | some v => H5 acc = some (.lst ys) ∧ ∃ m', m' < m ∧ W (i + 1) m' (ys ++ [v]) (upd H5 acc (.lst (ys ++ [v])))
      | none => ∃ m', m' < m ∧ W (i + 1) m' ys H5))
def PB (X : Cx) (ifs : List Expr) (elt : Expr) (tb : St → Hp → (Option V → Hp → Prop) → Prop) : Prop :=
  ∀ (pins : List (Addr × Obj)) (s : Shared) (σ : St) (H : Hp) (Q : Option V → Hp → Prop), Inv X pins σ H s → tb σ H Q →
    wpAny (model X.prog X.w) X.A (tested ifs X.env)
      (fun ok s1 => if ok = true then wpAny (model X.prog X.w) X.A (eval elt X.env) (fun u s2 => ∃ v H', Inv X pins σ H' s2 ∧ RelV v u ∧ Q (some v) H') X.xe s1 else ∃ H', Inv X pins σ H' s1 ∧ Q none H') X.xe s
def bElt (te : TE) : St → Hp → (Option V → Hp → Prop) → Prop := fun σ H Q => te σ H fun v H' => Q (some v) H'
def bIf (tc : TT) (te : TE) : St → Hp → (Option V → Hp → Prop) → Prop := fun σ H Q => tc σ H fun b H1 => if b = true then te σ H1 fun v H' => Q (some v) H' else Q none H1
theorem pb_elt {X : Cx} {elt : Expr} {te : TE} (he : PE X elt te) : PB X [] elt (bElt te) := by
  intro pins s σ H Q I h
  refine wpAny_tests_nil ?_
  rw [if_pos rfl]
  exact thn (he pins s σ H _ I h) fun u s2 ⟨v, H', I', r, q⟩ => ⟨v, H', I', r, q⟩
theorem pb_if {X : Cx} {elt c : Expr} {te : TE} {tc : TT} (hc : PT X c tc) (he : PE X elt te) : PB X [c] elt (bIf tc te) := by
  intro pins s σ H Q I h
  refine wpAny_tests_one (thn (hc pins s σ H _ I h) fun b s1 ⟨H1, I1, q1⟩ => ?_)
  cases b with
  | true =>
    rw [if_pos rfl] at q1 ⊢
    exact thn (he pins s1 σ H1 _ I1 q1) fun u s2 ⟨v, H', I', r, q⟩ => ⟨v, H', I', r, q⟩
  | false =>
    rw [if_neg Bool.false_ne_true] at q1 ⊢
    exact ⟨H1, I1, q1⟩
section
variable {X : Cx} {pins : List (Addr × Obj)} {σ : St} {H : Hp} {s : Shared} {scope : Scope} {N : List Str} {k : Nat} {fs : List Nat} {tg iter elt : Expr} {ifs : List Expr} {pos : Pos} {g : TG} {tb : St → Hp → (Option V → Hp → Prop) → Prop}
theorem comp_block {J : It} {fp : List Addr} {it : Addr} {tn : Nat → Heap → Prop} {Qf : Addr → Hp → Prop} {RR : Value → Addr → Result → Shared → Prop} {E : Value → Shared → Prop} (hc : X.calm = true) (C : CompOk X scope N k fs) (I : Inv X pins σ H s)
    (T : Turn X.prog X.w X.K tg J fp it tn) (t0 : tn 0 s.heap) (f0 : ∀ b ∈ fp, FpOk X pins H b) (hg : ∀ fp s H, PG (cxComp X scope N fp s H) tg g) (gl : GLow k g) (hb : ∀ fp s H, PB (cxComp X scope N fp s H) ifs elt tb)
    (h : ∀ acc, H acc = none → CompRd J k fs g tb σ acc (Qf acc) H)
    (hRR : ∀ (acc B : Addr) (H' : Hp) (s' : Shared) (m : Str → Option Value), Qf acc H' → Inv X pins σ H' s' → FpOk X pins H' B → s'.heap.Ns B m → RR (.ref acc) B (.ok .next) s') :
    wpAny (model X.prog X.w) X.A (newList []) (fun acc s₃ => wpAny (model X.prog X.w) X.A (newFunctionEnv scope X.env.globals (clGo X.env.cells scope.names []) [] X.env.qual none .none (some X.env)) (fun cenv s₄ =>
      codeAny (model X.prog X.w) X.A (.compStart (.ListComp elt [⟨tg, iter, ifs, 0⟩] scope pos) 0 (.ref it) acc { cenv with scope := relabel scope X.env }) (RR acc cenv.locals) s₄) E s₃) E s := by
  have hfr : H s.heap.objs.size = none := I.fresh
  refine wpAny_newObj_type ?_
  have I1 : Inv X pins σ (upd H s.heap.objs.size (.lst [])) { s with heap := s.heap.push { cls := .type "list", data := .seq ([] : List Value).toArray } } := I.lnew (t' := s.toks) (its := []) .nil (Nat.zero_le _)
  obtain ⟨W, ⟨m0, w0⟩, turn⟩ := h _ hfr
  generalize hacc : s.heap.objs.size = acc at *
  generalize hs1 : ({ s with heap := s.heap.push { cls := .type "list", data := .seq ([] : List Value).toArray } } : Shared) = s1 at *
  have keep1 : ∀ b o, s.heap.get? b = some o → s1.heap.get? b = some o := fun b o e => by rw [← hs1]; exact Heap.get?_push_of_some _ e
  have fpl : ∀ b ∈ fp, b < s.heap.objs.size := fun b hb => let ⟨o, e, _⟩ := T.obj _ _ t0 b hb; Heap.lt_size e
  have sz1 : s1.heap.objs.size = acc + 1 := by rw [← hs1, ← hacc]; exact Heap.size_push ..
  have f1 : ∀ b ∈ fp, FpOk X pins (upd H acc (.lst [])) b := fun b hb => ⟨by rw [upd_ne (Nat.ne_of_lt (by rw [← hacc]; exact fpl b hb))]; exact (f0 b hb).1, (f0 b hb).2⟩
  have ho1 : ∀ b ∈ fp, b < s1.heap.objs.size := fun b hb => by rw [sz1, ← hacc]; exact Nat.lt_succ_of_lt (fpl b hb)
  have t1 : tn 0 s1.heap := T.keep _ _ _ t0 fun b _ o e => keep1 b o e
  refine newEnv_comp ?_
  have I2 := comp_inv (fp := fp) C I1 f1 ho1
  have keep2 : ∀ b o, s1.heap.get? b = some o → (pushCells (s1.heap.push { cls := .type "dict", data := .dict #[] }) scope.names).get? b = some o := fun b o e => pushCells_keeps _ _ b o (Heap.get?_push_of_some _ e)
  generalize hs2 : ({ s1 with heap := pushCells (s1.heap.push { cls := .type "dict", data := .dict #[] }) scope.names } : Shared) = s2 at *
  have t2 : tn 0 s2.heap := T.keep _ _ _ t1 fun b _ o e => by rw [← hs2]; exact keep2 b o e
  have stat : ∀ {H' : Hp}, (∀ b ∈ fp, H' b = none) → ∀ b ∈ fp, FpOk (cxComp X scope N fp s1 (upd H acc (.lst []))) [] H' b := fun {H'} hn b hb =>
    ⟨hn b hb, ((I2.ok.exf b hb)).1, I2.ok.exfs b hb, .inl hb, (I2.ok.exf b hb).2, (fun p hp => by simp [cxComp] at hp)⟩
  have back : ∀ {σ' : St} {H' : Hp} {s' : Shared}, Inv (cxComp X scope N fp s1 (upd H acc (.lst []))) [] σ' H' s' → Inv X pins σ H' s' ∧ FpOk X pins H' s1.heap.objs.size ∧ ∃ m, s'.heap.Ns s1.heap.objs.size m := fun {σ' H' s'} J => by
    refine ⟨I1.call' (ch := fp) J.os J.base J.hok J.bare fun b hb => ⟨(f1 b hb).2.2.2.1, (f1 b hb).2.1, (f1 b hb).2.2.2.2.1, (f1 b hb).2.2.2.2.2⟩, I1.fpOk (Nat.le_refl _) J.free, ?_⟩
    obtain ⟨m, hn, _⟩ := J.loc
    exact ⟨m, hn⟩
  have loop : codeAny (model X.prog X.w) X.A (.compLoop (.ListComp elt [⟨tg, iter, ifs, 0⟩] scope pos) 0 (.ref it) (.ref acc) (compEnvX scope s1.heap.objs.size X.env)) (RR (.ref acc) s1.heap.objs.size) s2 := by
    refine compLoop_any (fun n s' => ∃ i σ' H' ys, Inv (cxComp X scope N fp s1 (upd H acc (.lst []))) [] σ' H' s' ∧ tn i s'.heap ∧ (∀ b ∈ fp, H' b = none) ∧ W i n ys H' ∧ σ'.length = (compSt k fs σ).length ∧ ∀ j, k ≤ j → σ'[j]? = (compSt k fs σ)[j]?) ?_ m0
      ⟨0, _, _, [], I2, t2, fun b hb => (f1 b hb).1, w0, rfl, fun _ _ => rfl⟩
    rintro n s3 ⟨i, σ3, H3, ys, I3, st3, fr3, w3, len3, ag3⟩
    have I3' := I3.weak (σ' := compSt k fs σ) len3.symm fun j v e => by
      obtain ⟨j', i', rfl, _, _⟩ := compSt_out e
      rw [ag3 _ (Nat.le_add_right _ _)]
      exact e
    obtain ⟨ha, hcase⟩ := turn i n ys H3 w3
    rcases hcase with ⟨stop, q⟩ | ⟨go, hlt, step⟩
    · refine thn (T.done (cxComp X scope N fp s1 (upd H acc (.lst []))) rfl rfl rfl hc i [] s3 _ H3 _ I3' (stat fr3) st3 stop) fun r s4 ⟨hr, I4⟩ => ?_
      subst hr
      obtain ⟨b1, b2, m, b3⟩ := back I4
      exact hRR acc _ H3 s4 m q b1 b2 b3
    · refine thn (T.item (cxComp X scope N fp s1 (upd H acc (.lst []))) rfl rfl rfl hc i [] s3 _ H3 _ I3' (stat fr3) st3 go) fun r s4 ⟨u, hr, h4⟩ => ?_
      subst hr
      refine thn h4 fun _ s5 ⟨x, H5, I5, r5, y5, st5, fr5⟩ => ?_
      have I5' := I5.pinned (stat fr5) (T.obj _ _ st5)
      refine thn (hg _ _ _ _ s5 _ H5 x u _ I5' r5 (gl _ _ _ _ (step x H5 y5))) fun _ s6 ⟨σ6, H6, I6, q6, len6, ag6⟩ => ?_
      refine thn (hb _ _ _ _ s6 σ6 H6 _ I6 q6) fun ok s7 q7 => ?_
      have again : ∀ {H8 : Hp} {s8 : Shared} {ys' : List V} {m' : Nat}, Inv (cxComp X scope N fp s1 (upd H acc (.lst []))) ([] ++ pinsAt fp s5.heap) σ6 H8 s8 → m' < n → W (i + 1) m' ys' H8 →
          ∃ m, m < n ∧ ∃ i σ' H' ys, Inv (cxComp X scope N fp s1 (upd H acc (.lst []))) [] σ' H' s8 ∧ tn i s8.heap ∧ (∀ b ∈ fp, H' b = none) ∧ W i m ys H' ∧ σ'.length = (compSt k fs σ).length ∧ ∀ j, k ≤ j → σ'[j]? = (compSt k fs σ)[j]? := fun {H8 s8 ys' m'} I8 hm w8 => by
        refine ⟨m', hm, i + 1, σ6, H8, ys', I8.unpinned, T.keep _ _ _ st5 fun b hb o e => (I8.pin (b, o) (List.mem_append_right _ (List.mem_append_right _ (mem_pinsAt hb e)))).1, fun b hb => ?_, w8, len6, ag6⟩
        obtain ⟨o, e, d⟩ := T.obj _ _ st5 b hb
        exact (I8.pin (b, o) (List.mem_append_right _ (List.mem_append_right _ (mem_pinsAt hb e)))).2.1
      cases ok with
      | false =>
        rw [if_neg Bool.false_ne_true] at q7 ⊢
        obtain ⟨H8, I8, m', hm, w8⟩ := q7
        exact again I8 hm w8
      | true =>
        rw [if_pos rfl] at q7 ⊢
        refine thn q7 fun u8 s8 ⟨v, H8, I8, r8, ha8, m', hm, w8⟩ => ?_
        refine thn (mt_append _ s8 σ6 H8 (.ref acc) [v] (.ref acc) [u8] (fun _ H' => H' = upd H8 acc (.lst (ys ++ [v]))) I8 rfl (.cons r8 .nil) ⟨acc, ys, v, rfl, rfl, ha8, hlt, rfl⟩) fun _ s9 ⟨_, H9, I9, _, e9⟩ => ?_
        subst e9
        exact again I9 hm w8
  exact codeAny_compStart_list loop (T.self _ 0 _ _ _ t2 loop)
def tComp (wi : TI) (k : Nat) (fs : List Nat) (g : TG) (tb : St → Hp → (Option V → Hp → Prop) → Prop) : TE := fun σ H Q => wi σ H fun J H1 => ∀ acc, H1 acc = none → CompRd J k fs g tb σ acc (fun H2 => Q (.ref acc) H2) H1
theorem pe_comp {wi : TI} (hc : X.calm = true) (C : CompOk X scope N k fs) (hi : PI X tg iter wi) (hg : ∀ fp s H, PG (cxComp X scope N fp s H) tg g) (gl : GLow k g) (hb : ∀ fp s H, PB (cxComp X scope N fp s H) ifs elt tb)
    (hs : ∀ x, foldedSetIterable iter X.env x = pure x := by intro _; rfl) : PE X (.ListComp elt [⟨tg, iter, ifs, 0⟩] scope pos) (tComp wi k fs g tb) := by
  intro pins s σ H Q I h
  rw [eval_ListComp]
  refine wpAny_comprehension_free (use := none) rfl hs C.clos C.kind C.names (thn (hi pins s σ H _ I h) fun v s1 h1 => thn h1 fun itv s2 h2 => ?_)
  obtain ⟨it, fp, tn, J, H2, e, I2, T, st2, f2, q2⟩ := h2
  subst e
  refine comp_block (RR := fun acc B => compPost (model X.prog X.w) X.A X.xe none (EP X pins σ Q) acc B) hc C I2 T st2 f2 hg gl hb q2 ?_
  intro acc B H' s' m q I' F n
  exact ⟨m, n, fun h' sb => ⟨.ref acc, H', I'.turned (t' := s'.toks) (fun b o hb e => sb.extBut b o hb e) F.1 F.2.1 F.2.2.2.1 F.2.2.2.2.1 F.2.2.2.2.2, rfl, q⟩⟩
end
end L2
set_option Elab.async false
set_option linter.all false
set_option maxRecDepth 100000
set_option maxHeartbeats 1000000
namespace L2
open PySem PySem.Spec PyProof.Rows
mutual
inductive Has (K : PySem.W.Frag) (H : Hp) : V → PyData → Prop
  | non : Has K H .non .none
  | bl (b : Bool) : Has K H (.bl b) (.bool b)
  | int (i : Int) : Has K H (.int i) (.int i)
  | str (x : Str) : Has K H (.str x) (.str x)
  | lst {a : Addr} {xs : List V} {ds : List PyData} : SqL K H a xs → HasAll K H xs ds → Has K H (.ref a) (.list ds)
  | tup {a : Addr} {xs : List V} {ds : List PyData} : SqT K H a xs → HasAll K H xs ds → Has K H (.ref a) (.tuple ds)
inductive HasAll (K : PySem.W.Frag) (H : Hp) : List V → List PyData → Prop
  | nil : HasAll K H [] []
  | cons {v : V} {d : PyData} {vs : List V} {ds : List PyData} : Has K H v d → HasAll K H vs ds → HasAll K H (v :: vs) (d :: ds)
end
theorem Same.seqT {K : PySem.W.Frag} {H H' : Hp} {a : Addr} {xs : List V} (e : Same H H') (h : SqT K H a xs) : SqT K H' a xs := by
  rcases h with (h | ⟨o, h⟩) | h
  · exact .inl (.inl (e _ _ h))
  · exact .inl (.inr ⟨o, e _ _ h⟩)
  · exact .inr h
mutual
theorem Has.same {K : PySem.W.Frag} {H H' : Hp} (e : Same H H') : ∀ {v : V} {d : PyData}, Has K H v d → Has K H' v d
  | _, _, .non => .non
  | _, _, .bl b => .bl b
  | _, _, .int i => .int i
  | _, _, .str x => .str x
  | _, _, .lst h r => .lst (e.seq h) (HasAll.same e r)
  | _, _, .tup h r => .tup (e.seqT h) (HasAll.same e r)
theorem HasAll.same {K : PySem.W.Frag} {H H' : Hp} (e : Same H H') : ∀ {v : List V} {d : List PyData}, HasAll K H v d → HasAll K H' v d
  | _, _, .nil => .nil
  | _, _, .cons h r => .cons (Has.same e h) (HasAll.same e r)
end
mutual
theorem Has.reads {X : Cx} {pins : List (Addr × Obj)} {σ : St} {H : Hp} {s : Shared} (I : Inv X pins σ H s) : ∀ {v : V} {d : PyData}, Has X.K H v d → ∀ {u : Value}, RelV v u → ∃ as, Reads s.heap u d as
  | _, _, .non, u, r => by cases (show u = Value.none from r); exact ⟨_, .none⟩
  | _, _, .bl b, u, r => by cases (show u = Value.bool b from r); exact ⟨_, .bool b⟩
  | _, _, .int i, u, r => by obtain ⟨t, rfl⟩ := (show ∃ t, u = Value.int i t from r); exact ⟨_, .int i t⟩
  | _, _, .str x, u, r => by obtain ⟨t, rfl⟩ := (show ∃ t, u = Value.str x t from r); exact ⟨_, .str x t⟩
  | _, _, .lst (a := a) h r, u, q => by
    cases (show u = Value.ref a from q)
    obtain ⟨its, rv, p, _⟩ := I.list h
    obtain ⟨as, ra⟩ := HasAll.reads I r rv
    obtain ⟨o, ho, hc, n, hd⟩ := p.isList
    exact ⟨_, .list ho hc hd (by rw [List.toList_toArray]; exact ra)⟩
  | _, _, .tup (a := a) h r, u, q => by
    cases (show u = Value.ref a from q)
    obtain ⟨its, rv, p, _⟩ := I.tuple h
    obtain ⟨as, ra⟩ := HasAll.reads I r rv
    obtain ⟨o, ho, hc, n, hd⟩ := p
    exact ⟨_, .tuple ho hc hd (by rw [List.toList_toArray]; exact ra)⟩
theorem HasAll.reads {X : Cx} {pins : List (Addr × Obj)} {σ : St} {H : Hp} {s : Shared} (I : Inv X pins σ H s) : ∀ {vs : List V} {ds : List PyData}, HasAll X.K H vs ds → ∀ {us : List Value}, Vals vs us → ∃ as, ReadsAll s.heap us ds as
  | _, _, .nil, us, r => by cases r; exact ⟨_, .nil⟩
  | _, _, .cons h t, us, r => by
    cases r with
    | cons r1 r2 =>
      obtain ⟨a1, h1⟩ := Has.reads I h r1
      obtain ⟨a2, h2⟩ := HasAll.reads I t r2
      exact ⟨_, .cons h1 h2⟩
end
theorem HasAll.ints {K : PySem.W.Frag} {H : Hp} : ∀ ns : List Int, HasAll K H (ns.map V.int) (ns.map PyData.int)
  | [] => .nil
  | n :: r => .cons (.int n) (HasAll.ints r)
def dI (ns : List Int) : PyData := .list (ns.map PyData.int)
theorem Has.ints {K : PySem.W.Frag} {H : Hp} {a : Addr} {ns : List Int} (h : SqL K H a (ns.map V.int)) : Has K H (.ref a) (dI ns) := .lst h (HasAll.ints ns)
section
variable {X : Cx}
def rEqD (K : PySem.W.Frag) : R2 := fun x y H Q => ∃ d e, Has K H x d ∧ Has K H y e ∧ SeqAt.shaped d = true ∧ SeqAt.shaped e = true ∧ Q (.bl (PyData.eqv d e)) H
def rNeD (K : PySem.W.Frag) : R2 := fun x y H Q => ∃ d e, Has K H x d ∧ Has K H y e ∧ SeqAt.shaped d = true ∧ SeqAt.shaped e = true ∧ Q (.bl (!PyData.eqv d e)) H
theorem op_eqD (hu : X.A.units + 64 < cLine) : OpR X (compareOp .Eq) (rEqD X.K) := by
  intro pins s σ H x y v u Q I rx ry h
  obtain ⟨d, e, hd, he, sd, se, q⟩ := h
  obtain ⟨as, ra⟩ := hd.reads I rx
  obtain ⟨bs, rb⟩ := he.reads I ry
  exact SeqAt.compareEq_shaped ra rb sd se hu ⟨.bl _, H, I, rfl, q⟩
theorem op_neD (hu : X.A.units + 64 < cLine) : OpR X (compareOp .NotEq) (rNeD X.K) := by
  intro pins s σ H x y v u Q I rx ry h
  obtain ⟨d, e, hd, he, sd, se, q⟩ := h
  obtain ⟨as, ra⟩ := hd.reads I rx
  obtain ⟨bs, rb⟩ := he.reads I ry
  exact SeqAt.compareNe_shaped ra rb sd se hu ⟨.bl _, H, I, rfl, q⟩
theorem ints_vals : ∀ {ns : List Int} {us : List Value}, Vals (ns.map V.int) us → IntsAre us ns := fun r => intsAre_of r
theorem bools_vals : ∀ {bs : List Bool} {us : List Value}, Vals (bs.map V.bl) us → LSm.BoolsAre us bs
  | [], _, .nil => .nil
  | b :: r, _, .cons h t => by
    cases (show _ = Value.bool b from h)
    exact .cons b (bools_vals t)
theorem call_all (hc : X.calm = true) : CallR X (.builtin "all") (fun xs H Q => ∃ (a : Addr) (bs : List Bool), xs = [.ref a] ∧ SqL X.K H a (bs.map V.bl) ∧ Q (.bl (bs.all id)) H) := by
  intro pins s σ H xs us Q I r h
  obtain ⟨a, bs, rfl, hq, q⟩ := h
  obtain ⟨u, rfl, rx⟩ := vals1 r
  cases rx
  obtain ⟨its, rv, p, _⟩ := I.list hq
  have hb := bools_vals rv
  have hlt : a < s.heap.objs.size := by obtain ⟨_, e, _⟩ := p.isList; exact Heap.lt_size e
  refine call_all_walk (wpAny_pyIter_list p.isList ?_)
  refine ⟨s.heap.objs.size, [s.heap.objs.size, a], [s.heap.objs.size], its.toArray.size, _, _, fun i => (bs[i]?).getD true, rfl, Walks.list (A := X.A.in1) (I.ok.hd hc) _ a (Nat.ne_of_lt hlt) its.toArray,
    ⟨⟨_, Heap.get?_push_size _ rfl, rfl, rfl⟩, p.isList.push _⟩, fun i v s' Q' E' hP hQ => ?_, fun h' tk hk => ?_⟩
  · have hP : its[i]? = some v := by simpa using hP
    obtain ⟨b, e, rfl⟩ := hb.get i v hP
    refine wpAny_truthy_bool ?_
    simpa only [e, Option.getD_some] using hQ
  · have e : ((List.range its.toArray.size).all fun i => (bs[i]?).getD true) = bs.all id := by
      rw [List.size_toArray, hb.length]
      exact LSm.range_all bs
    exact ⟨.bl (bs.all id), H, I.kept (LSm.kept_iter hk), by rw [e]; rfl, q⟩
theorem call_isi : CallR X (.builtin "isinstance") (fun xs H Q => ∃ x t n b, xs = [x, .ty n] ∧ TyOf X.K H x t ∧ PySem.W.kitOne X.K t (.type n) = some b ∧ Q (.bl b) H) := by
  intro pins s σ H xs us Q I r h
  obtain ⟨x, t, n, b, rfl, ty, e, q⟩ := h
  obtain ⟨u, v, rfl, r1, r2⟩ := vals2 r
  cases (show v = Value.type n from r2)
  exact isinst_ok I r1 ty e fun tk => ⟨.bl b, H, I.tok tk, rfl, q⟩
end
end L2
set_option Elab.async false
set_option linter.all false
set_option maxRecDepth 100000
set_option maxHeartbeats 1000000
namespace L2
open PySem PySem.Spec PyProof.Rows
theorem Inv.turnedNew {X : Cx} {pins : List (Addr × Obj)} {σ : St} {H : Hp} {s : Shared} {h' : Heap} {t' : Nat} {fp : List Addr} {a : Addr} {o : HO} (I : Inv X pins σ H s)
    (k : ∀ b u, b ∉ fp → s.heap.get? b = some u → h'.get? b = some u) (hf : ∀ b ∈ fp, FpOk X pins H b) (ho : ∀ b ∈ fp, ∃ u, h'.get? b = some u) (hp : s.heap.objs.size ≤ a) (new : ObjOk X.prog X.w (upd H a o) h' a o) :
    Inv X pins σ (upd H a o) { s with heap := h', toks := t' } := by
  have fr : H a = none := I.hok.fresh hp
  have nfp : ∀ b u, H b = some u → b ∉ fp := fun b u e z => by
    have := (hf b z).1
    rw [e] at this
    cases this
  refine I.step (g' := s.gens) (d' := s.drawn) (ch := fp) (fun b hb => ⟨(hf b hb).2.2.2.1, (hf b hb).2.1, (hf b hb).2.2.2.2.1, (hf b hb).2.2.2.2.2⟩) (fun b u _ _ hc e _ => k b u hc e) (fun b u _ _ hc e _ => ⟨u.slots, k b u hc e⟩)
    (fun b u _ e n => ?_) (fun b u hc e => ⟨u, k b u hc e⟩) (fun b xs e => ?_) (fun b u v e => ?_) (fun b ps e => ⟨#[], ?_⟩) (fun m hm => ?_) (fun b u e => ?_) I.bare
  · rw [upd_ne (Nat.ne_of_lt (Nat.lt_of_lt_of_le (Heap.lt_size e) hp))]; exact n
  · rw [upd_ne (ne_of_none e fr)]; exact e
  · rw [upd_ne (ne_of_none e fr)]; exact e
  · rw [upd_ne (ne_of_none e fr), e]; simp
  · obtain ⟨ob, es, ep, hob, r⟩ := hm
    exact ⟨ob, es, ep, k _ ob (fun z => (hf _ z).2.1 rfl) hob, r⟩
  · by_cases hb : b = a
    · subst hb
      rw [upd_same] at e
      cases e
      exact new
    · rw [upd_ne hb] at e
      refine (I.hok b u e).stay (fun c v hc q => k c v ?_ q) (fun c q => by rw [upd_ne (ne_of_none q fr)]; exact q) fun c xs q => by rw [upd_ne (ne_of_none q fr)]; exact q
      rcases hc with z | z
      · rw [z]; exact nfp b u e
      · exact nfp c _ z
theorem Inv.turnedL {X : Cx} {pins : List (Addr × Obj)} {σ : St} {H : Hp} {s : Shared} {h' : Heap} {t' : Nat} {fp : List Addr} (I : Inv X pins σ H s)
    (k : ∀ b u, b ∉ fp → s.heap.get? b = some u → h'.get? b = some u) (hf : ∀ b ∈ fp, FpOk X pins H b) : Inv X pins σ H { s with heap := h', toks := t' } := by
  have nfp : ∀ b u, H b = some u → b ∉ fp := fun b u e z => by
    have := (hf b z).1
    rw [e] at this
    cases this
  refine I.step (g' := s.gens) (d' := s.drawn) (ch := fp) (fun b hb => ⟨(hf b hb).2.2.2.1, (hf b hb).2.1, (hf b hb).2.2.2.2.1, (hf b hb).2.2.2.2.2⟩) (fun b u _ _ hc e _ => k b u hc e) (fun b u _ _ hc e _ => ⟨u.slots, k b u hc e⟩)
    (fun b u _ _ n => n) (fun b u hc e => ⟨u, k b u hc e⟩) (fun b xs e => e) (fun b u v e => e) (fun b ps e => ⟨#[], by rw [e]; simp⟩) (fun m hm => ?_) (fun b u e => ?_) I.bare
  · obtain ⟨ob, es, ep, hob, r⟩ := hm
    exact ⟨ob, es, ep, k _ ob (fun z => (hf _ z).2.1 rfl) hob, r⟩
  · refine (I.hok b u e).stay (fun c v hc q => k c v ?_ q) (fun c q => q) fun c xs q => q
    rcases hc with z | z
    · rw [z]; exact nfp b u e
    · exact nfp c _ z
def Itz (K : PySem.W.Frag) (a b : Addr) : It :=
  ⟨fun i H => ∃ xs ys x y, SqL K H a xs ∧ SqL K H b ys ∧ xs[i]? = some x ∧ ys[i]? = some y,
   fun i H v H' => ∃ t x y, v = .ref t ∧ H t = none ∧ H' = upd H t (.tup [x, y]) ∧ (∀ xs, SqL K H a xs → xs[i]? = some x) ∧ ∀ ys, SqL K H b ys → ys[i]? = some y,
   fun i H => ∃ xs ys, SqL K H a xs ∧ SqL K H b ys ∧ (xs.length ≤ i ∨ ys.length ≤ i)⟩
def ZTn (z TI TO i1 i2 a b : Addr) (i : Nat) (h : Heap) : Prop := IsZip h z TI TO .none ∧ IsPair h TI (.ref i1) (.ref i2) ∧ (∃ u v, IsPair h TO u v) ∧ h.IsListIter i1 a i ∧ h.IsListIter i2 b i
theorem turn_zip {P : Program} {w : World} {K : PySem.W.Frag} {es : List Expr} {k : Nat} {pos : Pos} {z TI TO i1 i2 a b : Addr} (D : ZipApart z TI TO i1 i2 a b) :
    Turn P w K (.Tuple es k pos) (Itz K a b) [z, TI, TO, i1, i2] z (ZTn z TI TO i1 i2 a b) where
  mem := by simp
  obj := fun i h st c hc => by
    obtain ⟨hz, hTI, ⟨u, v, hTO⟩, ⟨o1, e1, c1, d1⟩, ⟨o2, e2, c2, d2⟩⟩ := st
    simp only [List.mem_cons, List.not_mem_nil, or_false] at hc
    rcases hc with rfl | rfl | rfl | rfl | rfl
    · exact ⟨_, hz, fun v z => nomatch z⟩
    · exact ⟨_, hTI, fun v z => nomatch z⟩
    · exact ⟨_, hTO, fun v z => nomatch z⟩
    · exact ⟨o1, e1, fun v z => by rw [d1] at z; cases z⟩
    · exact ⟨o2, e2, fun v z => by rw [d2] at z; cases z⟩
  keep := fun i h h' st kp => by
    obtain ⟨hz, hTI, ⟨u, v, hTO⟩, h1, h2⟩ := st
    exact ⟨kp _ (by simp) _ hz, kp _ (by simp) _ hTI, ⟨u, v, kp _ (by simp) _ hTO⟩, h1.at fun o e => kp _ (by simp) o e, h2.at fun o e => kp _ (by simp) o e⟩
  item := by
    intro X hP hw hK hc i pins s σ H E I hf st hg
    subst hP hw hK
    obtain ⟨xs, ys, x, y, ha, hb, hx, hy⟩ := hg
    obtain ⟨us, ru, pu, _⟩ := I.list ha
    obtain ⟨vs, rv, pv, _⟩ := I.list hb
    obtain ⟨u, eu, rxu⟩ := ru.get hx
    obtain ⟨v, ev, ryv⟩ := rv.get hy
    obtain ⟨hz, hTI, ⟨u0, v0, hTO⟩, h1, h2⟩ := st
    refine wpAny_pyNext_zip_item D hz hTI hTO h1 h2 pu.isList pv.isList (x := u) (y := v) (by simpa using eu) (by simpa using ev) fun h' b1 b2 b3 b4 b5 b6 b7 => ⟨_, rfl, ?_⟩
    refine wpAny_letOwnedTupleGo_zip b1 fun hp2 c1 cs => ?_
    have nz : s.heap.objs.size ≠ z := Nat.ne_of_gt (Heap.lt_size hz)
    have kp : ∀ c o, c ∉ [z, TI, TO, i1, i2] → s.heap.get? c = some o → hp2.get? c = some o := fun c o hc' e => by
      simp only [List.mem_cons, List.not_mem_nil, or_false, not_or] at hc'
      exact cs.extBut c o hc'.1 (b7 c o hc'.1 hc'.2.2.1 hc'.2.2.2.1 hc'.2.2.2.2 e)
    have st' : ZTn z TI TO i1 i2 a b (i + 1) hp2 := ⟨c1, cs.extBut _ _ D.TIz (b7 _ _ D.TIz D.TITO D.TIi1 D.TIi2 hTI), ⟨_, _, cs.extBut _ _ D.TOz b2⟩, b3.extBut cs.extBut D.i1z, b4.extBut cs.extBut D.i2z⟩
    have pr : IsPair hp2 s.heap.objs.size u v := cs.extBut _ _ nz b5
    have fr : H s.heap.objs.size = none := I.fresh
    refine ⟨.ref s.heap.objs.size, upd H s.heap.objs.size (.tup [x, y]), I.turnedNew (t' := s.toks) kp hf (fun c hc' => ?_) (Nat.le_refl _) ⟨by show 2 ≤ sizeLine; decide, [u, v], .cons rxu (.cons ryv .nil), ⟨_, pr, rfl, _, rfl⟩⟩, rfl,
      ⟨_, x, y, rfl, fr, rfl, fun zs hq => by rw [I.list_inj hq ha]; exact hx, fun zs hq => by rw [I.list_inj hq hb]; exact hy⟩, st', fun c hc' => ?_⟩
    · obtain ⟨d1, d2, ⟨p, q, d3⟩, ⟨p1, d4, _⟩, ⟨p2, d5, _⟩⟩ := st'
      simp only [List.mem_cons, List.not_mem_nil, or_false] at hc'
      rcases hc' with rfl | rfl | rfl | rfl | rfl
      · exact ⟨_, d1⟩
      · exact ⟨_, d2⟩
      · exact ⟨_, d3⟩
      · exact ⟨_, d4⟩
      · exact ⟨_, d5⟩
    · have : c < s.heap.objs.size := by
        obtain ⟨p1, d4, _⟩ := h1
        obtain ⟨p2, d5, _⟩ := h2
        simp only [List.mem_cons, List.not_mem_nil, or_false] at hc'
        rcases hc' with rfl | rfl | rfl | rfl | rfl
        · exact Heap.lt_size hz
        · exact Heap.lt_size hTI
        · exact Heap.lt_size hTO
        · exact Heap.lt_size d4
        · exact Heap.lt_size d5
      rw [upd_ne (Nat.ne_of_lt this)]
      exact (hf c hc').1
  done := by
    intro X hP hw hK hc i pins s σ H E I hf st hg
    subst hP hw hK
    obtain ⟨xs, ys, ha, hb, hend⟩ := hg
    obtain ⟨us, ru, pu, _⟩ := I.list ha
    obtain ⟨vs, rv, pv, _⟩ := I.list hb
    have lu := ru.length
    have lv := rv.length
    obtain ⟨hz, hTI, ⟨u0, v0, hTO⟩, h1, h2⟩ := st
    refine wpAny_pyNext_zip_end (I.ok.hd hc) D hz hTI hTO h1 h2 pu.isList pv.isList ?_ fun h' kp => ⟨rfl, I.turnedL (t' := s.toks) (fun c o hc' e => ?_) hf⟩
    · rcases hend with q | q
      · exact .inl (Array.getElem?_eq_none (by rw [List.size_toArray]; omega))
      · exact .inr (Array.getElem?_eq_none (by rw [List.size_toArray]; omega))
    · simp only [List.mem_cons, List.not_mem_nil, or_false, not_or] at hc'
      exact kp c o hc'.1 hc'.2.2.1 hc'.2.2.2.1 hc'.2.2.2.2 e
  self := fun _ _ _ _ _ st h => wpAny_pyIter_zip st.1 h
def iZip (K : PySem.W.Frag) (ta : TA) : TI := fun σ H R => ta σ H fun vs H1 => ∃ a b, vs = [.ref a, .ref b] ∧ (∃ xs, SqL K H1 a xs) ∧ (∃ ys, SqL K H1 b ys) ∧ R (Itz K a b) H1
theorem pi_zip {X : Cx} {es : List Expr} {k : Nat} {tp : Pos} {a b : Expr} {t : TA} {p pos : Pos} (hc : X.calm = true) (hg : Gl X "zip") (hm : X.mg "zip" = none) (ha : PA X [a, b] t)
    (hs : starEach [a, b] X.env = [(false, eval a X.env), (false, eval b X.env)] := by rfl) (hs2 : starEach [b] X.env = [(false, eval b X.env)] := by rfl) :
    PI X (.Tuple es k tp) (.Call (.Name "zip" p) [a, b] [] pos) (iZip X.K t) := by
  intro pins s σ H R I h
  refine Call_ (ld_blt I hg hm boot_zip (PyProof.Rows.callWith_type1 (thn (ha pos pins s σ H _ I h) fun us s1 ⟨vs, H1, I1, r1, x, y, e, ⟨xs, hx⟩, ⟨ys, hy⟩, q⟩ => ?_) (by rw [hs, hs2]) (by rw [hs2]; rfl)))
  subst e
  obtain ⟨u, v, rfl, rx, ry⟩ := vals2 r1
  cases rx
  cases ry
  obtain ⟨us', ru, pu, zu⟩ := I1.list hx
  obtain ⟨vs', rv, pv, zv⟩ := I1.list hy
  have a1 : x < s1.heap.objs.size := by obtain ⟨_, e, _⟩ := pu.isList; exact Heap.lt_size e
  have a2 : y < s1.heap.objs.size := by obtain ⟨_, e, _⟩ := pv.isList; exact Heap.lt_size e
  refine call_zip_2 pu.isList pv.isList fun h1 hz hTI hTO hi1 hi2 hsz hk => ?_
  refine wpAny_pyIter_zip hz ?_
  have big : ∀ c ∈ [s1.heap.objs.size + 4, s1.heap.objs.size + 2, s1.heap.objs.size + 3, s1.heap.objs.size, s1.heap.objs.size + 1], s1.heap.objs.size ≤ c := fun c hc' => by
    simp only [List.mem_cons, List.not_mem_nil, or_false] at hc'
    rcases hc' with rfl | rfl | rfl | rfl | rfl
    · exact Nat.le_add_right _ 4
    · exact Nat.le_add_right _ 2
    · exact Nat.le_add_right _ 3
    · exact Nat.le_refl _
    · exact Nat.le_add_right _ 1
  exact ⟨_, [s1.heap.objs.size + 4, s1.heap.objs.size + 2, s1.heap.objs.size + 3, s1.heap.objs.size, s1.heap.objs.size + 1], _, _, H1, rfl, I1.kept (t' := s1.toks) hk, turn_zip (zipApart_new a1 a2), ⟨hz, hTI, ⟨_, _, hTO⟩, hi1, hi2⟩,
    fun c hc' => I1.fpOk (big c hc') (I1.hok.fresh (big c hc')), q⟩
section
variable {X : Cx}
def CMulB (i j : Int) : Prop := i.natAbs.log2 < 1000000 ∧ j.natAbs.log2 < 1000000
def CDivB (i j : Int) : Prop := 0 < j ∧ j.natAbs.log2 < 9000
theorem bits_of_log2 {i : Int} (h : i.natAbs.log2 < 1000000) : Builtin.Int.intBits i ≤ 2 ^ 20 := by
  have million : 1000000 < (2 : Nat) ^ 20 := by decide
  unfold Builtin.Int.intBits
  first
    | omega
    | (split <;> omega)
theorem op_mulB : OpR X (binaryOp .Mult) (rI CMulB fun i j => .int (i * j)) := opI fun _ _ _ _ _ _ _ hc q => mul_int q (.of_bits (bits_of_log2 hc.1) (bits_of_log2 hc.2))
theorem op_fdivB : OpR X (binaryOp .FloorDiv) (rI CDivB fun i j => .int (i / j)) := opI fun i j _ _ _ _ _ hc q => by
  have h1 : (0 : Int) < j := hc.1
  exact floordiv_int (by omega) (by rw [Int.fdiv_eq_ediv_of_nonneg i (by omega)]; exact q) (.inl (PyProof.noPylong_of_log2 hc.2))
end
end L2
set_option Elab.async false
set_option linter.all false
set_option maxRecDepth 100000
set_option maxHeartbeats 1000000
namespace L2
open PySem PySem.Spec PyProof.Rows
def Callee (P : Program) (w : World) (K : PySem.W.Frag) (mg : Str → Option Value) (base : Heap) (CX : CXT) (k : Nat) (x : Str) (ps : List Str) (sp : Sp) : Prop :=
  ∃ (f : Addr) (fd : FuncData), FnOk P w K mg base CX k f fd ps sp ∧ mg x = some (.ref f) ∧ PySem.W.keepIn K (.ref f) = true ∧ Binds K fd ps []
def FunAt (K : PySem.W.Frag) (mg : Str → Option Value) (x : Str) (st : Stmt) (ps : List Str) : Prop :=
  ∃ (f : Addr) (fd : FuncData), Fun K x x st f fd ∧ mg x = some (.ref f) ∧ Binds K fd ps []
theorem Callee.mono {P : Program} {w : World} {K : PySem.W.Frag} {mg : Str → Option Value} {base : Heap} {CX : CXT} {j k : Nat} {x : Str} {ps : List Str} {sp : Sp} (c : Callee P w K mg base CX j x ps sp) (h : j ≤ k) : Callee P w K mg base CX k x ps sp :=
  let ⟨f, fd, F, m, kp, b⟩ := c
  ⟨f, fd, F.mono h, m, kp, b⟩
section
variable {P : Program} {w : World} {K : PySem.W.Frag} {mg : Str → Option Value} {base : Heap}
end
theorem funAt_mk {K : PySem.W.Frag} {mg : Str → Option Value} {h : Heap} {x : Str} {st : Stmt} {ps : List Str} {f : Addr} {oc : Value} {od an : Option Addr} {osl : Array (Option Value)} {kV doc pm cdv ct : Value} (X : K.In h) (G : h.Ns mainGlobals mg)
    (a : PySem.W.nsIn K mainGlobals x = some (some (.ref f))) (l : K.lookup f = some ⟨oc, od, .func (PySem.W.fnOf x x (defArgs st) (defBody st) (defScope st) .none kV doc pm an cdv ct), osl⟩)
    (c : PySem.W.codeIn K cdv x = true) (kp : PySem.W.keepIn K (.ref f) = true)
    (hb : ∀ (kV doc pm : Value) (an : Option Addr) (cdv ct : Value) (us : List Value), us.length = ps.length → bindArgs (PySem.W.fnOf x x (defArgs st) (defBody st) (defScope st) .none kV doc pm an cdv ct) ⟨us, []⟩ = pure (ps.zip us)) : FunAt K mg x st ps := by
  have F := fun_mk (st := st) l c kp
  exact ⟨f, _, F, PySem.W.mg_of X G a, F.binds hb⟩
section
variable {X : Cx} {CX : CXT} {k : Nat} {x : Str} {ps : List Str} {sp : Sp} {E : XK} {p pos : Pos} {e : Expr} {es : List Expr} {t : TA}
end
def compChk (sc : Scope) (XN : List Str) (scope : Scope) (N : List Str) (k : Nat) (fs : List Nat) : Bool :=
  scope.kind == .function && decide (scope.names.map (·.1)).Nodup && scope.names.all (fun y => y.2 != .free || ((sc.names.filter (·.2 == .cell)).map (·.1)).contains y.1) && N.length == k + fs.length &&
    fs.zipIdx.all fun p => match N[k + p.2]?, XN[p.1]? with
      | some x, some y => decide (x = y) && scope.names.lookup x == some .free && sc.names.lookup x == some .cell
      | _, _ => false
theorem cells_names : ∀ (names : List (Str × NameKind)) (n : Nat), ∀ x, x ∈ (names.filter (·.2 == .cell)).map (·.1) → x ∈ (cellsFrom n names []).map (·.1)
  | [], _, x, h => by simp at h
  | (y, k) :: r, n, x, h => by
    unfold cellsFrom
    by_cases hk : (k == NameKind.cell) = true
    · rw [if_pos hk, cellsFrom_acc, List.map_append, List.mem_append]
      rw [List.filter_cons_of_pos (by exact hk), List.map_cons, List.mem_cons] at h
      rcases h with h | h
      · right; simp [h]
      · left; exact cells_names r (n + 1) x h
    · rw [if_neg hk]
      rw [List.filter_cons_of_neg (by exact hk)] at h
      exact cells_names r n x h
theorem compOk_def {X : Cx} {sc scope : Scope} {n k : Nat} {N XN : List Str} {fs : List Nat} (hN : X.N = XN) (he : X.env.cells = cellsFrom n sc.names []) (hs : X.env.scope = sc) (h : compChk sc XN scope N k fs = true) : CompOk X scope N k fs := by
  unfold compChk at h
  simp only [Bool.and_eq_true_iff] at h
  obtain ⟨⟨⟨⟨h1, h2⟩, h3⟩, h4⟩, h5⟩ := h
  refine ⟨by simpa using h1, of_decide_eq_true h2, fun y hy hf => ?_, by simpa using h4, fun j i e => ?_⟩
  · have := List.all_eq_true.mp h3 y hy
    rw [hf] at this
    have c : ((sc.names.filter (·.2 == .cell)).map (·.1)).contains y.1 = true := by simpa using this
    rw [he]
    exact cells_names _ _ _ (by simpa using c)
  · have hm : (i, j) ∈ fs.zipIdx := by
      rw [List.mem_zipIdx_iff_getElem?]
      exact e
    have := List.all_eq_true.mp h5 (i, j) hm
    dsimp only at this
    cases e1 : N[k + j]? with
    | none => rw [e1] at this; cases this
    | some x =>
      cases e2 : XN[i]? with
      | none => rw [e1, e2] at this; cases this
      | some y =>
        rw [e1, e2] at this
        simp only [Bool.and_eq_true] at this
        obtain ⟨⟨q1, q2⟩, q3⟩ := this
        have q1' : x = y := of_decide_eq_true q1
        subst q1'
        refine ⟨x, rfl, by rw [hN]; exact e2, by simpa using q2, .inl ?_⟩
        show X.env.scope.names.lookup x = some .cell
        rw [hs]
        simpa using q3
theorem Same.upd_new {H : Hp} {a : Addr} {o : HO} (h : H a = none) : Same H (upd H a o) := fun b u e => by rw [upd_ne (ne_of_none e h)]; exact e
theorem Same.none {H H' : Hp} (e : Same H H') {l : Addr} (h : H' l = Option.none) : H l = Option.none := e.free h
end L2
set_option Elab.async false
set_option linter.all false
set_option maxRecDepth 100000
set_option maxHeartbeats 1000000
namespace L2
open PySem PySem.Spec PyProof.Rows
end L2
set_option Elab.async false
set_option linter.all false
set_option maxRecDepth 100000
set_option maxHeartbeats 1000000
namespace L2
open PySem PySem.Spec PyProof.Rows
section
variable {κ : Type} [DecidableEq κ]
def valV (kvs : List (κ × V)) (k : κ) : Option V := (kvs.find? fun kv => decide (kv.1 = k)).map (·.2)
def putK (kvs : List (κ × V)) (k : κ) (v : V) : List (κ × V) :=
  if (kvs.any fun kv => decide (kv.1 = k)) = true then kvs.map (fun kv => if kv.1 = k then (kv.1, v) else kv) else kvs ++ [(k, v)]
def dropK (kvs : List (κ × V)) (k : κ) : List (κ × V) := kvs.filter fun kv => decide (kv.1 ≠ k)
theorem valV_pos {p : κ × V} {r : List (κ × V)} {k : κ} (e : p.1 = k) : valV (p :: r) k = some p.2 := by simp [valV, List.find?_cons, e]
theorem valV_neg {p : κ × V} {r : List (κ × V)} {k : κ} (e : ¬ p.1 = k) : valV (p :: r) k = valV r k := by simp [valV, List.find?_cons, e]
theorem valV_any (k : κ) : ∀ kvs : List (κ × V), (kvs.any fun kv => decide (kv.1 = k)) = (valV kvs k).isSome
  | [] => rfl
  | p :: r => by
    rw [List.any_cons]
    by_cases e : p.1 = k
    · simp only [valV_pos e, decide_eq_true e, Bool.true_or, Option.isSome_some]
    · rw [valV_neg e, decide_eq_false e, Bool.false_or]; exact valV_any k r
theorem length_putK (kvs : List (κ × V)) (k : κ) (v : V) : (putK kvs k v).length ≤ kvs.length + 1 := by
  unfold putK
  split
  · rw [List.length_map]; omega
  · rw [List.length_append, List.length_cons, List.length_nil]; omega
theorem RelO.isSome_eq {o : Option V} {u : Option Value} (r : RelO o u) : o.isSome = u.isSome := by
  cases o with
  | none => cases u with
    | none => rfl
    | some _ => exact (show False from r).elim
  | some _ => cases u with
    | none => exact (show False from r).elim
    | some _ => rfl
theorem RelO.getD {o : Option V} {u : Option Value} {d : V} {d' : Value} (r : RelO o u) (rd : RelV d d') : RelV (o.getD d) (u.getD d') := by
  cases o with
  | none => cases u with
    | none => exact rd
    | some _ => exact (show False from r).elim
  | some _ => cases u with
    | none => exact (show False from r).elim
    | some _ => exact r
theorem KV.val {kvs : List (κ × V)} {vs : List (κ × Value)} (r : KV kvs vs) (k : κ) : RelO (valV kvs k) (valueAt vs k) := by
  unfold KV at r
  induction r with
  | nil => exact True.intro
  | @cons p q ps qs h t ih =>
    obtain ⟨h1, h2⟩ := h
    by_cases e : p.1 = k
    · have e' : q.1 = k := h1.symm.trans e
      have b : valueAt (q :: qs) k = some q.2 := by simp [valueAt, List.find?_cons, e']
      rw [valV_pos e, b]; exact h2
    · have e' : ¬ q.1 = k := fun z => e (h1.trans z)
      have b : valueAt (q :: qs) k = valueAt qs k := by simp [valueAt, List.find?_cons, e']
      rw [valV_neg e, b]; exact ih
theorem KV.any {kvs : List (κ × V)} {vs : List (κ × Value)} (r : KV kvs vs) (k : κ) : (kvs.any fun kv => decide (kv.1 = k)) = vs.any fun kv => decide (kv.1 = k) := by
  unfold KV at r
  induction r with
  | nil => rfl
  | cons h t ih => rw [List.any_cons, List.any_cons, ih, h.1]
theorem KV.repl {kvs : List (κ × V)} {vs : List (κ × Value)} (r : KV kvs vs) (k : κ) {y : V} {u : Value} (ry : RelV y u) :
    KV (kvs.map fun kv => if kv.1 = k then (kv.1, y) else kv) (vs.map fun kv => if kv.1 = k then (kv.1, u) else kv) := by
  unfold KV at r ⊢
  induction r with
  | nil => exact .nil
  | @cons p q ps qs h t ih =>
    rw [List.map_cons, List.map_cons]
    refine .cons ?_ ih
    obtain ⟨h1, h2⟩ := h
    by_cases e : p.1 = k
    · rw [if_pos e, if_pos (h1.symm.trans e)]; exact ⟨h1, ry⟩
    · rw [if_neg e, if_neg (fun z => e (h1.trans z))]; exact ⟨h1, h2⟩
theorem KV.put {kvs : List (κ × V)} {vs : List (κ × Value)} (r : KV kvs vs) (k : κ) {y : V} {u : Value} (ry : RelV y u) : KV (putK kvs k y) (stored vs k u) := by
  unfold putK stored
  rw [r.any k]
  by_cases e : (vs.any fun kv => decide (kv.1 = k)) = true
  · rw [if_pos e, if_pos e]; exact r.repl k ry
  · rw [if_neg e, if_neg e]; exact Paired.snoc r ⟨rfl, ry⟩
theorem KV.drop {kvs : List (κ × V)} {vs : List (κ × Value)} (r : KV kvs vs) (k : κ) : KV (dropK kvs k) (without vs k) := by
  unfold KV at r ⊢
  unfold dropK without
  induction r with
  | nil => exact .nil
  | @cons p q ps qs h t ih =>
    obtain ⟨h1, h2⟩ := h
    rw [List.filter_cons, List.filter_cons]
    by_cases e : p.1 = k
    · have a : ¬ decide (p.1 ≠ k) = true := by simp [e]
      have b : ¬ decide (q.1 ≠ k) = true := by simp [h1.symm.trans e]
      rw [if_neg a, if_neg b]; exact ih
    · have e' : ¬ q.1 = k := fun z => e (h1.trans z)
      have a : decide (p.1 ≠ k) = true := by simp [e]
      have b : decide (q.1 ≠ k) = true := by simp [e']
      rw [if_pos a, if_pos b]; exact .cons ⟨h1, h2⟩ ih
theorem KV.keys {kvs : List (κ × V)} {vs : List (κ × Value)} (r : KV kvs vs) : kvs.map (·.1) = vs.map (·.1) := by
  unfold KV at r
  induction r with
  | nil => rfl
  | cons h t ih => rw [List.map_cons, List.map_cons, ih, h.1]
theorem KV.length {kvs : List (κ × V)} {vs : List (κ × Value)} (r : KV kvs vs) : kvs.length = vs.length := Paired.length r
end
theorem kV_is {P : Program} {w : World} {k : Key} {u : Value} (r : RelV (kV k) u) : (mixKind P w).is k u = true := by
  cases k with
  | inl i => obtain ⟨t, e⟩ := (show ∃ t, u = Value.int i t from r); subst e; exact mixKind_int P w i t
  | inr x => obtain ⟨t, e⟩ := (show ∃ t, u = Value.str x t from r); subst e; exact mixKind_str P w x t
theorem items_are {P : Program} {w : World} : ∀ {ks : List Key} {us : List Value}, Vals (ks.map kV) us → ItemsAre (mixKind P w) ks us
  | [], _, r => by rw [List.map_nil] at r; cases r; exact .nil
  | k :: ks, _, r => by
    rw [List.map_cons] at r
    cases r with
    | cons h t => exact .cons (kV_is h) (items_are t)
abbrev KT (H : Hp) : List (List Key × V) → List (List Key × Addr × Value) → Prop := Paired fun p q => p.1 = q.1 ∧ H q.2.1 = some (.tup (p.1.map kV)) ∧ RelV p.2 q.2.2
theorem KT.val {H : Hp} {kvs : List (List Key × V)} {xs : List (List Key × Addr × Value)} (r : KT H kvs xs) (k : List Key) : RelO (valV kvs k) ((atKey xs k).map (·.2)) := by
  induction r with
  | nil => exact True.intro
  | @cons p q ps qs h t ih =>
    obtain ⟨h1, _, h2⟩ := h
    by_cases e : p.1 = k
    · have e' : q.1 = k := h1.symm.trans e
      have b : atKey (q :: qs) k = some q.2 := by simp [atKey, List.find?_cons, e']
      rw [valV_pos e, b]; exact h2
    · have e' : ¬ q.1 = k := fun z => e (h1.trans z)
      have b : atKey (q :: qs) k = atKey qs k := by simp [atKey, List.find?_cons, e']
      rw [valV_neg e, b]; exact ih
theorem KT.repl {H : Hp} {kvs : List (List Key × V)} {xs : List (List Key × Addr × Value)} (r : KT H kvs xs) (k : List Key) {y : V} {u : Value} (ry : RelV y u) :
    KT H (kvs.map fun kv => if kv.1 = k then (kv.1, y) else kv) (xs.map (putAt k u)) := by
  induction r with
  | nil => exact .nil
  | @cons p q ps qs h t ih =>
    rw [List.map_cons, List.map_cons]
    refine .cons ?_ ih
    obtain ⟨h1, h2, h3⟩ := h
    unfold putAt
    by_cases e : p.1 = k
    · rw [if_pos e, if_pos (h1.symm.trans e)]; exact ⟨h1, h2, ry⟩
    · rw [if_neg e, if_neg (fun z => e (h1.trans z))]; exact ⟨h1, h2, h3⟩
theorem KT.put {H : Hp} {kvs : List (List Key × V)} {xs : List (List Key × Addr × Value)} (r : KT H kvs xs) (k : List Key) {b : Addr} {y : V} {u : Value} (hb : H b = some (.tup (k.map kV))) (ry : RelV y u) :
    KT H (putK kvs k y) (storedH xs k b u) := by
  have e : (kvs.any fun kv => decide (kv.1 = k)) = (atKey xs k).isSome := by
    rw [valV_any, (r.val k).isSome_eq, Option.isSome_map]
  unfold putK storedH
  rw [e]
  by_cases q : (atKey xs k).isSome = true
  · rw [if_pos q, if_pos q]; exact r.repl k ry
  · rw [if_neg q, if_neg q]; exact Paired.snoc r ⟨rfl, hb, ry⟩
theorem KT.keeps {H H' : Hp} {kvs : List (List Key × V)} {xs : List (List Key × Addr × Value)} (r : KT H kvs xs) (ht : ∀ b ys, H b = some (.tup ys) → H' b = some (.tup ys)) : KT H' kvs xs :=
  Paired.mapP r fun _ _ z => ⟨z.1, ht _ _ z.2.1, z.2.2⟩
section
variable {P : Program} {w : World} {H : Hp} {h : Heap} {a : Addr}
theorem rd_of {u : HO} (ok : HOk P w H h) (e : Rd H a u) : ObjOk P w H h a u := e.ok ok
theorem dk_rd {kvs : List (Key × V)} (ok : HOk P w H h) (e : Rd H a (.dK kvs)) : kvs.length ≤ sizeLine ∧ (a == sysModules) = false ∧ ∃ vs, KV kvs vs ∧ h.DictOf (mixKind P w) a vs :=
  show ObjOk P w H h a (.dK kvs) from rd_of ok e
theorem dk_of {kvs : List (Key × V)} (ok : HOk P w H h) (e : H a = some (.dK kvs)) : kvs.length ≤ sizeLine ∧ (a == sysModules) = false ∧ ∃ vs, KV kvs vs ∧ h.DictOf (mixKind P w) a vs := dk_rd ok (.inl e)
theorem key_of {ks : List Key} (ok : HOk P w H h) (e : H a = some (.tup (ks.map kV))) : (tupleKind (mixKind P w)).is h ks a := by
  obtain ⟨_, its, r, o, h1, h2, n, h3⟩ := (show ObjOk P w H h a (.tup (ks.map kV)) from ok a _ e)
  exact ⟨o, its.toArray, n, h1, h2, h3, by simpa using items_are r⟩
theorem dt_rd {kvs : List (List Key × V)} (ok : HOk P w H h) (e : Rd H a (.dT kvs)) : kvs.length ≤ sizeLine ∧ (a == sysModules) = false ∧
    ∃ xs, KT H kvs xs ∧ h.DictOfH (tupleKind (mixKind P w)) a xs := by
  obtain ⟨z, y, xs, r, o, es, ep, h1, h2, h3, h4, h5⟩ := (show ObjOk P w H h a (.dT kvs) from rd_of ok e)
  refine ⟨z, y, xs, r, o, es, ep, h1, h2, h3, h4, fun x hx => ?_, h5⟩
  have all : ∀ {l : List (List Key × V)} {m : List (List Key × Addr × Value)}, KT H l m → ∀ x ∈ m, (tupleKind (mixKind P w)).is h x.1 x.2.1 := by
    intro l m q
    induction q with
    | nil => intro x hx; exact nomatch hx
    | @cons p q ps qs hq t ih =>
      intro x hx
      rcases List.mem_cons.mp hx with e | hx
      · subst e
        exact key_of ok (by rw [← hq.1]; exact hq.2.1)
      · exact ih x hx
  exact all r x hx
theorem dt_of {kvs : List (List Key × V)} (ok : HOk P w H h) (e : H a = some (.dT kvs)) : kvs.length ≤ sizeLine ∧ (a == sysModules) = false ∧
    ∃ xs, KT H kvs xs ∧ h.DictOfH (tupleKind (mixKind P w)) a xs := dt_rd ok (.inl e)
end
def DGet (H : Hp) (a : Addr) (y : V) (r : Option V) : Prop :=
  (∃ kvs k, Rd H a (.dK kvs) ∧ y = kV k ∧ r = valV kvs k) ∨ ∃ kvs k b, Rd H a (.dT kvs) ∧ y = .ref b ∧ H b = some (.tup (k.map kV)) ∧ r = valV kvs k
def DPut (H : Hp) (a : Addr) (y v : V) (H' : Hp) : Prop :=
  (∃ kvs k, H a = some (.dK kvs) ∧ y = kV k ∧ kvs.length < sizeLine ∧ H' = upd H a (.dK (putK kvs k v))) ∨
  ∃ kvs k b, H a = some (.dT kvs) ∧ y = .ref b ∧ H b = some (.tup (k.map kV)) ∧ kvs.length < sizeLine ∧ H' = upd H a (.dT (putK kvs k v))
theorem DGet.k {H : Hp} {a : Addr} {kvs : List (Key × V)} {k : Key} (e : H a = some (.dK kvs)) : DGet H a (kV k) (valV kvs k) := .inl ⟨kvs, k, .inl e, rfl, rfl⟩
theorem DGet.t {H : Hp} {a b : Addr} {kvs : List (List Key × V)} {k : List Key} (e : H a = some (.dT kvs)) (eb : H b = some (.tup (k.map kV))) : DGet H a (.ref b) (valV kvs k) := .inr ⟨kvs, k, b, .inl e, rfl, eb, rfl⟩
theorem DPut.k {H : Hp} {a : Addr} {kvs : List (Key × V)} {k : Key} {v : V} (e : H a = some (.dK kvs)) (hl : kvs.length < sizeLine) : DPut H a (kV k) v (upd H a (.dK (putK kvs k v))) := .inl ⟨kvs, k, e, rfl, hl, rfl⟩
theorem DPut.t {H : Hp} {a b : Addr} {kvs : List (List Key × V)} {k : List Key} {v : V} (e : H a = some (.dT kvs)) (eb : H b = some (.tup (k.map kV))) (hl : kvs.length < sizeLine) :
    DPut H a (.ref b) v (upd H a (.dT (putK kvs k v))) := .inr ⟨kvs, k, b, e, rfl, eb, hl, rfl⟩
section
variable {X : Cx} {pins : List (Addr × Obj)} {σ : St} {H : Hp} {s : Shared} {a : Addr} {y v : V} {u r : Value} {o : Option V} {A : Around} {E : Value → Shared → Prop}
theorem Inv.big (I : Inv X pins σ H s) : sysModules < s.heap.objs.size := by
  have h : mainGlobals < s.heap.objs.size := (I.mod.glob.keeps I.bk).lt
  exact Nat.lt_trans (by decide) h
theorem d_getItem {Q : Value → Shared → Prop} (hu : A.units + 1 < cLine) (I : Inv X pins σ H s) (g : DGet H a y (some v)) (ry : RelV y u) (h : ∀ w' s', Inv X pins σ H s' → RelV v w' → Q w' s') :
    wpAny (model X.prog X.w) A (getItem (.ref a) u) Q E s := by
  rcases g with ⟨kvs, k, e, ey, l⟩ | ⟨kvs, k, b, e, ey, eb, l⟩
  · subst ey
    obtain ⟨z, hd, vs, rel, dd⟩ := dk_rd I.hok e
    obtain ⟨w', hw, rw'⟩ := RelO.some_of (v := v) (o := valueAt vs k) (by rw [l]; exact rel.val k)
    exact wpAny_getItem_of (kV_is ry) dd.mapOf hw (h w' _ (I.tok _) rw')
  · subst ey
    cases (show u = Value.ref b from ry)
    obtain ⟨z, hd, xs, rel, dd⟩ := dt_rd I.hok e
    obtain ⟨w', hw, rw'⟩ := RelO.some_of (v := v) (o := (atKey xs k).map (·.2)) (by rw [l]; exact rel.val k)
    obtain ⟨p, hp, hp2⟩ := Option.map_eq_some_iff.mp hw
    refine wpAny_getItem_heap (tupleKind_room_in1 hu) (key_of I.hok eb) dd hp ?_
    rw [hp2]
    exact h w' _ (I.tok _) rw'
theorem d_write {h' : Heap} {t' : Nat} {ob : HO} (I : Inv X pins σ H s) (mu : Mut (H a)) (hs : Heap.SameBut a s.heap h') (he : ∃ q, h'.get? a = some q) (new : ObjOk X.prog X.w (upd H a ob) h' a ob) :
    Inv X pins σ (upd H a ob) { s with heap := h', toks := t' } :=
  I.write (x := a) (e := a) mu (.inl rfl) (fun b q hb z => (hs.2 b hb).trans z) he new
theorem dk_new {P : Program} {w : World} {H' : Hp} {h' : Heap} {kvs : List (Key × V)} {vs : List (Key × Value)} (z : kvs.length ≤ sizeLine) (hd : (a == sysModules) = false) (rel : KV kvs vs) (dd : h'.DictOf (mixKind P w) a vs) :
    ObjOk P w H' h' a (.dK kvs) := ⟨z, hd, vs, rel, dd⟩
theorem d_setItem {H' : Hp} {Q : Unit → Shared → Prop} (hu : A.units + 1 < cLine) (I : Inv X pins σ H s) (g : DPut H a y v H') (ry : RelV y u) (rv : RelV v r) (h : ∀ s', Inv X pins σ H' s' → Q () s') :
    wpAny (model X.prog X.w) A (setItem (.ref a) u r) Q E s := by
  rcases g with ⟨kvs, k, e, ey, l, eH⟩ | ⟨kvs, k, b, e, ey, eb, l, eH⟩
  · subst ey eH
    obtain ⟨z, hd, vs, rel, dd⟩ := dk_of I.hok e
    have hz : vs.length ≤ sizeLine := by rw [← rel.length]; exact z
    have hl : (putK kvs k v).length ≤ sizeLine := by have := length_putK kvs k v; omega
    refine wpAny_setItem_pairs (hsz := hz) (kV_is ry) dd fun h' dd' hs => h _ ?_
    have he : ∃ q, h'.get? a = some q := let ⟨q, _, _, hq, _⟩ := dd'; ⟨q, hq⟩
    exact d_write I (by rw [e]; exact True.intro) hs he (dk_new hl hd (rel.put k rv) dd')
  · subst ey eH
    cases (show u = Value.ref b from ry)
    obtain ⟨z, hd, xs, rel, dd⟩ := dt_of I.hok e
    have hz : xs.length ≤ sizeLine := by rw [← Paired.length rel]; exact z
    have hl : (putK kvs k v).length ≤ sizeLine := by have := length_putK kvs k v; omega
    refine wpAny_setItem_heap (hsz := hz) (tupleKind_room_in1 hu) (key_of I.hok eb) dd fun h' dd' hs => h _ ?_
    obtain ⟨q, es, ep, hq, h2, h3, h4, _, h5⟩ := dd'
    refine d_write I (by rw [e]; exact True.intro) hs ⟨q, hq⟩ ⟨hl, hd, _, (rel.put k eb rv).keeps fun c ys ec => ?_, q, es, ep, hq, h2, h3, h4, h5⟩
    rw [upd_ne (ne_of ec e (fun z => nomatch z))]
    exact ec
end
section
variable {X : Cx} {pins : List (Addr × Obj)} {σ : St} {H : Hp} {s : Shared} {a : Addr} {kvs : List (Key × V)} {k : Key} {u : Value} {A : Around} {E : Value → Shared → Prop}
end
def NoSl (i : Expr) : Prop := ∀ ov iv, subscripted i false ov iv = operate [ov, iv] (getItem ov iv)
theorem subD_of {prog : Program} {w : World} {A : Around} {E : Value → Shared → Prop} {s : Shared} {env : Env} {value slice : Expr} {pos : Pos} {T id : String} {Q : Value → Shared → Prop}
    (hl : typeLookup (.type T) "__getitem__" = pure (some (.builtin id))) (hs : NoSl slice)
    (h : wpAny (model prog w) A (eval value env) (fun o s₁ => wpAny (model prog w) A (eval slice env) (fun i s₂ => s₂.TypeIs o T ∧ wpAny (model prog w) A (getItem o i) Q E s₂) E s₁) E s) :
    wpAny (model prog w) A (eval (.Subscript value slice pos) env) Q E s := by
  refine Subscript_ (wpAny_mono h (fun o s₁ h₁ => wpAny_mono h₁ (fun i s₂ h₂ => ?_) fun _ _ x => x) fun _ _ x => x)
  obtain ⟨hT, h₂⟩ := h₂
  unfold subscriptTail
  refine wpAny_bind ?_
  rw [getitemInPython_of_ne hT.not_modules]
  refine wpAny_bind (wpAny_specialOf hT hl ?_)
  have fin : wpAny (model prog w) A (subscripted slice false o i) (fun r s₃ => wpAny (model prog w) A (letTemporaryGo value o r >>= fun _ => pure r) Q E s₃) E s₂ := by
    rw [hs o i]
    exact wpAny_operating (wpAny_mono h₂ (fun r s₃ h₃ => wpAny_bind (wpAny_letTemporaryGo (wpAny_pure h₃))) fun _ _ x => x)
  first
    | exact wpAny_pure (wpAny_bind fin)
    | exact wpAny_bind (wpAny_pure (wpAny_bind fin))
    | exact wpAny_bind fin
theorem dict_typeIs {X : Cx} {pins : List (Addr × Obj)} {σ : St} {H : Hp} {s : Shared} {a : Addr} {y : V} {o : Option V} (I : Inv X pins σ H s) (g : DGet H a y o) : s.TypeIs (.ref a) "dict" := by
  rcases g with ⟨kvs, k, e, _, _⟩ | ⟨kvs, k, b, e, _, _, _⟩
  · obtain ⟨_, _, vs, _, dd⟩ := dk_rd I.hok e
    exact dd.typeIs
  · obtain ⟨_, _, xs, _, dd⟩ := dt_rd I.hok e
    exact dd.typeIs
def tDGet (td ty : TE) : TE := fun σ H Q => td σ H fun x H1 => ty σ H1 fun y H2 => ∃ a v, x = .ref a ∧ DGet H2 a y (some v) ∧ Q v H2
def sDPut (td ty tv : TE) : TS := fun D σ H => tv σ H fun v H1 => td σ H1 fun x H2 => ty σ H2 fun y H3 => ∃ a H4, x = .ref a ∧ DPut H3 a y v H4 ∧ D.nx σ H4
section
variable {X : Cx} {o i e value : Expr} {pos pos' tpos : Pos} {td ty tv : TE}
theorem pe_dget (hu : X.A.units + 1 < cLine) (ho : PE X o td) (hi : PE X i ty) (hs : NoSl i) : PE X (.Subscript o i pos) (tDGet td ty) := by
  intro pins s σ H Q I h
  refine subD_of PySem.F.slot_dict_getitem.lookup hs (thn (ho pins s σ H _ I h) fun u s1 ⟨x, H1, I1, rx, q1⟩ => thn (hi pins s1 σ H1 _ I1 q1) fun iv s2 ⟨y, H2, I2, ry, a, v, ex, g, q2⟩ => ?_)
  subst ex
  obtain rfl : u = Value.ref a := rx
  exact ⟨dict_typeIs I2 g, d_getItem hu I2 g ry fun w' s3 I3 rw' => ⟨v, H2, I3, rw', q2⟩⟩
theorem ps_dput (hu : X.A.units + 1 < cLine) (ho : PE X o td) (hi : PE X i ty) (hv : PE X value tv) (hs : swapsWith value (some (.Subscript o i pos')) pos.line X.env = pure false) :
    PS X (.Assign [.Subscript o i pos'] value pos) (sDPut td ty tv) := by
  intro pins s σ H D I h
  refine wpAny_Assign_Subscript (thn (hv pins s σ H _ I h) fun r s1 ⟨v, H1, I1, rv, q1⟩ => thn (ho pins s1 σ H1 _ I1 q1) fun u s2 ⟨x, H2, I2, rx, q2⟩ => thn (hi pins s2 σ H2 _ I2 q2) fun iv s3 ⟨y, H3, I3, ry, a, H4, ex, g, q3⟩ => ?_) hs
  subst ex
  obtain rfl : u = Value.ref a := rx
  exact d_setItem hu I3 g ry rv fun s4 I4 => ⟨σ, H4, I4, q3⟩
end
theorem dt_empty {P : Program} {w : World} {H : Hp} (h : Heap) (hb : sysModules < h.objs.size) : ObjOk P w H (h.push { cls := .type "dict", data := .dict #[] }) h.objs.size (.dT []) :=
  ⟨Nat.zero_le _, beq_eq_false_iff_ne.mpr (Ne.symm (Nat.ne_of_lt hb)), [], .nil, _, #[], 0, Heap.get?_push_size _ rfl, ⟨rfl, rfl, rfl⟩, rfl, rfl, List.nodup_nil⟩
def tDNewT : TE := fun _ H Q => ∀ p, H p = none → Q (.ref p) (upd H p (.dT []))
section
variable {X : Cx} {pos : Pos}
theorem pe_dnewT : PE X (.Dict [] [] pos) tDNewT := fun pins s σ H Q I h =>
  wpAny_Dict_empty ⟨.ref s.heap.objs.size, _, I.laid (a := s.heap.objs.size) (o := .dT []) (t' := s.toks) (fun _ _ q => Heap.get?_push_of_some _ q) (Nat.le_refl _) (dt_empty s.heap I.big), rfl, h _ (I.hok.fresh (Nat.le_refl _))⟩
end
structure M2 (X : Cx) (o : Expr) (m : Str) (apos : Pos) (e f : Expr) (cpos : Pos) : Prop where
  base : attributeBase o m X.env (eval o X.env) = eval o X.env
  few : ((backTo cpos (starEach [e, f] X.env)).all (fun x => !x.1) && (backToKw cpos (keywordEach [] X.env)).all (fun x => x.1.isSome)
    && decide (([e, f] : List Expr).length + ([] : List Keyword).length + (if ([] : List Keyword).isEmpty then 0 else 1) < 30)) = true
  line : (apos.endLine == cpos.line) = true
  trees : backTo cpos (starEach [e, f] X.env) = [(false, eval e X.env), (false, eval f X.env)]
def IsD (H : Hp) (a : Addr) : Prop := (∃ kvs, Rd H a (.dK kvs)) ∨ ∃ kvs, Rd H a (.dT kvs)
theorem isD_at {X : Cx} {pins : List (Addr × Obj)} {σ : St} {H : Hp} {s : Shared} {a : Addr} (I : Inv X pins σ H s) (d : IsD H a) :
    s.TypeIs (.ref a) "dict" ∧ (∀ b, Value.ref a = .ref b → ∃ ob, s.heap.get? b = some ob ∧ ob.dict = none) ∧ (a == sysModules) = false := by
  rcases d with ⟨kvs, e⟩ | ⟨kvs, e⟩
  · obtain ⟨_, hd, vs, _, dd⟩ := dk_rd I.hok e
    refine ⟨dd.typeIs, fun b q => ?_, hd⟩
    cases q
    obtain ⟨ob, _, _, h1, h2, _⟩ := dd
    exact ⟨ob, h1, h2.2.1⟩
  · obtain ⟨_, hd, xs, _, dd⟩ := dt_rd I.hok e
    refine ⟨dd.typeIs, fun b q => ?_, hd⟩
    cases q
    obtain ⟨ob, _, _, h1, h2, _⟩ := dd
    exact ⟨ob, h1, h2.2.1⟩
section
variable {X : Cx} {pins : List (Addr × Obj)} {σ : St} {H : Hp} {s : Shared} {a : Addr} {y d : V} {u r : Value} {o : Option V} {A : Around} {E : Value → Shared → Prop}
theorem d_get2 {Q : Value → Shared → Prop} (hu : A.units + 1 < cLine) (I : Inv X pins σ H s) (g : DGet H a y o) (ry : RelV y u) (rd : RelV d r) (h : ∀ w' s', Inv X pins σ H s' → RelV (o.getD d) w' → Q w' s') :
    wpAny (model X.prog X.w) A (call (.builtin "dict.get") [.ref a, u, r]) Q E s := by
  rcases g with ⟨kvs, k, e, ey, l⟩ | ⟨kvs, k, b, e, ey, eb, l⟩
  · subst ey
    obtain ⟨z, hd, vs, rel, dd⟩ := dk_rd I.hok e
    refine call_meetsIn PySem.F.slot_dict_get dd.typeIs PySem.F.entry_dict_get (PySem.F.args_dict_get_3 _ _ _) (meets_dict_get_default (mixKind X.prog X.w) a (kV_is ry) hd r) ⟨_, dd.mapOf, h _ _ (I.tok _) ?_⟩
    rw [l]
    exact (rel.val k).getD rd
  · subst ey
    cases (show u = Value.ref b from ry)
    obtain ⟨z, hd, xs, rel, dd⟩ := dt_rd I.hok e
    refine call_meetsIn PySem.F.slot_dict_get dd.typeIs PySem.F.entry_dict_get (PySem.F.args_dict_get_3 _ _ _) (meetsH_dict_get_default (tupleKind (mixKind X.prog X.w)) a b hd r) ⟨tupleKind_room_in1 hu, k, xs, key_of I.hok eb, dd, h _ _ (I.tok _) ?_⟩
    rw [l]
    exact (rel.val k).getD rd
end
def tDGet2 (td ty tx : TE) : TE := fun σ H Q => td σ H fun x H1 => ∃ a, x = .ref a ∧ IsD H1 a ∧ ty σ H1 fun y H2 => tx σ H2 fun z H3 => ∃ o, DGet H3 a y o ∧ Q (o.getD z) H3
section
variable {X : Cx} {o e f : Expr} {apos cpos : Pos} {td ty tx : TE}
theorem pe_dget2 (hu : X.A.units + 1 < cLine) (ho : PE X o td) (he : PE X e ty) (hf : PE X f tx) (m : M2 X o "get" apos e f cpos) : PE X (.Call (.Attribute o "get" apos) [e, f] [] cpos) (tDGet2 td ty tx) := by
  intro pins s σ H Q I h
  refine wpAny_Call_method m.base m.few m.line PySem.F.plainAttrs_dict PySem.F.slot_dict_get PySem.F.type_dict_get (thn (ho pins s σ H _ I h) fun u s1 ⟨x, H1, I1, rx, a, ex, d, q1⟩ => ?_)
  subst ex
  obtain rfl : u = Value.ref a := rx
  obtain ⟨t1, t2, _⟩ := isD_at I1 d
  refine ⟨t1, t2, ?_⟩
  rw [m.trees]
  refine Calls.callWith_builtin rfl (Calls.evalArgs_plain (Calls.spliced_cons (thn (he pins s1 σ H1 _ I1 q1) fun iv s2 ⟨y, H2, I2, ry, q2⟩ =>
    Calls.spliced_cons (thn (hf pins s2 σ H2 _ I2 q2) fun fv s3 ⟨z, H3, I3, rz, ov, g, q3⟩ => Calls.spliced_nil ?_))))
  exact d_get2 hu I3 g ry rz fun w' s4 I4 rw' => ⟨_, H3, I4, rw', q3⟩
end
section
variable {X : Cx} {pins : List (Addr × Obj)} {σ : St} {H : Hp} {s : Shared} {a : Addr} {kvs : List (Key × V)} {A : Around} {E : Value → Shared → Prop}
end
end L2
set_option Elab.async false
set_option linter.all false
namespace Mir
open PySem
inductive XC where
  | NotAlike | BadCount | BadRows | BadRow | OtherSpace | BadSize | BadPlaces | ZeroSum | NoBox | BadTable | NoLine | BadName | NoRow | NoName
  deriving DecidableEq
def XC.nm : XC → Str
  | .NotAlike => "NotAlike" | .BadCount => "BadCount" | .BadRows => "BadRows" | .BadRow => "BadRow" | .OtherSpace => "OtherSpace" | .BadSize => "BadSize" | .BadPlaces => "BadPlaces"
  | .ZeroSum => "ZeroSum" | .NoBox => "NoBox" | .BadTable => "BadTable" | .NoLine => "NoLine" | .BadName => "BadName" | .NoRow => "NoRow" | .NoName => "NoName"
inductive D where
  | non | bl (b : Bool) | int (i : Int) | str (x : Str)
  | lst (ds : List D) | tup (ds : List D)
  | obj (c : Nat) (ds : List D)
  | dct (ks : List (List Int)) (ds : List D)
  | any
  | exc (c : XC) (ds : List D)
mutual
/-- no list within -/
def D.imm : D → Bool
  | .lst _ => false
  | .obj _ _ => false
  | .dct _ _ => false
  | .any => false
  | .tup ds => D.imms ds
  | .exc _ ds => D.imms ds
  | _ => true
def D.imms : List D → Bool
  | [] => true
  | d :: r => d.imm && D.imms r
end
def D.con : D → Bool
  | .lst _ => true
  | .dct _ _ => true
  | _ => false
inductive Kd where
  | shr | own | tmp | old
  deriving DecidableEq
@[simp] def Kd.rd : Kd → Kd
  | .old => .shr
  | k => k
structure Res where
  k : Kd
  fr : Bool
  d : D
abbrev Env := List (Option Res)
structure Xc where
  c : XC
  ds : List D
inductive R (α : Type) where
  | ok (a : α) | exc (x : Xc) | stk
@[simp] def R.bind {α β : Type} : R α → (α → R β) → R β
  | .ok a, f => f a
  | .exc x, _ => .exc x
  | .stk, _ => .stk
instance : Monad R where
  pure := .ok
  bind := R.bind
@[simp] theorem R.ok_bind {α β : Type} (a : α) (f : α → R β) : (R.ok a >>= f) = f a := rfl
@[simp] theorem R.pure_bind' {α β : Type} (a : α) (f : α → R β) : ((pure a : R α) >>= f) = f a := rfl
@[simp] theorem R.exc_bind {α β : Type} (x : Xc) (f : α → R β) : (R.exc x >>= f) = .exc x := rfl
@[simp] theorem R.stk_bind {α β : Type} (f : α → R β) : ((R.stk : R α) >>= f) = .stk := rfl
@[simp] theorem R.pure_eq {α : Type} (a : α) : (pure a : R α) = .ok a := rfl
abbrev FE := Env → R Res
abbrev FT := Env → R Bool
@[simp] def sc (d : D) : Res := ⟨.shr, true, d⟩
def Res.give (r : Res) : R Res := if r.k = .own then .stk else .ok ⟨.shr, r.fr, r.d⟩
def vE (i : Nat) : FE := fun ρ => match ρ[i]? with
  | some (some e) => .ok ⟨e.k.rd, e.fr || e.d.imm, e.d⟩
  | _ => .stk
def cE (d : D) : FE := fun _ => .ok (sc d)
def asI : D → R Int
  | .int i => .ok i
  | _ => .stk
def asB : D → R Bool
  | .bl b => .ok b
  | _ => .stk
def asL : D → R (List D)
  | .lst ds => .ok ds
  | _ => .stk
def asS : D → R (List D)
  | .lst ds => .ok ds
  | .tup ds => .ok ds
  | _ => .stk
def i2E (C : Int → Int → Bool) (g : Int → Int → Int) (a b : FE) : FE := fun ρ => do
  let x ← a ρ
  let y ← b ρ
  let i ← asI x.d
  let j ← asI y.d
  if C i j then .ok (sc (.int (g i j))) else .stk
def cmpE (g : Int → Int → Bool) (a b : FE) : FE := fun ρ => do
  let x ← a ρ
  let y ← b ρ
  let i ← asI x.d
  let j ← asI y.d
  .ok (sc (.bl (g i j)))
def C0 : Int → Int → Bool := fun _ _ => true
def CM : Int → Int → Bool := fun i j => decide (i.natAbs.log2 < 1000000) && decide (j.natAbs.log2 < 1000000)
def CD : Int → Int → Bool := fun _ j => decide (0 < j) && decide (j.natAbs.log2 < 9000)
def CP : Int → Int → Bool := fun _ j => decide (0 < j)
def CW : Int → Int → Bool := fun i j => decide (0 ≤ j) && decide (j ≤ 1000000) && decide (i.natAbs < 2 ^ 64)
def addE := i2E C0 (fun i j => i + j)
def subE := i2E C0 (fun i j => i - j)
def mulE := i2E CM (fun i j => i * j)
def fdvE := i2E CD (fun i j => i / j)
def modE := i2E CP (fun i j => i % j)
def powE := i2E CW (fun i j => i ^ j.toNat)
def ltE := cmpE fun i j => decide (i < j)
def gtE := cmpE fun i j => decide (j < i)
end Mir
set_option Elab.async false
set_option linter.all false
namespace Mir
open PySem
abbrev FEs := List FE
def evs : FEs → Env → R (List Res)
  | [], _ => .ok []
  | f :: r, ρ => do
    let x ← f ρ
    let xs ← evs r ρ
    .ok (x :: xs)
def gives : List Res → R (Bool × List D)
  | [] => .ok (true, [])
  | r :: rs => do
    let x ← r.give
    let y ← gives rs
    .ok (x.fr && y.1, x.d :: y.2)
def lstE (fs : FEs) : FE := fun ρ => do
  let rs ← evs fs ρ
  let y ← gives rs
  if y.2.length ≤ sizeLine then .ok ⟨.tmp, y.1, .lst y.2⟩ else .stk
def tupE (fs : FEs) : FE := fun ρ => do
  let rs ← evs fs ρ
  let y ← gives rs
  if y.2.length ≤ sizeLine then .ok ⟨.shr, y.1, .tup y.2⟩ else .stk
def lenE (a : FE) : FE := fun ρ => do
  let x ← a ρ
  let ds ← asS x.d
  .ok (sc (.int ds.length))
def idxE (a i : FE) : FE := fun ρ => do
  let x ← a ρ
  let y ← i ρ
  let ds ← asS x.d
  let j ← asI y.d
  match L2.atI ds j with
  | some d => .ok ⟨.shr, x.fr || d.imm, d⟩
  | none => .stk
def lofE (a : FE) : FE := fun ρ => do
  let x ← a ρ
  let ds ← asS x.d
  .ok ⟨.tmp, x.fr, .lst ds⟩
def tofE (a : FE) : FE := fun ρ => do
  let x ← a ρ
  let ds ← asS x.d
  .ok ⟨.shr, x.fr, .tup ds⟩
def catE (a b : FE) : FE := fun ρ => do
  let x ← a ρ
  let y ← b ρ
  let xs ← asL x.d
  let ys ← asL y.d
  if xs.length + ys.length ≤ sizeLine then .ok ⟨.tmp, x.fr && y.fr, .lst (xs ++ ys)⟩ else .stk
def cutD (xs : List D) (lo hi : Option Int) : List D := (xs.drop (HT.sIx xs.length 0 lo)).take (HT.sIx xs.length xs.length hi - HT.sIx xs.length 0 lo)
abbrev FO := Env → R (Option Int)
def noO : FO := fun _ => .ok none
def soO (a : FE) : FO := fun ρ => do
  let x ← a ρ
  let i ← asI x.d
  .ok (some i)
def slcE (a : FE) (lo hi : FO) : FE := fun ρ => do
  let x ← a ρ
  let l ← lo ρ
  let h ← hi ρ
  let ds ← asL x.d
  .ok ⟨.tmp, x.fr, .lst (cutD ds l h)⟩
mutual
def toPy : D → Option PyData
  | .non => some .none
  | .bl b => some (.bool b)
  | .int i => some (.int i)
  | .str x => some (.str x)
  | .lst ds => (toPys ds).map .list
  | .tup ds => (toPys ds).map .tuple
  | _ => none
def toPys : List D → Option (List PyData)
  | [] => some []
  | d :: r => (toPy d).bind fun p => (toPys r).map (p :: ·)
end
def eqvR (x y : D) : R Bool := match toPy x, toPy y with
  | some p, some q => if SeqAt.shaped p && SeqAt.shaped q then .ok (PyData.eqv p q) else .stk
  | _, _ => .stk
def eqE (a b : FE) : FE := fun ρ => do
  let x ← a ρ
  let y ← b ρ
  let t ← eqvR x.d y.d
  .ok (sc (.bl t))
def neE (a b : FE) : FE := fun ρ => do
  let x ← a ρ
  let y ← b ρ
  let t ← eqvR x.d y.d
  .ok (sc (.bl (!t)))
def bT (a : FE) : FT := fun ρ => do
  let x ← a ρ
  asB x.d
def notT (t : FT) : FT := fun ρ => do
  let b ← t ρ
  .ok (!b)
def orT (t u : FT) : FT := fun ρ => do
  let b ← t ρ
  if b then .ok true else u ρ
def andE (a b : FE) : FE := fun ρ => do
  let x ← a ρ
  let t ← asB x.d
  if t then b ρ else .ok (sc (.bl false))
def notE (a : FE) : FE := fun ρ => do
  let x ← a ρ
  let t ← asB x.d
  .ok (sc (.bl (!t)))
structure Its where
  st : Bool
  fr : Bool
  ds : List D
abbrev FI := Env → R Its
def lstI (a : FE) : FI := fun ρ => do
  let x ← a ρ
  let ds ← asL x.d
  .ok ⟨x.k != .own, x.fr, ds⟩
def tupI (a : FE) : FI := fun ρ => do
  let x ← a ρ
  match x.d with
  | .tup ds => .ok ⟨true, x.fr, ds⟩
  | _ => .stk
def rngD (lo : Int) (n : Nat) : List D := (List.range n).map fun (i : Nat) => .int (lo + (i : Int))
def rng1I (a : FE) : FI := fun ρ => do
  let x ← a ρ
  let j ← asI x.d
  if -(2 ^ 62) ≤ j ∧ j < 2 ^ 62 then .ok ⟨true, true, rngD 0 j.toNat⟩ else .stk
def zipD : List D → List D → List D := List.zipWith fun a b => .tup [a, b]
def zipI (a b : FE) : FI := fun ρ => do
  let x ← a ρ
  let y ← b ρ
  let xs ← asL x.d
  let ys ← asL y.d
  .ok ⟨x.k != .own && y.k != .own, x.fr && y.fr, zipD xs ys⟩
inductive Tg where
  | nm (i : Nat) | tp (ts : List Tg)
mutual
def Tg.bind (fr : Bool) : Tg → D → Env → R Env
  | .nm i, d, ρ => .ok (ρ.set i (some ⟨.shr, fr, d⟩))
  | .tp ts, .tup ds, ρ => Tg.binds fr ts ds ρ
  | .tp _, _, _ => .stk
def Tg.binds (fr : Bool) : List Tg → List D → Env → R Env
  | [], [], ρ => .ok ρ
  | t :: ts, d :: ds, ρ => do
    let ρ1 ← Tg.bind fr t d ρ
    Tg.binds fr ts ds ρ1
  | _, _, _ => .stk
end
def cmpEnv (k : Nat) (fs : List Nat) (ρ : Env) : Env := List.replicate k none ++ fs.map fun i => (ρ[i]?).join
abbrev FB := Env → R (Option Res)
def bE (f : FE) : FB := fun ρ => do
  let x ← f ρ
  .ok (some x)
def bIf (t : FT) (f : FE) : FB := fun ρ => do
  let c ← t ρ
  if c then (do let x ← f ρ; .ok (some x)) else .ok none
def cmpL (tg : Tg) (b : FB) (fr : Bool) (ρ : Env) : List D → R (Bool × List D)
  | [] => .ok (true, [])
  | d :: r => do
    let ρ1 ← tg.bind fr d ρ
    match b ρ1 with
    | .ok (some x) => do
      let x' ← x.give
      let y ← cmpL tg b fr ρ r
      .ok (x'.fr && y.1, x'.d :: y.2)
    | .ok none => cmpL tg b fr ρ r
    | _ => .stk
def cmpE' (it : FI) (k : Nat) (fs : List Nat) (tg : Tg) (b : FB) : FE := fun ρ => do
  let x ← it ρ
  let y ← cmpL tg b x.fr (cmpEnv k fs ρ) x.ds
  if x.ds.length ≤ sizeLine then .ok ⟨.tmp, y.1, .lst y.2⟩ else .stk
abbrev Φ := List D → R Res
def callE (φ : Φ) (fs : FEs) : FE := fun ρ => do
  let rs ← evs fs ρ
  let r ← φ (rs.map (·.d))
  if r.fr = true then .ok ⟨if r.k = .shr then .shr else .tmp, true, r.d⟩ else do
    let y ← gives rs
    .ok ⟨if r.k = .shr then .shr else .tmp, y.1, r.d⟩
inductive RS where
  | nx (ρ : Env) | rt (r : Res) | bk (ρ : Env) | ct (ρ : Env) | exc (x : Xc) (ρ : Env) | stk
abbrev FS := Env → RS
def R.at (r : R α) (ρ : Env) (k : α → RS) : RS := match r with
  | .ok a => k a
  | .exc x => .exc x ρ
  | .stk => .stk
def nilS : FS := .nx
def seqS (s t : FS) : FS := fun ρ => match s ρ with
  | .nx ρ1 => t ρ1
  | r => r
def Res.keep (r : Res) : R Res := match r.k with
  | .shr => .ok r
  | .tmp => .ok ⟨.own, r.fr, r.d⟩
  | .own => .stk
  | .old => .stk
def setS (i : Nat) (f : FE) : FS := fun ρ => (f ρ).at ρ fun r => (r.keep).at ρ fun e => .nx (ρ.set i (some e))
def retS (f : FE) : FS := fun ρ => (f ρ).at ρ fun r => .rt ⟨if r.k = .shr then .shr else .tmp, r.fr, r.d⟩
def ifS (t : FT) (a b : FS) : FS := fun ρ => (t ρ).at ρ fun c => if c then a ρ else b ρ
def frz (i : Nat) (ρ : Env) : Env := match ρ[i]? with
  | some (some e) => ρ.set i (some ⟨.shr, e.fr, e.d⟩)
  | _ => ρ
def frzS (i : Nat) (s : FS) : FS := fun ρ => s (frz i ρ)
def ownL (i : Nat) (ρ : Env) : R (Bool × List D) := match ρ[i]? with
  | some (some ⟨.own, fr, .lst ds⟩) => .ok (fr, ds)
  | _ => .stk
def appS (i : Nat) (f : FE) : FS := fun ρ => (ownL i ρ).at ρ fun y => (f ρ).at ρ fun r => (r.give).at ρ fun x =>
  if y.2.length < sizeLine then .nx (ρ.set i (some ⟨.own, y.1 && x.fr, .lst (y.2 ++ [x.d])⟩)) else .stk
def appT (f g : FE) : FS := fun ρ => (f ρ).at ρ fun r => match r with
  | ⟨.tmp, _, .lst ds⟩ => (g ρ).at ρ fun _ => if ds.length < sizeLine then .nx ρ else .stk
  | _ => .stk
def forL (tg : Tg) (b : FS) (fr : Bool) : List D → FS
  | [], ρ => .nx ρ
  | d :: r, ρ => (tg.bind fr d ρ).at ρ fun ρ1 => match b ρ1 with
    | .nx ρ2 => forL tg b fr r ρ2
    | .ct ρ2 => forL tg b fr r ρ2
    | .bk ρ2 => .nx ρ2
    | o => o
def forS (it : FI) (tg : Tg) (b : FS) : FS := fun ρ => (it ρ).at ρ fun x => if x.st then forL tg b x.fr x.ds ρ else .stk
def stE (n : Nat) (ds : List D) : Env := ds.map (fun d => some ⟨.shr, false, d⟩) ++ List.replicate (n - ds.length) none
def defR (np n : Nat) (s : FS) : Φ := fun ds => if ds.length = np then (match s (stE n ds) with
  | .nx _ => .ok (sc .non)
  | .rt r => .ok ⟨r.k, r.fr || r.d.imm, r.d⟩
  | .exc x _ => .exc x
  | _ => .stk) else .stk
end Mir
set_option Elab.async false
set_option linter.all false
set_option maxRecDepth 100000
set_option maxHeartbeats 1000000
namespace Mir
open PySem L2
noncomputable def cut (H : Hp) (B : Addr → Prop) : Hp := fun a => haveI := Classical.propDecidable (B a); if B a then none else H a
theorem cut_some {H : Hp} {B : Addr → Prop} {a : Addr} {o : HO} : cut H B a = some o ↔ ¬ B a ∧ H a = some o := by
  unfold cut
  by_cases h : B a
  · simp [h]
  · simp [h]
def stab : HO → Bool
  | .tup _ => true
  | .ext _ => true
  | .frz _ u => stab u
  | _ => false
def Ban (fr : Bool) (H0 : Hp) (B : Addr → Prop) : Addr → Prop := fun a => B a ∨ (fr = true ∧ ∃ o, H0 a = some o ∧ stab o = false)
noncomputable abbrev cutF (fr : Bool) (H0 H : Hp) (B : Addr → Prop) : Hp := cut H (Ban fr H0 B)
theorem cut_same {H : Hp} {B : Addr → Prop} : Same (cut H B) H := fun b o e => (cut_some.mp e).2
theorem cut_mono {H H' : Hp} {B B' : Addr → Prop} (s : ∀ b o, H b = some o → ¬ B b → H' b = some o) (h : ∀ b, B' b → B b ∨ H b = none) : Same (cut H B) (cut H' B') := fun b o e => by
  obtain ⟨n, e⟩ := cut_some.mp e
  refine cut_some.mpr ⟨fun z => ?_, s b o e n⟩
  rcases h b z with h | h
  · exact n h
  · rw [h] at e; cases e
theorem cutF_mono {fr : Bool} {H0 H H' : Hp} {B B' : Addr → Prop} (s : ∀ b o, H b = some o → ¬ B b → H' b = some o) (h : ∀ b, B' b → B b ∨ H b = none) : Same (cutF fr H0 H B) (cutF fr H0 H' B') :=
  cut_mono (fun b o e n => s b o e fun z => n (.inl z)) fun b z => by
    rcases z with z | z
    · exact (h b z).imp .inl id
    · exact .inl (.inr z)
theorem cutF_weak {fr : Bool} {H0 H : Hp} {B : Addr → Prop} : Same (cutF fr H0 H B) (cutF false H0 H B) :=
  cut_mono (fun _ _ e _ => e) fun b z => by
    rcases z with z | ⟨z, _⟩
    · exact .inl (.inl z)
    · cases z
theorem Same.rd {H H' : Hp} {a : Addr} {u : HO} (e : Same H H') (h : Rd H a u) : Rd H' a u := by
  rcases h with h | ⟨o, h⟩
  · exact .inl (e _ _ h)
  · exact .inr ⟨o, e _ _ h⟩
def clK (K : PySem.W.Frag) (c : XC) : Addr := match PySem.W.nsIn K mainGlobals c.nm with
  | some (some (.ref C)) => C
  | _ => 0
def ExcAt (a C : Addr) (h : Heap) : Prop := ∃ o, h.get? a = some o ∧ o.cls = .ref C ∧ PySem.W.notCls o = true
theorem ExcAt.stay {a C : Addr} {h h' : Heap} (x : ExcAt a C h) (k : ∀ o, h.get? a = some o → h'.get? a = some o) : ExcAt a C h' :=
  let ⟨o, e, c⟩ := x
  ⟨o, k o e, c⟩
variable {K : PySem.W.Frag}
def keysAre (ks : List (List Int)) (kvs : List (List Key × V)) : Prop := kvs.map (·.1) = ks.map (·.map Sum.inl)
mutual
def Rep (K : PySem.W.Frag) (G : Hp) : D → V → Prop
  | .non, v => v = .non
  | .bl b, v => v = .bl b
  | .int i, v => v = .int i
  | .str x, v => v = .str x
  | .lst ds, v => ∃ a xs, v = .ref a ∧ Rd G a (.lst xs) ∧ Reps K G ds xs
  | .tup ds, v => ∃ a xs, v = .ref a ∧ G a = some (.tup xs) ∧ Reps K G ds xs
  | .obj _ _, _ => False
  | .any, _ => True
  | .dct ks ds, v => ∃ a kvs, v = .ref a ∧ Rd G a (.dT kvs) ∧ keysAre ks kvs ∧ Reps K G ds (kvs.map (·.2))
  | .exc c ds, v => ds = [] ∧ ∃ a, v = .ref a ∧ G a = some (.ext (ExcAt a (clK K c)))
def Reps (K : PySem.W.Frag) (G : Hp) : List D → List V → Prop
  | [], xs => xs = []
  | d :: r, xs => ∃ x xr, xs = x :: xr ∧ Rep K G d x ∧ Reps K G r xr
end
mutual
theorem Rep.same {G G' : Hp} (e : Same G G') : ∀ {d : D} {v : V}, Rep K G d v → Rep K G' d v
  | .non, _, h => h
  | .bl _, _, h => h
  | .int _, _, h => h
  | .str _, _, h => h
  | .lst _, _, ⟨a, xs, h1, h2, h3⟩ => ⟨a, xs, h1, Same.rd e h2, Reps.same e h3⟩
  | .tup _, _, ⟨a, xs, h1, h2, h3⟩ => ⟨a, xs, h1, e _ _ h2, Reps.same e h3⟩
  | .obj _ _, _, h => h
  | .any, _, h => h
  | .dct _ _, _, ⟨a, xs, h1, h2, h3, h4⟩ => ⟨a, xs, h1, Same.rd e h2, h3, Reps.same e h4⟩
  | .exc _ _, _, ⟨h, a, h1, h2⟩ => ⟨h, a, h1, e _ _ h2⟩
theorem Reps.same {G G' : Hp} (e : Same G G') : ∀ {ds : List D} {vs : List V}, Reps K G ds vs → Reps K G' ds vs
  | [], _, h => h
  | _ :: _, _, ⟨x, xr, h1, h2, h3⟩ => ⟨x, xr, h1, Rep.same e h2, Reps.same e h3⟩
end
theorem Reps.length {G : Hp} : ∀ {ds : List D} {vs : List V}, Reps K G ds vs → ds.length = vs.length
  | [], vs, h => by have e : vs = [] := h; rw [e]; rfl
  | _ :: _, _, ⟨x, xr, h1, _, h3⟩ => by rw [h1]; simp [Reps.length h3]
theorem Reps.get {G : Hp} : ∀ {ds : List D} {vs : List V} {i : Nat} {d : D}, Reps K G ds vs → ds[i]? = some d → ∃ v, vs[i]? = some v ∧ Rep K G d v
  | [], _, _, _, _, e => by simp at e
  | _ :: _, _, 0, _, ⟨x, xr, h1, h2, _⟩, e => by simp at e; subst e; exact ⟨x, by rw [h1]; rfl, h2⟩
  | _ :: _, _, i + 1, d, ⟨x, xr, h1, _, h3⟩, e => by
    obtain ⟨v, a, b⟩ := Reps.get (i := i) (d := d) h3 (by simpa using e)
    exact ⟨v, by rw [h1]; simpa using a, b⟩
theorem Reps.of_get {G : Hp} : ∀ {ds : List D} {vs : List V}, ds.length = vs.length → (∀ (i : Nat) d v, ds[i]? = some d → vs[i]? = some v → Rep K G d v) → Reps K G ds vs
  | [], [], _, _ => rfl
  | [], v :: vr, h, _ => absurd h (by simp)
  | d :: r, [], h, _ => absurd h (by simp)
  | d :: r, v :: vr, h, f => ⟨v, vr, rfl, f 0 d v rfl rfl, Reps.of_get (by simpa using h) fun i d v a b => f (i + 1) d v (by simpa using a) (by simpa using b)⟩
theorem Reps.append {G : Hp} : ∀ {ds es : List D} {vs ws : List V}, Reps K G ds vs → Reps K G es ws → Reps K G (ds ++ es) (vs ++ ws)
  | [], _, _, _, h, q => by rw [show _ = [] from h]; exact q
  | _ :: _, _, _, _, ⟨x, xr, h1, h2, h3⟩, q => by subst h1; exact ⟨x, _, rfl, h2, Reps.append h3 q⟩
theorem Reps.take {G : Hp} : ∀ {ds : List D} {vs : List V} (n : Nat), Reps K G ds vs → Reps K G (ds.take n) (vs.take n)
  | _, _, 0, _ => by simp only [List.take_zero]; rfl
  | [], _, _ + 1, h => by rw [show _ = [] from h]; rfl
  | _ :: _, _, n + 1, ⟨x, xr, h1, h2, h3⟩ => by subst h1; exact ⟨x, _, rfl, h2, Reps.take n h3⟩
theorem Reps.drop {G : Hp} : ∀ {ds : List D} {vs : List V} (n : Nat), Reps K G ds vs → Reps K G (ds.drop n) (vs.drop n)
  | _, _, 0, h => h
  | [], _, _ + 1, h => by rw [show _ = [] from h]; rfl
  | _ :: _, _, n + 1, ⟨x, xr, h1, _, h3⟩ => by subst h1; exact Reps.drop n h3
theorem Reps.set {G : Hp} {d : D} {v : V} (r : Rep K G d v) : ∀ {ds : List D} {vs : List V} (i : Nat), Reps K G ds vs → Reps K G (ds.set i d) (vs.set i v)
  | [], _, _, h => by rw [show _ = [] from h]; rfl
  | _ :: _, _, 0, ⟨x, xr, h1, _, h3⟩ => by subst h1; exact ⟨v, xr, rfl, r, h3⟩
  | _ :: _, _, i + 1, ⟨x, xr, h1, h2, h3⟩ => by subst h1; exact ⟨x, _, rfl, h2, Reps.set r i h3⟩
theorem Reps.one {G : Hp} {d : D} {v : V} (r : Rep K G d v) : Reps K G [d] [v] := ⟨v, [], rfl, r, rfl⟩
theorem cutF_stab {H0 H : Hp} {B : Addr → Prop} {a : Addr} {o : HO} (s : Same H0 H) (st : stab o = true) (e : cutF false H0 H B a = some o) : cutF true H0 H B a = some o := by
  obtain ⟨n, e⟩ := cut_some.mp e
  refine cut_some.mpr ⟨fun z => ?_, e⟩
  rcases z with z | ⟨_, o', q1, q2⟩
  · exact n (.inl z)
  · rw [s a o' q1] at e; cases e; rw [st] at q2; cases q2
mutual
theorem Rep.imm {H0 H : Hp} {B : Addr → Prop} (s : Same H0 H) : ∀ {d : D} {v : V}, d.imm = true → Rep K (cutF false H0 H B) d v → Rep K (cutF true H0 H B) d v
  | .non, _, _, h => h
  | .bl _, _, _, h => h
  | .int _, _, _, h => h
  | .str _, _, _, h => h
  | .lst _, _, i, _ => by cases i
  | .tup ds, _, i, ⟨a, xs, h1, h2, h3⟩ => by
    refine ⟨a, xs, h1, ?_, Reps.imm s (by simpa [D.imm] using i) h3⟩
    exact cutF_stab s rfl h2
  | .obj _ _, _, _, h => h
  | .any, _, i, _ => by cases i
  | .dct _ _, _, i, _ => by cases i
  | .exc _ _, _, _, ⟨h, a, h1, h2⟩ => ⟨h, a, h1, cutF_stab s rfl h2⟩
theorem Reps.imm {H0 H : Hp} {B : Addr → Prop} (s : Same H0 H) : ∀ {ds : List D} {vs : List V}, D.imms ds = true → Reps K (cutF false H0 H B) ds vs → Reps K (cutF true H0 H B) ds vs
  | [], _, _, h => h
  | d :: r, _, i, ⟨x, xr, h1, h2, h3⟩ => by
    have i' : d.imm = true ∧ D.imms r = true := by simpa [D.imms] using i
    exact ⟨x, xr, h1, Rep.imm s i'.1 h2, Reps.imm s i'.2 h3⟩
end
theorem Rep.fr {H0 H : Hp} {B : Addr → Prop} {fr : Bool} {d : D} {v : V} (s : Same H0 H) (h : Rep K (cutF fr H0 H B) d v) : Rep K (cutF (fr || d.imm) H0 H B) d v := by
  cases fr with
  | true => exact h
  | false =>
    cases e : d.imm with
    | false => exact h
    | true => exact Rep.imm s e h
def Held (K : PySem.W.Frag) (G : Hp) (d : D) (o : HO) : Prop := match d with
  | .lst ds => ∃ vs, o = .lst vs ∧ Reps K G ds vs
  | .dct ks ds => ∃ kvs, o = .dT kvs ∧ keysAre ks kvs ∧ Reps K G ds (kvs.map (·.2))
  | _ => False
theorem Held.same {G G' : Hp} (e : Same G G') {d : D} {o : HO} (h : Held K G d o) : Held K G' d o := by
  cases d with
  | lst ds => obtain ⟨vs, h1, h2⟩ := h; exact ⟨vs, h1, Reps.same e h2⟩
  | dct ks ds => obtain ⟨kvs, h1, h2, h3⟩ := h; exact ⟨kvs, h1, h2, Reps.same e h3⟩
  | _ => exact h.elim
theorem Held.con {G : Hp} {d : D} {o : HO} (h : Held K G d o) : d.con = true := by
  cases d with
  | lst ds => rfl
  | dct ks ds => rfl
  | _ => exact h.elim
theorem Held.imm {G : Hp} {d : D} {o : HO} (h : Held K G d o) : d.imm = false := by
  cases d with
  | lst ds => rfl
  | dct ks ds => rfl
  | _ => exact h.elim
theorem Held.stab {G : Hp} {d : D} {o : HO} (h : Held K G d o) : stab o = false := by
  cases d with
  | lst ds => obtain ⟨vs, h1, h2⟩ := h; subst h1; rfl
  | dct ks ds => obtain ⟨kvs, h1, h2, h3⟩ := h; subst h1; rfl
  | _ => exact h.elim
theorem Held.lst {G : Hp} {ds : List D} {vs : List V} (h : Reps K G ds vs) : Held K G (.lst ds) (.lst vs) := ⟨vs, rfl, h⟩
theorem Held.rep {G G' : Hp} {a : Addr} {d : D} {o : HO} (h : Held K G d o) (e : Same G G') (q : G' a = some o) : Rep K G' d (.ref a) := by
  cases d with
  | lst ds => obtain ⟨vs, h1, h2⟩ := h; subst h1; exact ⟨a, vs, rfl, Rd.of q, Reps.same e h2⟩
  | dct ks ds => obtain ⟨kvs, h1, h2, h3⟩ := h; subst h1; exact ⟨a, kvs, rfl, Rd.of q, h2, Reps.same e h3⟩
  | _ => exact h.elim
def Good (K : PySem.W.Frag) (H0 H : Hp) (B : Addr → Prop) (v : V) (e : Res) : Prop :=
  match e.k with
  | .shr => Rep K (cutF e.fr H0 H B) e.d v
  | .own => ∃ a o, v = .ref a ∧ B a ∧ H0 a = none ∧ H a = some o ∧ Held K (cutF e.fr H0 H B) e.d o
  | .tmp => False
  | .old => e.fr = false ∧ Rep K (cut H0 B) e.d v
structure DenE (K : PySem.W.Frag) (H0 H : Hp) (B : Addr → Prop) (σ : St) (ρ : Env) : Prop where
  len : ρ.length = σ.length
  sam : Same H0 H
  bnd : ∀ b, B b → ∃ o, H b = some o ∧ stab o = false
  ent : ∀ (i : Nat) (e : Res), ρ[i]? = some (some e) → ∃ v, σ[i]? = some (some v) ∧ Good K H0 H B v e
def GoodR (K : PySem.W.Frag) (H0 H H' : Hp) (B : Addr → Prop) (v : V) (r : Res) : Prop :=
  match r.k with
  | .shr => Rep K (cutF r.fr H0 H' B) r.d v
  | .own => ∃ a o, v = .ref a ∧ B a ∧ H0 a = none ∧ H' a = some o ∧ Held K (cutF r.fr H0 H' B) r.d o
  | .tmp => ∃ a o, v = .ref a ∧ H a = none ∧ H' a = some o ∧ Held K (cutF r.fr H0 H' fun b => B b ∨ b = a) r.d o
  | .old => False
section
variable {H0 H H' H'' : Hp} {B B' : Addr → Prop} {v : V} {r e : Res} {σ : St} {ρ : Env}
theorem Good.mono (g : Good K H0 H B v e) (s : Same H H') : Good K H0 H' B v e := by
  unfold Good at g ⊢
  have m : ∀ fr, Same (cutF fr H0 H B) (cutF fr H0 H' B) := fun fr => cutF_mono (fun b o e _ => s b o e) fun b z => .inl z
  cases k : e.k with
  | shr => rw [k] at g; exact Rep.same (m _) g
  | own => rw [k] at g; obtain ⟨a, o, h1, h2, h3, h4, h5⟩ := g; exact ⟨a, o, h1, h2, h3, s _ _ h4, h5.same (m _)⟩
  | tmp => rw [k] at g; exact g
  | old => rw [k] at g; exact g
theorem DenE.mono (d : DenE K H0 H B σ ρ) (s : Same H H') : DenE K H0 H' B σ ρ :=
  ⟨d.len, d.sam.trans s, fun b h => let ⟨o, e, n⟩ := d.bnd b h; ⟨o, s _ _ e, n⟩, fun i e h => let ⟨v, a, g⟩ := d.ent i e h; ⟨v, a, g.mono s⟩⟩
theorem GoodR.mono (g : GoodR K H0 H H' B v r) (s : Same H' H'') : GoodR K H0 H H'' B v r := by
  unfold GoodR at g ⊢
  have m : ∀ fr (B : Addr → Prop), Same (cutF fr H0 H' B) (cutF fr H0 H'' B) := fun fr B => cutF_mono (fun b o e _ => s b o e) fun b z => .inl z
  cases k : r.k with
  | shr => rw [k] at g; exact Rep.same (m _ _) g
  | own => rw [k] at g; obtain ⟨a, o, h1, h2, h3, h4, h5⟩ := g; exact ⟨a, o, h1, h2, h3, s _ _ h4, h5.same (m _ _)⟩
  | tmp => rw [k] at g; obtain ⟨a, o, h1, h2, h3, h4⟩ := g; exact ⟨a, o, h1, h2, s _ _ h3, h4.same (m _ _)⟩
  | old => rw [k] at g; exact g
theorem GoodR.sc {d : D} (h : Rep K (cutF true H0 H' B) d v) : GoodR K H0 H H' B v (sc d) := h
theorem GoodR.con (g : GoodR K H0 H H' B v r) (e : r.k ≠ .shr) : ∃ a o, v = .ref a ∧ H' a = some o ∧ Held K (cutF r.fr H0 H' B) r.d o := by
  unfold GoodR at g
  cases k : r.k with
  | shr => exact absurd k e
  | own => rw [k] at g; obtain ⟨a, o, h1, _, _, h4, h5⟩ := g; exact ⟨a, o, h1, h4, h5⟩
  | tmp => rw [k] at g; obtain ⟨a, o, h1, _, h3, h4⟩ := g; exact ⟨a, o, h1, h3, h4.same (cutF_mono (fun b o e _ => e) fun b z => .inl (.inl z))⟩
  | old => rw [k] at g; exact g.elim
theorem GoodR.list {ds : List D} (g : GoodR K H0 H H' B v r) (e : r.d = .lst ds) : ∃ a xs, v = .ref a ∧ Rd H' a (.lst xs) ∧ Reps K (cutF r.fr H0 H' B) ds xs := by
  by_cases k : r.k = .shr
  · unfold GoodR at g
    rw [k, e] at g
    obtain ⟨a, xs, h1, h2, h3⟩ := g
    exact ⟨a, xs, h1, Same.rd cut_same h2, h3⟩
  · obtain ⟨a, o, h1, h2, h3⟩ := g.con k
    rw [e] at h3
    obtain ⟨vs, h4, h5⟩ := h3
    subst h4
    exact ⟨a, vs, h1, Rd.of h2, h5⟩
theorem GoodR.dict {ks : List (List Int)} {ds : List D} (g : GoodR K H0 H H' B v r) (e : r.d = .dct ks ds) : ∃ a kvs, v = .ref a ∧ Rd H' a (.dT kvs) ∧ keysAre ks kvs ∧ Reps K (cutF r.fr H0 H' B) ds (kvs.map (·.2)) := by
  by_cases k : r.k = .shr
  · unfold GoodR at g
    rw [k, e] at g
    obtain ⟨a, xs, h1, h2, h3, h4⟩ := g
    exact ⟨a, xs, h1, Same.rd cut_same h2, h3, h4⟩
  · obtain ⟨a, o, h1, h2, h3⟩ := g.con k
    rw [e] at h3
    obtain ⟨kvs, h4, h5, h6⟩ := h3
    subst h4
    exact ⟨a, kvs, h1, Rd.of h2, h5, h6⟩
theorem GoodR.shr_of (g : GoodR K H0 H H' B v r) (h : r.d.con = false) : Rep K (cutF r.fr H0 H' B) r.d v := by
  by_cases k : r.k = .shr
  · unfold GoodR at g
    rw [k] at g; exact g
  · obtain ⟨a, o, h1, h2, h3⟩ := g.con k
    rw [h3.con] at h; cases h
theorem GoodR.int {i : Int} (g : GoodR K H0 H H' B v r) (e : r.d = .int i) : v = .int i := by
  have := g.shr_of (by rw [e]; rfl)
  rw [e] at this; exact this
theorem GoodR.bl {b : Bool} (g : GoodR K H0 H H' B v r) (e : r.d = .bl b) : v = .bl b := by
  have := g.shr_of (by rw [e]; rfl)
  rw [e] at this; exact this
theorem GoodR.tuple {ds : List D} (g : GoodR K H0 H H' B v r) (e : r.d = .tup ds) : ∃ a xs, v = .ref a ∧ H' a = some (.tup xs) ∧ Reps K (cutF r.fr H0 H' B) ds xs := by
  have := g.shr_of (by rw [e]; rfl)
  rw [e] at this
  obtain ⟨a, xs, h1, h2, h3⟩ := this
  exact ⟨a, xs, h1, cut_same _ _ h2, h3⟩
theorem GoodR.give {r' : Res} (den : DenE K H0 H B σ ρ) (g : GoodR K H0 H H' B v r) (e : r.give = .ok r') : r' = ⟨.shr, r.fr, r.d⟩ ∧ Rep K (cutF r.fr H0 H' B) r.d v := by
  unfold Res.give at e
  unfold GoodR at g
  cases k : r.k with
  | shr => rw [k] at g e; simp at e; exact ⟨e.symm, g⟩
  | own => rw [k] at e; simp at e
  | old => rw [k] at g; exact g.elim
  | tmp =>
    rw [k] at g e
    simp at e
    obtain ⟨a, o, h1, h2, h3, h4⟩ := g
    refine ⟨e.symm, ?_⟩
    subst h1
    refine h4.rep (cutF_mono (fun b o e _ => e) fun b z => .inl (.inl z)) (cut_some.mpr ⟨fun z => ?_, h3⟩)
    rcases z with z | ⟨_, o, z, _⟩
    · obtain ⟨o, q, _⟩ := den.bnd a z; rw [h2] at q; cases q
    · rw [den.sam _ _ z] at h2; cases h2
theorem Good.res (s : Same H0 H) (g : Good K H0 H B v e) : GoodR K H0 H H B v ⟨e.k.rd, e.fr || e.d.imm, e.d⟩ := by
  unfold Good at g
  unfold GoodR
  cases k : e.k with
  | shr => rw [k] at g; exact Rep.fr s g
  | own =>
    rw [k] at g
    obtain ⟨a, o, h1, h2, h3, h4, h5⟩ := g
    refine ⟨a, o, h1, h2, h3, h4, ?_⟩
    rw [h5.imm, Bool.or_false]
    exact h5
  | tmp => rw [k] at g; exact g.elim
  | old =>
    rw [k] at g
    refine Rep.fr s (Rep.same ?_ g.2)
    rw [g.1]
    intro b o q
    obtain ⟨n, q⟩ := cut_some.mp q
    refine cut_some.mpr ⟨fun z => ?_, s b o q⟩
    rcases z with z | ⟨z, _⟩
    · exact n z
    · cases z
end
structure XP where
  p : Xc → St → Hp → Prop
  mono : ∀ {x : Xc} {σ : St} {H H' : Hp}, p x σ H → Same H H' → p x σ H'
def XP0 : XP := ⟨fun _ _ _ => False, fun h _ => h⟩
def tE (K : PySem.W.Frag) (P : XP) (f : FE) : TE := fun σ H Q => ∃ H0 B ρ, DenE K H0 H B σ ρ ∧ match f ρ with
  | .ok r => ∀ v H', Same H H' → GoodR K H0 H H' B v r → Q v H'
  | .exc x => P.p x σ H
  | .stk => False
def tT (K : PySem.W.Frag) (P : XP) (f : FT) : TT := fun σ H Q => ∃ H0 B ρ, DenE K H0 H B σ ρ ∧ match f ρ with
  | .ok b => ∀ H', Same H H' → Q b H'
  | .exc x => P.p x σ H
  | .stk => False
theorem PE.imp {X : Cx} {e : Expr} {t t' : TE} (p : PE X e t) (h : ∀ σ H Q, t' σ H Q → t σ H Q) : PE X e t' := fun pins s σ H Q I q => p pins s σ H Q I (h σ H Q q)
theorem PT.imp {X : Cx} {e : Expr} {t t' : TT} (p : PT X e t) (h : ∀ σ H Q, t' σ H Q → t σ H Q) : PT X e t' := fun pins s σ H Q I q => p pins s σ H Q I (h σ H Q q)
theorem tE_of {X : Cx} {P : XP} {f : FE} {H0 H : Hp} {B : Addr → Prop} {σ : St} {ρ : Env} {Q : VK} {r : Res} (d : DenE X.K H0 H B σ ρ) (e : f ρ = .ok r)
    (h : ∀ v H', Same H H' → DenE X.K H0 H' B σ ρ → GoodR X.K H0 H H' B v r → Q v H') : tE X.K P f σ H Q :=
  ⟨H0, B, ρ, d, by rw [e]; exact fun v H' s g => h v H' s (d.mono s) g⟩
theorem tE_exc {X : Cx} {P : XP} {f : FE} {H0 H : Hp} {B : Addr → Prop} {σ : St} {ρ : Env} {Q : VK} {x : Xc} (d : DenE X.K H0 H B σ ρ) (e : f ρ = .exc x) (h : P.p x σ H) : tE X.K P f σ H Q :=
  ⟨H0, B, ρ, d, by rw [e]; exact h⟩
end Mir
set_option Elab.async false
set_option linter.all false
set_option maxRecDepth 100000
set_option maxHeartbeats 1000000
namespace Mir
open PySem L2
variable {X : Cx} {P : XP} {a b c : Expr} {f g : FE} {pos : Pos}
theorem m_vr {i : Nat} {x : Str} (hN : X.N[i]? = some x) (hv : Vis X.env.scope x) (hd : (x == ("__debug__" : Str)) = false := by decide) (hcd : (x == ("__classdict__" : Str)) = false := by decide) : PE X (.Name x pos) (tE X.K P (vE i)) := by
  refine PE.imp (pe_var hN hv hd hcd) ?_
  rintro σ H Q ⟨H0, B, ρ, d, h⟩
  unfold vE at h
  cases e : ρ[i]? with
  | none => rw [e] at h; exact h.elim
  | some o =>
    cases o with
    | none => rw [e] at h; exact h.elim
    | some r =>
      rw [e] at h
      obtain ⟨v, hv, gd⟩ := d.ent i r e
      exact ⟨v, hv, h v H (Same.refl H) (gd.res d.sam)⟩
theorem m_v (i : Nat) {x : Str} (hN : X.N[i]? = some x := by rfl) (hv : Vis X.env.scope x := by first | exact Or.inl rfl | exact Or.inr (Or.inl rfl) | exact Or.inr (Or.inr rfl)) (hd : (x == ("__debug__" : Str)) = false := by decide)
    (hcd : (x == ("__classdict__" : Str)) = false := by decide) : PE X (.Name x pos) (tE X.K P (vE i)) := m_vr hN hv hd hcd
theorem m_c {d : D} {v : V} {e : Expr} (h : PE X e (tC v)) (r : ∀ G, Rep X.K G d v) : PE X e (tE X.K P (cE d)) := by
  refine PE.imp h ?_
  rintro σ H Q ⟨H0, B, ρ, den, h⟩
  exact h v H (Same.refl H) (r _)
theorem m_int {i : Int} {j pos} : PE X (.Constant (.int i) j pos) (tE X.K P (cE (.int i))) := m_c pe_int fun _ => rfl
theorem m_bl {b : Bool} {j pos} : PE X (.Constant (.bool b) j pos) (tE X.K P (cE (.bl b))) := m_c pe_bl fun _ => rfl
theorem asI_ok {d : D} {i : Int} (h : asI d = .ok i) : d = .int i := by cases d <;> simp [asI] at h; rw [h]
theorem asI_exc {d : D} {x : Xc} (h : asI d = .exc x) : False := by cases d <;> simp [asI] at h
theorem asB_ok {d : D} {i : Bool} (h : asB d = .ok i) : d = .bl i := by cases d <;> simp [asB] at h; rw [h]
theorem asB_exc {d : D} {x : Xc} (h : asB d = .exc x) : False := by cases d <;> simp [asB] at h
theorem asL_ok {d : D} {i : List D} (h : asL d = .ok i) : d = .lst i := by cases d <;> simp [asL] at h; rw [h]
theorem asL_exc {d : D} {x : Xc} (h : asL d = .exc x) : False := by cases d <;> simp [asL] at h
theorem asS_ok {d : D} {i : List D} (h : asS d = .ok i) : d = .lst i ∨ d = .tup i := by cases d <;> simp [asS] at h <;> simp [h]
theorem asS_exc {d : D} {x : Xc} (h : asS d = .exc x) : False := by cases d <;> simp [asS] at h
theorem t1 {k : Res → R Res} {σ : St} {H : Hp} {Q : VK} {q : VK} (h : tE X.K P (fun ρ => f ρ >>= k) σ H Q)
    (hk : ∀ H0 B ρ v H' r, DenE X.K H0 H' B σ ρ → GoodR X.K H0 H H' B v r → Same H H' → (match k r with
      | .ok r1 => ∀ v1 H1, Same H' H1 → GoodR X.K H0 H H1 B v1 r1 → Q v1 H1
      | .exc x => P.p x σ H'
      | .stk => False) → q v H') : tE X.K P f σ H q := by
  obtain ⟨H0, B, ρ, d, h⟩ := h
  cases e : f ρ with
  | stk => simp [e] at h
  | exc x => simp [e] at h; exact tE_exc d e h
  | ok r =>
    simp [e] at h
    refine tE_of d e fun v H' s d' gd => hk H0 B ρ v H' r d' gd s ?_
    cases e2 : k r with
    | stk => rw [e2] at h; exact h
    | exc x => rw [e2] at h; exact P.mono h s
    | ok r1 => rw [e2] at h; exact fun v1 H1 s1 g1 => h v1 H1 (s.trans s1) g1
theorem t2 {k : Res → Res → R Res} {σ : St} {H : Hp} {Q : VK} {q : V → V → Hp → Prop} (h : tE X.K P (fun ρ => f ρ >>= fun x => g ρ >>= fun y => k x y) σ H Q)
    (hk : ∀ H0 B ρ v w H' r r', DenE X.K H0 H' B σ ρ → GoodR X.K H0 H H' B v r → GoodR X.K H0 H H' B w r' → Same H H' → (match k r r' with
      | .ok r1 => ∀ v1 H1, Same H' H1 → GoodR X.K H0 H H1 B v1 r1 → Q v1 H1
      | .exc x => P.p x σ H'
      | .stk => False) → q v w H') : tE X.K P f σ H fun v H1 => tE X.K P g σ H1 fun w H2 => q v w H2 := by
  obtain ⟨H0, B, ρ, d, h⟩ := h
  cases e : f ρ with
  | stk => simp [e] at h
  | exc x => simp [e] at h; exact tE_exc d e h
  | ok r =>
    simp [e] at h
    refine tE_of d e fun v H1 s1 d1 g1 => ?_
    cases e2 : g ρ with
    | stk => simp [e2] at h
    | exc x => simp [e2] at h; exact tE_exc d1 e2 (P.mono h s1)
    | ok r' =>
      simp [e2] at h
      refine tE_of d1 e2 fun w H2 s2 d2 g2 => hk H0 B ρ v w H2 r r' d2 (g1.mono s2) ?_ (s1.trans s2) ?_
      · unfold GoodR at g2 ⊢
        cases k : r'.k with
        | shr => rw [k] at g2; exact g2
        | own => rw [k] at g2; exact g2
        | tmp => rw [k] at g2; obtain ⟨a, o, h1, h2, h3⟩ := g2; exact ⟨a, o, h1, s1.none h2, h3⟩
        | old => rw [k] at g2; exact g2
      · cases e3 : k r r' with
        | stk => rw [e3] at h; exact h
        | exc x => rw [e3] at h; exact P.mono h (s1.trans s2)
        | ok r1 => rw [e3] at h; exact fun v1 H3 s3 g3 => h v1 H3 ((s1.trans s2).trans s3) g3
theorem m_i2 {op : Operator} {C : Int → Int → Bool} {C' : Int → Int → Prop} {G : Int → Int → Int} (ho : OpR X (binaryOp op) (rI C' fun i j => .int (G i j))) (hC : ∀ i j, C i j = true → C' i j) (ha : PE X a (tE X.K P f)) (hb : PE X b (tE X.K P g)) :
    PE X (.BinOp a op b pos) (tE X.K P (i2E C G f g)) := by
  refine PE.imp (pe_op ho ha hb) ?_
  intro σ H Q h
  refine t2 (q := fun x y H2 => rI C' (fun i j => .int (G i j)) x y H2 Q) h ?_
  intro H0 B ρ v w H' r r' d g1 g2 s h
  cases e1 : asI r.d with
  | stk => simp [e1] at h
  | exc x => exact (asI_exc e1).elim
  | ok i =>
    cases e2 : asI r'.d with
    | stk => simp [e1, e2] at h
    | exc x => exact (asI_exc e2).elim
    | ok j =>
      simp only [e1, e2, R.ok_bind] at h
      by_cases hc : C i j = true
      · rw [if_pos hc] at h
        exact ⟨i, j, g1.int (asI_ok e1), g2.int (asI_ok e2), hC i j hc, h _ H' (Same.refl _) (GoodR.sc (show Rep _ _ (.int (G i j)) _ from rfl))⟩
      · rw [if_neg hc] at h; exact h.elim
theorem rI_of {G : Int → Int → Int} {F : Value → Value → Sem Value} (h : OpR X F (rI0 fun i j => .int (G i j))) : OpR X F (rI (fun _ _ => True) fun i j => .int (G i j)) :=
  fun pins s σ H x y v u Q I rx ry ⟨i, j, e1, e2, _, q⟩ => h pins s σ H x y v u Q I rx ry ⟨i, j, e1, e2, q⟩
theorem m_add (ha : PE X a (tE X.K P f)) (hb : PE X b (tE X.K P g)) : PE X (.BinOp a .Add b pos) (tE X.K P (addE f g)) := m_i2 (rI_of op_add) (fun _ _ _ => trivial) ha hb
theorem m_sub (ha : PE X a (tE X.K P f)) (hb : PE X b (tE X.K P g)) : PE X (.BinOp a .Sub b pos) (tE X.K P (subE f g)) := m_i2 (rI_of op_sub) (fun _ _ _ => trivial) ha hb
theorem m_mul (ha : PE X a (tE X.K P f)) (hb : PE X b (tE X.K P g)) : PE X (.BinOp a .Mult b pos) (tE X.K P (mulE f g)) := m_i2 op_mulB (fun i j h => by
  unfold CM at h; simp at h; exact h) ha hb
theorem m_fdv (ha : PE X a (tE X.K P f)) (hb : PE X b (tE X.K P g)) : PE X (.BinOp a .FloorDiv b pos) (tE X.K P (fdvE f g)) := m_i2 op_fdivB (fun i j h => by
  unfold CD at h; simp at h; exact h) ha hb
theorem m_mod (ha : PE X a (tE X.K P f)) (hb : PE X b (tE X.K P g)) : PE X (.BinOp a .Mod b pos) (tE X.K P (modE f g)) := m_i2 op_mod (fun i j h => by
  unfold CP at h; simp at h; exact h) ha hb
theorem m_pow (ha : PE X a (tE X.K P f)) (hb : PE X b (tE X.K P g)) : PE X (.BinOp a .Pow b pos) (tE X.K P (powE f g)) := m_i2 op_pow (fun i j h => by
  unfold CW at h; simp at h; exact ⟨h.1.1, h.1.2, h.2⟩) ha hb
theorem i_cmp {G : Int → Int → Bool} (σ : St) (H : Hp) (Q : VK) (h : tE X.K P (cmpE G f g) σ H Q) : tOp (rI0 fun i j => .bl (G i j)) (tE X.K P f) (tE X.K P g) σ H Q := by
  refine t2 (q := fun x y H2 => rI0 (fun i j => .bl (G i j)) x y H2 Q) h ?_
  intro H0 B ρ v w H' r r' d g1 g2 s h
  cases e1 : asI r.d with
  | stk => simp [e1] at h
  | exc x => exact (asI_exc e1).elim
  | ok i =>
    cases e2 : asI r'.d with
    | stk => simp [e1, e2] at h
    | exc x => exact (asI_exc e2).elim
    | ok j =>
      simp only [e1, e2, R.ok_bind] at h
      exact ⟨i, j, g1.int (asI_ok e1), g2.int (asI_ok e2), h _ H' (Same.refl _) (GoodR.sc (show Rep _ _ (.bl (G i j)) _ from rfl))⟩
mutual
theorem Rep.has {G H : Hp} (s : Same G H) : ∀ {d : D} {p : PyData} {v : V}, toPy d = some p → Rep X.K G d v → Has X.K H v p
  | .non, _, _, e, h => by simp [toPy] at e; subst e; rw [show _ = V.non from h]; exact .non
  | .bl b, _, _, e, h => by simp [toPy] at e; subst e; rw [show _ = V.bl b from h]; exact .bl b
  | .int i, _, _, e, h => by simp [toPy] at e; subst e; rw [show _ = V.int i from h]; exact .int i
  | .str x, _, _, e, h => by simp [toPy] at e; subst e; rw [show _ = V.str x from h]; exact .str x
  | .lst ds, _, _, e, ⟨a, xs, h1, h2, h3⟩ => by
    simp [toPy] at e
    obtain ⟨ps, e1, e2⟩ := e
    subst e2; subst h1
    exact .lst (.inl (Same.rd s h2)) (Reps.has s e1 h3)
  | .tup ds, _, _, e, ⟨a, xs, h1, h2, h3⟩ => by
    simp [toPy] at e
    obtain ⟨ps, e1, e2⟩ := e
    subst e2; subst h1
    exact .tup (.inl (.inl (s _ _ h2))) (Reps.has s e1 h3)
  | .obj _ _, _, _, e, h => h.elim
  | .any, _, _, e, _ => by simp [toPy] at e
  | .dct _ _, _, _, e, _ => by simp [toPy] at e
  | .exc _ _, _, _, e, _ => by simp [toPy] at e
theorem Reps.has {G H : Hp} (s : Same G H) : ∀ {ds : List D} {ps : List PyData} {vs : List V}, toPys ds = some ps → Reps X.K G ds vs → HasAll X.K H vs ps
  | [], _, _, e, h => by simp [toPys] at e; subst e; rw [show _ = [] from h]; exact .nil
  | d :: r, _, _, e, ⟨x, xr, h1, h2, h3⟩ => by
    simp [toPys, Option.bind_eq_some_iff] at e
    obtain ⟨p, e1, q, e2, e3⟩ := e
    subst e3; subst h1
    exact .cons (Rep.has s e1 h2) (Reps.has s e2 h3)
end
theorem GoodR.has {H0 H H' : Hp} {B : Addr → Prop} {v : V} {r : Res} {p : PyData} (g : GoodR X.K H0 H H' B v r) (e : toPy r.d = some p) : Has X.K H' v p := by
  cases k : r.d with
  | lst ds =>
    obtain ⟨a, xs, h1, h2, h3⟩ := g.list k
    rw [k] at e
    simp [toPy] at e
    obtain ⟨ps, e1, e2⟩ := e
    subst e2; subst h1
    exact .lst (.inl h2) (Reps.has cut_same e1 h3)
  | dct ks ds => rw [k] at e; simp [toPy] at e
  | _ => exact Rep.has cut_same e (g.shr_of (by rw [k]; rfl))
theorem eqvR_exc {x y : D} {z : Xc} (h : eqvR x y = .exc z) : False := by
  unfold eqvR at h
  split at h
  · split at h <;> cases h
  · cases h
theorem i_eqq {n : Bool → Bool} (σ : St) (H : Hp) (Q : VK) (h : tE X.K P (fun ρ => f ρ >>= fun x => g ρ >>= fun y => eqvR x.d y.d >>= fun t => .ok (sc (.bl (n t)))) σ H Q) :
    tOp (fun x y H Q => ∃ d e, Has X.K H x d ∧ Has X.K H y e ∧ SeqAt.shaped d = true ∧ SeqAt.shaped e = true ∧ Q (.bl (n (PyData.eqv d e))) H) (tE X.K P f) (tE X.K P g) σ H Q := by
  refine t2 (q := fun x y H2 => ∃ d e, Has X.K H2 x d ∧ Has X.K H2 y e ∧ SeqAt.shaped d = true ∧ SeqAt.shaped e = true ∧ Q (.bl (n (PyData.eqv d e))) H2) h ?_
  intro H0 B ρ v w H' r r' d g1 g2 s h
  cases e1 : eqvR r.d r'.d with
  | stk => simp [e1] at h
  | exc x => exact (eqvR_exc e1).elim
  | ok t =>
    simp only [e1, R.ok_bind] at h
    unfold eqvR at e1
    split at e1
    · rename_i p q hp hq
      split at e1
      · rename_i hs
        rw [Bool.and_eq_true] at hs
        cases e1
        exact ⟨p, q, g1.has hp, g2.has hq, hs.1, hs.2, h _ H' (Same.refl _) (GoodR.sc (show Rep _ _ (.bl _) _ from rfl))⟩
      · cases e1
    · cases e1
theorem tT_bool {σ : St} {H : Hp} {Q : Bool → Hp → Prop} (h : tT X.K P (bT f) σ H Q) : tE X.K P f σ H fun x H1 => ∃ k, x = .bl k ∧ Q k H1 := by
  obtain ⟨H0, B, ρ, d, h⟩ := h
  unfold bT at h
  cases e : f ρ with
  | stk => simp [e] at h
  | exc x => simp [e] at h; exact tE_exc d e h
  | ok r =>
    cases e1 : asB r.d with
    | stk => simp [e, e1] at h
    | exc x => exact (asB_exc e1).elim
    | ok t =>
      simp [e, e1] at h
      exact tE_of d e fun v H' s d' g' => ⟨t, g'.bl (asB_ok e1), h H' s⟩
theorem m_eq (hu : X.A.units + 64 < cLine) (ha : PE X a (tE X.K P f)) (hb : PE X b (tE X.K P g)) : PE X (.Compare a [.Eq] [b] pos) (tE X.K P (eqE f g)) := PE.imp (pe_cmpR (op_eqD hu) ha hb (nomark _)) (i_eqq (n := id))
theorem mt_cmp {op : CmpOp} {r : R2} (ho : OpR X (compareOp op) r) (ha : PE X a (tE X.K P f)) (hb : PE X b (tE X.K P g)) (hm : behindInMarks op b = false) {F : FE} (himp : ∀ σ H Q, tE X.K P F σ H Q → tOp r (tE X.K P f) (tE X.K P g) σ H Q) :
    PT X (.Compare a [op] [b] pos) (tT X.K P (bT F)) := by
  refine PT.imp (pt_cmpR ho ha hb hm) ?_
  intro σ H Q h
  exact himp σ H _ (tT_bool h)
theorem mt_lt (ha : PE X a (tE X.K P f)) (hb : PE X b (tE X.K P g)) : PT X (.Compare a [.Lt] [b] pos) (tT X.K P (bT (ltE f g))) := mt_cmp op_lt ha hb (nomark _) i_cmp
theorem mt_gt (ha : PE X a (tE X.K P f)) (hb : PE X b (tE X.K P g)) : PT X (.Compare a [.Gt] [b] pos) (tT X.K P (bT (gtE f g))) := mt_cmp op_gt ha hb (nomark _) i_cmp
theorem mt_eq (hu : X.A.units + 64 < cLine) (ha : PE X a (tE X.K P f)) (hb : PE X b (tE X.K P g)) : PT X (.Compare a [.Eq] [b] pos) (tT X.K P (bT (eqE f g))) := mt_cmp (op_eqD hu) ha hb (nomark _) (i_eqq (n := id))
theorem mt_ne (hu : X.A.units + 64 < cLine) (ha : PE X a (tE X.K P f)) (hb : PE X b (tE X.K P g)) : PT X (.Compare a [.NotEq] [b] pos) (tT X.K P (bT (neE f g))) := mt_cmp (op_neD hu) ha hb (nomark _) (i_eqq (n := not))
theorem mt_val {e : Expr} (h : PE X e (tE X.K P f)) (he : ∀ whole, isTrue e X.env whole = (do let v ← whole; standAt e.pos; holding [v] (truthy v)) := by intro _; rfl) : PT X e (tT X.K P (bT f)) := by
  refine PT.imp (pt_val h he) ?_
  intro σ H Q h
  exact tT_bool h
variable {t u : FT} {rest : List Expr}
theorem tT1 {k : Bool → R Bool} {σ : St} {H : Hp} {Q : Bool → Hp → Prop} {q : Bool → Hp → Prop} (h : tT X.K P (fun ρ => t ρ >>= k) σ H Q)
    (hk : ∀ c H', Same H H' → (match k c with
      | .ok b => ∀ H1, Same H' H1 → Q b H1
      | .exc x => P.p x σ H'
      | .stk => False) → q c H') : tT X.K P t σ H q := by
  obtain ⟨H0, B, ρ, d, h⟩ := h
  cases e : t ρ with
  | stk => simp [e] at h
  | exc x => simp [e] at h; exact ⟨H0, B, ρ, d, by rw [e]; exact h⟩
  | ok c =>
    simp [e] at h
    refine ⟨H0, B, ρ, d, ?_⟩
    rw [e]
    intro H' s
    refine hk c H' s ?_
    cases e2 : k c with
    | stk => rw [e2] at h; exact h
    | exc x => rw [e2] at h; exact P.mono h s
    | ok b => rw [e2] at h; exact fun H1 s1 => h H1 (s.trans s1)
theorem mt_not (h : PT X a (tT X.K P t)) : PT X (.UnaryOp .Not a pos) (tT X.K P (notT t)) := by
  refine PT.imp (pt_not h) ?_
  intro σ H Q h
  exact tT1 (q := fun c H1 => Q (!c) H1) h fun c H' s h => h H' (Same.refl _)
theorem tT2 {σ : St} {H : Hp} {Q : Bool → Hp → Prop} {stop : Bool} {h2 : Hp → Prop}
    (h : tT X.K P (fun ρ => t ρ >>= fun b => if b = stop then .ok stop else u ρ) σ H Q) : tT X.K P t σ H fun c H1 => if c = stop then Q stop H1 else tT X.K P u σ H1 Q := by
  obtain ⟨H0, B, ρ, d, h⟩ := h
  cases e : t ρ with
  | stk => simp [e] at h
  | exc x => simp [e] at h; exact ⟨H0, B, ρ, d, by rw [e]; exact h⟩
  | ok c =>
    simp only [e, R.ok_bind] at h
    refine ⟨H0, B, ρ, d, ?_⟩
    rw [e]
    intro H' s
    by_cases hc : c = stop
    · rw [if_pos hc] at h ⊢
      exact h H' s
    · rw [if_neg hc] at h ⊢
      refine ⟨H0, B, ρ, d.mono s, ?_⟩
      cases e2 : u ρ with
      | stk => rw [e2] at h; exact h
      | exc x => rw [e2] at h; exact P.mono h s
      | ok b => rw [e2] at h; exact fun H1 s1 => h H1 (s.trans s1)
theorem orT_eq : orT t u = fun ρ => t ρ >>= fun b => if b = true then .ok true else u ρ := by
  funext ρ
  unfold orT
  cases t ρ with
  | ok b => cases b <;> rfl
  | _ => rfl
theorem mw_or1 (ha : PT X a (tT X.K P t)) : PW X (.BoolOp .Or [a] pos) (tT X.K P t) := pw_or1 ha
theorem PW.imp {e : Expr} {t t' : TT} (p : PW X e t) (h : ∀ σ H Q, t' σ H Q → t σ H Q) : PW X e t' := fun wh pins s σ H Q I q => p wh pins s σ H Q I (h σ H Q q)
theorem mw_or (ha : PT X a (tT X.K P t)) (hb : PW X (.BoolOp .Or (b :: rest) pos) (tT X.K P u)) : PW X (.BoolOp .Or (a :: b :: rest) pos) (tT X.K P (orT t u)) := by
  refine PW.imp (pw_or ha hb) ?_
  intro σ H Q h
  rw [orT_eq] at h
  exact tT2 (h2 := fun _ => True) h
end Mir
set_option Elab.async false
set_option linter.all false
set_option maxRecDepth 100000
set_option maxHeartbeats 1000000
namespace Mir
open PySem L2
variable {X : Cx} {P : XP} {a b c e : Expr} {es : List Expr} {f g : FE} {fs : FEs} {pos : Pos}
def GoodRs (K : PySem.W.Frag) (H0 H H' : Hp) (B : Addr → Prop) : List V → List Res → Prop
  | [], rs => rs = []
  | v :: vs, rs => ∃ r rr, rs = r :: rr ∧ GoodR K H0 H H' B v r ∧ GoodRs K H0 H H' B vs rr
theorem GoodR.old {K : PySem.W.Frag} {H0 H H1 H2 : Hp} {B : Addr → Prop} {v : V} {r : Res} (s : Same H H1) (g : GoodR K H0 H1 H2 B v r) : GoodR K H0 H H2 B v r := by
  unfold GoodR at g ⊢
  cases k : r.k with
  | shr => rw [k] at g; exact g
  | own => rw [k] at g; exact g
  | tmp => rw [k] at g; obtain ⟨a, o, h1, h2, h3⟩ := g; exact ⟨a, o, h1, s.none h2, h3⟩
  | old => rw [k] at g; exact g
theorem GoodRs.old {K : PySem.W.Frag} {H0 H H1 H2 : Hp} {B : Addr → Prop} (s : Same H H1) : ∀ {vs : List V} {rs : List Res}, GoodRs K H0 H1 H2 B vs rs → GoodRs K H0 H H2 B vs rs
  | [], _, h => h
  | _ :: _, _, ⟨r, rr, e, g, gs⟩ => ⟨r, rr, e, g.old s, GoodRs.old s gs⟩
theorem GoodRs.mono {K : PySem.W.Frag} {H0 H H1 H2 : Hp} {B : Addr → Prop} (s : Same H1 H2) : ∀ {vs : List V} {rs : List Res}, GoodRs K H0 H H1 B vs rs → GoodRs K H0 H H2 B vs rs
  | [], _, h => h
  | _ :: _, _, ⟨r, rr, e, g, gs⟩ => ⟨r, rr, e, g.mono s, GoodRs.mono s gs⟩
theorem GoodRs.len {K : PySem.W.Frag} {H0 H H1 : Hp} {B : Addr → Prop} : ∀ {vs : List V} {rs : List Res}, GoodRs K H0 H H1 B vs rs → vs.length = rs.length
  | [], rs, h => by have e : rs = [] := h; rw [e]; rfl
  | _ :: _, _, ⟨r, rr, e, g, gs⟩ => by rw [e]; simp [GoodRs.len gs]
def tAs (K : PySem.W.Frag) (P : XP) (fs : FEs) : TA := fun σ H Q => ∃ H0 B ρ, DenE K H0 H B σ ρ ∧ match evs fs ρ with
  | .ok rs => ∀ vs H', Same H H' → GoodRs K H0 H H' B vs rs → Q vs H'
  | .exc x => P.p x σ H
  | .stk => False
theorem PA.imp {t t' : TA} (p : PA X es t) (h : ∀ σ H Q, t' σ H Q → t σ H Q) : PA X es t' := fun pos pins s σ H Q I q => p pos pins s σ H Q I (h σ H Q q)
theorem ma_nil : PA X [] (tAs X.K P []) := PA.imp pa_nil fun σ H Q ⟨H0, B, ρ, d, h⟩ => h [] H (Same.refl H) rfl
theorem ma_cons (ha : PE X e (tE X.K P f)) (hr : PA X es (tAs X.K P fs)) (hs : starEach (e :: es) X.env = (false, eval e X.env) :: starEach es X.env := by rfl) : PA X (e :: es) (tAs X.K P (f :: fs)) := by
  refine PA.imp (pa_cons ha hr hs) ?_
  rintro σ H Q ⟨H0, B, ρ, d, h⟩
  unfold evs at h
  show tE X.K P f σ H fun x H1 => tAs X.K P fs σ H1 fun xs H2 => Q (x :: xs) H2
  cases e1 : f ρ with
  | stk => simp [e1] at h
  | exc x => simp [e1] at h; exact tE_exc d e1 h
  | ok r =>
    simp only [e1, R.ok_bind] at h
    refine tE_of d e1 fun v H1 s1 d1 g1 => ⟨H0, B, ρ, d1, ?_⟩
    cases e2 : evs fs ρ with
    | stk => simp [e2] at h
    | exc x => simp [e2] at h; exact P.mono h s1
    | ok rs =>
      simp only [e2, R.ok_bind] at h
      exact fun vs H2 s2 gs => h (v :: vs) H2 (s1.trans s2) ⟨r, rs, rfl, g1.mono s2, gs.old s1⟩
theorem tA1 {k : List Res → R Res} {σ : St} {H : Hp} {Q : VK} {q : List V → Hp → Prop} (h : tE X.K P (fun ρ => evs fs ρ >>= k) σ H Q)
    (hk : ∀ H0 B ρ vs H' rs, DenE X.K H0 H B σ ρ → DenE X.K H0 H' B σ ρ → GoodRs X.K H0 H H' B vs rs → Same H H' → (match k rs with
      | .ok r1 => ∀ v1 H1, Same H' H1 → GoodR X.K H0 H H1 B v1 r1 → Q v1 H1
      | .exc x => P.p x σ H'
      | .stk => False) → q vs H') : tAs X.K P fs σ H q := by
  obtain ⟨H0, B, ρ, d, h⟩ := h
  refine ⟨H0, B, ρ, d, ?_⟩
  cases e : evs fs ρ with
  | stk => simp [e] at h
  | exc x => simp [e] at h; exact h
  | ok rs =>
    simp only [e, R.ok_bind] at h
    intro vs H' s gs
    refine hk H0 B ρ vs H' rs d (d.mono s) gs s ?_
    cases e2 : k rs with
    | stk => rw [e2] at h; exact h
    | exc x => rw [e2] at h; exact P.mono h s
    | ok r1 => rw [e2] at h; exact fun v1 H1 s1 g1 => h v1 H1 (s.trans s1) g1
theorem GoodRs.gives {K : PySem.W.Frag} {H0 H H' : Hp} {B : Addr → Prop} {σ : St} {ρ : Env} (den : DenE K H0 H B σ ρ) : ∀ {vs : List V} {rs : List Res} {y : Bool × List D}, GoodRs K H0 H H' B vs rs → gives rs = .ok y → Reps K (cutF y.1 H0 H' B) y.2 vs
  | [], _, y, h, e => by rw [show _ = [] from h] at e; simp [Mir.gives] at e; subst e; rfl
  | v :: vs, _, y, ⟨r, rr, e1, g, gs⟩, e => by
    subst e1
    simp only [Mir.gives] at e
    cases e2 : r.give with
    | stk => simp [e2] at e
    | exc x => simp [e2] at e
    | ok r' =>
      cases e3 : Mir.gives rr with
      | stk => simp [e2, e3] at e
      | exc x => simp [e2, e3] at e
      | ok y' =>
        simp only [e2, e3, R.ok_bind] at e
        cases e
        obtain ⟨q1, q2⟩ := g.give den e2
        have q3 := GoodRs.gives den gs e3
        subst q1
        have w : ∀ {fr fr' : Bool} {d : D} {v : V}, Rep K (cutF fr H0 H' B) d v → Rep K (cutF (fr && fr') H0 H' B) d v := fun {fr fr' d v} h => by
          cases fr' with
          | true => simpa using h
          | false => simp; exact Rep.same cutF_weak h
        have w2 : ∀ {fr fr' : Bool} {d : List D} {v : List V}, Reps K (cutF fr' H0 H' B) d v → Reps K (cutF (fr && fr') H0 H' B) d v := fun {fr fr' d v} h => by
          cases fr with
          | true => simpa using h
          | false => simp; exact Reps.same cutF_weak h
        exact ⟨v, vs, rfl, w q2, w2 q3⟩
theorem gives_exc {x : Xc} : ∀ {rs : List Res}, gives rs = .exc x → False
  | [], h => by simp [gives] at h
  | r :: rs, h => by
    simp only [gives] at h
    cases e2 : r.give with
    | stk => simp [e2] at h
    | exc x => unfold Res.give at e2; split at e2 <;> cases e2
    | ok r' =>
      cases e3 : gives rs with
      | stk => simp [e2, e3] at h
      | exc x => exact gives_exc e3
      | ok y => simp [e2, e3] at h
theorem new_list {K : PySem.W.Frag} {H0 H H' : Hp} {B : Addr → Prop} {σ : St} {ρ : Env} {p : Addr} {vs : List V} {ds : List D} {fr : Bool} (den : DenE K H0 H' B σ ρ) (s : Same H H') (hp : H' p = none) (r : Reps K (cutF fr H0 H' B) ds vs) :
    GoodR K H0 H (upd H' p (.lst vs)) B (.ref p) ⟨.tmp, fr, .lst ds⟩ := by
  refine ⟨p, _, rfl, s.none hp, upd_same, .lst (Reps.same (cutF_mono (fun b o e _ => Same.upd_new hp b o e) fun b z => ?_) r)⟩
  rcases z with z | z
  · exact .inl z
  · exact .inr (by rw [z]; exact hp)
theorem new_tup {K : PySem.W.Frag} {H0 H' : Hp} {B : Addr → Prop} {σ : St} {ρ : Env} {p : Addr} {vs : List V} {ds : List D} {fr : Bool} (den : DenE K H0 H' B σ ρ) (hp : H' p = none) (r : Reps K (cutF fr H0 H' B) ds vs) :
    Rep K (cutF fr H0 (upd H' p (.tup vs)) B) (.tup ds) (.ref p) := by
  refine ⟨p, vs, rfl, cut_some.mpr ⟨fun z => ?_, upd_same⟩, Reps.same (cutF_mono (fun b o e _ => Same.upd_new hp b o e) fun b z => .inl z) r⟩
  rcases z with z | ⟨_, o, z, _⟩
  · obtain ⟨o, q, _⟩ := den.bnd p z; rw [hp] at q; cases q
  · rw [den.sam _ _ z] at hp; cases hp
theorem m_lst (h : PA X es (tAs X.K P fs)) : PE X (.List es pos) (tE X.K P (lstE fs)) := by
  refine PE.imp (pe_lst h) ?_
  intro σ H Q h
  refine tA1 h ?_
  intro H0 B ρ vs H' rs d0 d gs s h
  cases e : gives rs with
  | stk => simp [e] at h
  | exc x => exact (gives_exc e).elim
  | ok y =>
    simp only [e, R.ok_bind] at h
    have r := gs.gives d0 e
    by_cases hz : y.2.length ≤ sizeLine
    · rw [if_pos hz] at h
      exact ⟨by rw [← r.length]; exact hz, fun p hp => h _ _ (Same.upd_new hp) (new_list d s hp r)⟩
    · rw [if_neg hz] at h; exact h.elim
theorem m_tup {x1} (h : PA X es (tAs X.K P fs)) : PE X (.Tuple es x1 pos) (tE X.K P (tupE fs)) := by
  refine PE.imp (pe_tup h) ?_
  intro σ H Q h
  refine tA1 h ?_
  intro H0 B ρ vs H' rs d0 d gs s h
  cases e : gives rs with
  | stk => simp [e] at h
  | exc x => exact (gives_exc e).elim
  | ok y =>
    simp only [e, R.ok_bind] at h
    have r := gs.gives d0 e
    by_cases hz : y.2.length ≤ sizeLine
    · rw [if_pos hz] at h
      exact ⟨by rw [← r.length]; exact hz, fun p hp => h _ _ (Same.upd_new hp) (new_tup d hp r)⟩
    · rw [if_neg hz] at h; exact h.elim
theorem GoodR.seq {K : PySem.W.Frag} {H0 H H' : Hp} {B : Addr → Prop} {v : V} {r : Res} {ds : List D} (g : GoodR K H0 H H' B v r) (e : asS r.d = .ok ds) : ∃ a xs, v = .ref a ∧ (Rd H' a (.lst xs) ∨ H' a = some (.tup xs)) ∧ Reps K (cutF r.fr H0 H' B) ds xs := by
  rcases asS_ok e with e | e
  · obtain ⟨a, xs, h1, h2, h3⟩ := g.list e
    exact ⟨a, xs, h1, .inl h2, h3⟩
  · obtain ⟨a, xs, h1, h2, h3⟩ := g.tuple e
    exact ⟨a, xs, h1, .inr h2, h3⟩
theorem call1 {k : Res → R Res} {rule : List V → Hp → VK → Prop} {σ : St} {H : Hp} {Q : VK} (h : tE X.K P (fun ρ => f ρ >>= k) σ H Q)
    (hk : ∀ H0 B ρ v H' r, DenE X.K H0 H B σ ρ → DenE X.K H0 H' B σ ρ → GoodR X.K H0 H H' B v r → Same H H' → (match k r with
      | .ok r1 => ∀ v1 H1, Same H' H1 → GoodR X.K H0 H H1 B v1 r1 → Q v1 H1
      | .exc x => P.p x σ H'
      | .stk => False) → rule [v] H' Q) : tCB rule (tAs X.K P [f]) σ H Q := by
  show tAs X.K P [f] σ H fun vs H1 => rule vs H1 Q
  have e : (fun ρ => evs [f] ρ >>= fun rs => match rs with | [r] => k r | _ => .stk) = fun ρ => f ρ >>= k := by
    funext ρ
    unfold evs
    cases f ρ with
    | ok r => rfl
    | _ => rfl
  rw [← e] at h
  refine tA1 h ?_
  intro H0 B ρ vs H' rs d0 d gs s h
  match vs, rs, gs with
  | [], rs, gs => have e : rs = [] := gs; subst e; exact h.elim
  | [v], _, ⟨r, rr, e1, g1, g2⟩ =>
    subst e1
    rw [show rr = [] from g2] at h
    exact hk H0 B ρ v H' r d0 d g1 s h
  | v :: w :: _, _, ⟨r, rr, e1, g1, r2, rr2, e2, g2⟩ =>
    subst e1; subst e2
    exact h.elim
variable {x : Str} {p : Pos}
theorem m_len (hg : Gl X "len") (hm : X.mg "len" = none) (ha : PE X a (tE X.K P f)) (he : starEach [a] X.env = [(false, eval a X.env)] := by rfl) : PE X (.Call (.Name "len" p) [a] [] pos) (tE X.K P (lenE f)) := by
  refine PE.imp (pe_callB call_len_seq hg hm PySem.boot_len (ma_cons ha ma_nil he) (he := he)) ?_
  intro σ H Q h
  refine call1 h ?_
  intro H0 B ρ v H' r d0 d g s h
  cases e : asS r.d with
  | stk => simp [e] at h
  | exc x => exact (asS_exc e).elim
  | ok ds =>
    simp only [e, R.ok_bind] at h
    obtain ⟨a, xs, h1, h2, h3⟩ := g.seq e
    exact ⟨a, xs, by rw [h1], h2.imp .inl fun z => .inl (.inl z), h _ H' (Same.refl _) (by rw [h3.length]; exact GoodR.sc (show Rep _ _ (.int _) _ from rfl))⟩
theorem m_lof (hg : Gl X "list") (hm : X.mg "list" = none) (ha : PE X a (tE X.K P f)) (he : starEach [a] X.env = [(false, eval a X.env)] := by rfl) : PE X (.Call (.Name "list" p) [a] [] pos) (tE X.K P (lofE f)) := by
  refine PE.imp (pe_callTy call_list_of hg hm (by decide +kernel) (ma_cons ha ma_nil he) (he := he)) ?_
  intro σ H Q h
  refine call1 h ?_
  intro H0 B ρ v H' r d0 d g s h
  cases e : asS r.d with
  | stk => simp [e] at h
  | exc x => exact (asS_exc e).elim
  | ok ds =>
    simp only [e, R.ok_bind] at h
    obtain ⟨a, xs, h1, h2, h3⟩ := g.seq e
    exact ⟨a, xs, by rw [h1], h2.imp .inl fun z => .inl (.inl z), fun l hl => h _ _ (Same.upd_new hl) (new_list d s hl h3)⟩
theorem m_tof (hg : Gl X "tuple") (hm : X.mg "tuple" = none) (ha : PE X a (tE X.K P f)) (he : starEach [a] X.env = [(false, eval a X.env)] := by rfl) : PE X (.Call (.Name "tuple" p) [a] [] pos) (tE X.K P (tofE f)) := by
  refine PE.imp (pe_callTy call_tuple_of hg hm (by decide +kernel) (ma_cons ha ma_nil he) (he := he)) ?_
  intro σ H Q h
  refine call1 h ?_
  intro H0 B ρ v H' r d0 d g s h
  cases e : asS r.d with
  | stk => simp [e] at h
  | exc x => exact (asS_exc e).elim
  | ok ds =>
    simp only [e, R.ok_bind] at h
    rcases asS_ok e with e' | e'
    · obtain ⟨a, xs, h1, h2, h3⟩ := g.list e'
      exact ⟨a, xs, by rw [h1], .inl ⟨.inl h2, fun l hl => h _ _ (Same.upd_new hl) (new_tup d hl h3)⟩⟩
    · obtain ⟨a, xs, h1, h2, h3⟩ := g.tuple e'
      have := g.shr_of (by rw [e']; rfl)
      rw [e', h1] at this
      exact ⟨a, xs, by rw [h1], .inr ⟨.inl (.inl h2), h _ H' (Same.refl _) this⟩⟩
theorem atI_rep {K : PySem.W.Frag} {G : Hp} {ds : List D} {xs : List V} {j : Int} {d : D} (r : Reps K G ds xs) (e : atI ds j = some d) : ∃ v, atI xs j = some v ∧ Rep K G d v := by
  unfold atI at e ⊢
  rw [← r.length]
  cases q : ixN ds.length j with
  | none => rw [q] at e; cases e
  | some n => rw [q] at e; exact r.get e
theorem i_idx {σ : St} {H : Hp} {Q : VK} (h : tE X.K P (idxE f g) σ H Q) : tOp (fun x y H Q => rIxL X.K x y H Q ∨ rIxT X.K x y H Q) (tE X.K P f) (tE X.K P g) σ H Q := by
  refine t2 (q := fun x y H2 => rIxL X.K x y H2 Q ∨ rIxT X.K x y H2 Q) h ?_
  intro H0 B ρ v w H' r r' d g1 g2 s h
  cases e1 : asS r.d with
  | stk => simp [e1] at h
  | exc x => exact (asS_exc e1).elim
  | ok ds =>
    cases e2 : asI r'.d with
    | stk => simp [e1, e2] at h
    | exc x => exact (asI_exc e2).elim
    | ok j =>
      simp only [e1, e2, R.ok_bind] at h
      cases e3 : atI ds j with
      | none => rw [e3] at h; exact h.elim
      | some dd =>
        rw [e3] at h
        rcases asS_ok e1 with e | e
        · obtain ⟨a, xs, h1, h2, h3⟩ := g1.list e
          obtain ⟨z, z1, z2⟩ := atI_rep h3 e3
          exact .inl ⟨a, xs, j, z, h1, g2.int (asI_ok e2), .inl h2, z1, h z H' (Same.refl _) (Rep.fr d.sam z2)⟩
        · obtain ⟨a, xs, h1, h2, h3⟩ := g1.tuple e
          obtain ⟨z, z1, z2⟩ := atI_rep h3 e3
          exact .inr ⟨a, xs, j, z, h1, g2.int (asI_ok e2), .inl (.inl h2), z1, h z H' (Same.refl _) (Rep.fr d.sam z2)⟩
theorem ix_seq : IxR X (fun x y H Q => rIxL X.K x y H Q ∨ rIxT X.K x y H Q) := by
  intro value slice pins s σ H x y v u Q I rx ry h hs
  rcases h with h | h
  · exact ix_list value slice pins s σ H x y v u Q I rx ry h hs
  · exact ix_tup value slice pins s σ H x y v u Q I rx ry h hs
theorem m_idx (ha : PE X a (tE X.K P f)) (hb : PE X b (tE X.K P g)) (hs : PlainIx b := by exact fun _ _ => rfl) : PE X (.Subscript a b pos) (tE X.K P (idxE f g)) := PE.imp (pe_ix ix_seq ha hb hs) fun σ H Q h => i_idx h
theorem Inv.rdL {pins : List (Addr × Obj)} {σ : St} {H : Hp} {s : Shared} {l : Addr} {xs : List V} (I : Inv X pins σ H s) (h : Rd H l (.lst xs)) : xs.length ≤ sizeLine ∧ ∃ (its : List Value) (n : Nat), Vals xs its ∧ s.heap.get? l = some { cls := .type "list", data := .seq its.toArray n } := h.ok I.hok
def rCatS : R2 := fun x y H Q => ∃ l b xs zs, x = .ref l ∧ y = .ref b ∧ Rd H l (.lst xs) ∧ Rd H b (.lst zs) ∧ xs.length + zs.length ≤ sizeLine ∧ ∀ p, H p = none → Q (.ref p) (upd H p (.lst (xs ++ zs)))
theorem op_catS : OpR X (binaryOp .Add) rCatS := by
  intro pins s σ H x y v u Q I rx ry h
  obtain ⟨l, b, xs, zs, rfl, rfl, hH, hB, hz, q⟩ := h
  cases rx
  cases ry
  obtain ⟨z, its, n, r, e⟩ := Inv.rdL I hH
  obtain ⟨z2, its2, n2, r2, e2⟩ := Inv.rdL I hB
  have hl := r.length
  have hl2 := r2.length
  refine PySem.P.add_list e e2 ?_ (by rw [List.size_toArray, List.size_toArray]; omega)
  have ea : its.toArray ++ its2.toArray = (its ++ its2).toArray := by simp
  rw [ea]
  exact ⟨.ref _, _, I.lnew (t' := s.toks) (r.append r2) (by rw [List.length_append]; omega), rfl, q _ I.fresh⟩
theorem Reps.andL {K : PySem.W.Frag} {H0 H : Hp} {B : Addr → Prop} {fr fr' : Bool} {ds : List D} {vs : List V} (h : Reps K (cutF fr H0 H B) ds vs) : Reps K (cutF (fr && fr') H0 H B) ds vs := by
  cases fr' with
  | true => simpa using h
  | false => simp; exact Reps.same cutF_weak h
theorem Reps.andR {K : PySem.W.Frag} {H0 H : Hp} {B : Addr → Prop} {fr fr' : Bool} {ds : List D} {vs : List V} (h : Reps K (cutF fr' H0 H B) ds vs) : Reps K (cutF (fr && fr') H0 H B) ds vs := by
  cases fr with
  | true => simpa using h
  | false => simp; exact Reps.same cutF_weak h
theorem m_cat (ha : PE X a (tE X.K P f)) (hb : PE X b (tE X.K P g)) : PE X (.BinOp a .Add b pos) (tE X.K P (catE f g)) := by
  refine PE.imp (pe_op op_catS ha hb) ?_
  intro σ H Q h
  refine t2 (q := fun x y H2 => rCatS x y H2 Q) h ?_
  intro H0 B ρ v w H' r r' d g1 g2 s h
  cases e1 : asL r.d with
  | stk => simp [e1] at h
  | exc x => exact (asL_exc e1).elim
  | ok xs =>
    cases e2 : asL r'.d with
    | stk => simp [e1, e2] at h
    | exc x => exact (asL_exc e2).elim
    | ok ys =>
      simp only [e1, e2, R.ok_bind] at h
      obtain ⟨a1, xs1, h1, h2, h3⟩ := g1.list (asL_ok e1)
      obtain ⟨a2, xs2, k1, k2, k3⟩ := g2.list (asL_ok e2)
      by_cases hz : xs.length + ys.length ≤ sizeLine
      · rw [if_pos hz] at h
        exact ⟨a1, a2, xs1, xs2, h1, k1, h2, k2, by rw [← h3.length, ← k3.length]; exact hz, fun p hp => h _ _ (Same.upd_new hp) (new_list d s hp (h3.andL.append k3.andR))⟩
      · rw [if_neg hz] at h; exact h.elim
def tO (K : PySem.W.Frag) (P : XP) (f : FO) : TO := fun σ H Q => ∃ H0 B ρ, DenE K H0 H B σ ρ ∧ match f ρ with
  | .ok o => ∀ H', Same H H' → Q o H'
  | .exc x => P.p x σ H
  | .stk => False
theorem PO.imp {e : Option Expr} {t t' : TO} (p : PO X e t) (h : ∀ σ H Q, t' σ H Q → t σ H Q) : PO X e t' := fun pins s σ H Q I q => p pins s σ H Q I (h σ H Q q)
theorem mo_no : PO X none (tO X.K P noO) := PO.imp po_none fun σ H Q ⟨H0, B, ρ, d, h⟩ => h H (Same.refl H)
theorem mo_so (ha : PE X a (tE X.K P f)) : PO X (some a) (tO X.K P (soO f)) := by
  refine PO.imp (po_some ha) ?_
  rintro σ H Q ⟨H0, B, ρ, d, h⟩
  unfold soO at h
  show tE X.K P f σ H fun x H1 => ∃ i, x = .int i ∧ Q (some i) H1
  cases e : f ρ with
  | stk => simp [e] at h
  | exc x => simp [e] at h; exact tE_exc d e h
  | ok r =>
    cases e1 : asI r.d with
    | stk => simp [e, e1] at h
    | exc x => exact (asI_exc e1).elim
    | ok i =>
      simp only [e, e1, R.ok_bind] at h
      exact tE_of d e fun v H' s d' g' => ⟨i, g'.int (asI_ok e1), h H' s⟩
theorem m_slc {lo hi : Option Expr} {fl fh : FO} {p2 : Pos} (ha : PE X a (tE X.K P f)) (hl : PO X lo (tO X.K P fl)) (hh : PO X hi (tO X.K P fh)) : PE X (.Subscript a (.Slice lo hi none p2) pos) (tE X.K P (slcE f fl fh)) := by
  refine PE.imp (pe_slice sl_list ha hl hh) ?_
  rintro σ H Q ⟨H0, B, ρ, d, h⟩
  unfold slcE at h
  show tE X.K P f σ H fun x H1 => tO X.K P fl σ H1 fun l H2 => tO X.K P fh σ H2 fun u H3 => rSlL X.K x l u H3 Q
  cases e : f ρ with
  | stk => simp [e] at h
  | exc x => simp [e] at h; exact tE_exc d e h
  | ok r =>
    simp only [e, R.ok_bind] at h
    refine tE_of d e fun v H1 s1 d1 g1 => ⟨H0, B, ρ, d1, ?_⟩
    cases e1 : fl ρ with
    | stk => simp [e1] at h
    | exc x => simp [e1] at h; exact P.mono h s1
    | ok l =>
      simp only [e1, R.ok_bind] at h
      intro H2 s2
      refine ⟨H0, B, ρ, d1.mono s2, ?_⟩
      cases e2 : fh ρ with
      | stk => simp [e2] at h
      | exc x => simp [e2] at h; exact P.mono h (s1.trans s2)
      | ok u =>
        simp only [e2, R.ok_bind] at h
        intro H3 s3
        cases e3 : asL r.d with
        | stk => simp [e3] at h
        | exc x => exact (asL_exc e3).elim
        | ok ds =>
          simp only [e3, R.ok_bind] at h
          obtain ⟨a1, xs, h1, h2, h3⟩ := (g1.mono (s2.trans s3)).list (asL_ok e3)
          have s := (s1.trans s2).trans s3
          refine ⟨a1, xs, h1, .inl h2, fun p hp => h _ _ (s.trans (Same.upd_new hp)) ?_⟩
          have q : Reps X.K (cutF r.fr H0 H3 B) (cutD ds l u) (cutV xs l u) := by
            unfold cutD cutV
            rw [← h3.length]
            exact (h3.drop _).take _
          exact new_list (d.mono s) s hp q
theorem m_and {rest : List Expr} (ha : PE X a (tE X.K P f)) (hb : PE X (.BoolOp .And (b :: rest) pos) (tE X.K P g)) : PE X (.BoolOp .And (a :: b :: rest) pos) (tE X.K P (andE f g)) := by
  refine PE.imp (pe_and ha hb) ?_
  rintro σ H Q ⟨H0, B, ρ, d, h⟩
  unfold andE at h
  show tE X.K P f σ H fun x H1 => ∃ c, x = .bl c ∧ if c = true then tE X.K P g σ H1 Q else Q (.bl false) H1
  cases e : f ρ with
  | stk => simp [e] at h
  | exc x => simp [e] at h; exact tE_exc d e h
  | ok r =>
    cases e1 : asB r.d with
    | stk => simp [e, e1] at h
    | exc x => exact (asB_exc e1).elim
    | ok t =>
      simp only [e, e1, R.ok_bind] at h
      refine tE_of d e fun v H1 s1 d1 g1 => ⟨t, g1.bl (asB_ok e1), ?_⟩
      cases t with
      | false => exact iteF (h _ H1 s1 (GoodR.sc (show Rep _ _ (.bl false) _ from rfl)))
      | true =>
        refine iteT ⟨H0, B, ρ, d1, ?_⟩
        rw [if_pos rfl] at h
        cases e2 : g ρ with
        | stk => rw [e2] at h; exact h
        | exc x => rw [e2] at h; exact P.mono h s1
        | ok r2 => rw [e2] at h; exact fun v2 H2 s2 g2 => h v2 H2 (s1.trans s2) (g2.old s1)
theorem m_one {op} (h : PE X a (tE X.K P f)) : PE X (.BoolOp op [a] pos) (tE X.K P f) := pe_one h
theorem m_not (ha : PE X a (tE X.K P f)) : PE X (.UnaryOp .Not a pos) (tE X.K P (notE f)) := by
  refine PE.imp (pe_not ha) ?_
  intro σ H Q h
  refine t1 (q := fun x H1 => ∃ c, x = .bl c ∧ Q (.bl (!c)) H1) h ?_
  intro H0 B ρ v H' r d g1 s h
  cases e1 : asB r.d with
  | stk => simp [e1] at h
  | exc x => exact (asB_exc e1).elim
  | ok t =>
    simp only [e1, R.ok_bind] at h
    exact ⟨t, g1.bl (asB_ok e1), h _ H' (Same.refl _) (GoodR.sc (show Rep _ _ (.bl (!t)) _ from rfl))⟩
end Mir
set_option Elab.async false
set_option linter.all false
set_option maxRecDepth 100000
set_option maxHeartbeats 1000000
namespace Mir
open PySem L2
variable {X : Cx} {P : XP} {a b c e : Expr} {es : List Expr} {f g : FE} {fs : FEs} {pos : Pos}
def Walk (K : PySem.W.Frag) (H0 H' : Hp) (B : Addr → Prop) (J : It) (w : Its) : Prop := ∃ A : Addr → Prop, (w.st = true → ∀ a, A a → ¬ B a) ∧
  ∀ (H2 : Hp) (B2 : Addr → Prop), (∀ a o, A a → H' a = some o → H2 a = some o) → (∀ b o, H' b = some o → ¬ B b → H2 b = some o) → (∀ b, B2 b → B b ∨ H' b = none) → (∀ b, B2 b → ∃ o, H2 b = some o) → Same H0 H2 → ∀ i,
    (w.ds.length ≤ i → J.stop i H2) ∧ ∀ d, w.ds[i]? = some d → J.go i H2 ∧ ∀ x H3, J.yld i H2 x H3 → Same H2 H3 ∧ Rep K (cutF w.fr H0 H3 B2) d x
def tI (K : PySem.W.Frag) (P : XP) (f : FI) : TI := fun σ H Rq => ∃ H0 B ρ, DenE K H0 H B σ ρ ∧ match f ρ with
  | .ok w => ∀ J H', Same H H' → Walk K H0 H' B J w → Rq J H'
  | .exc x => P.p x σ H
  | .stk => False
theorem PI.imp {tg : Expr} {t t' : TI} (p : PI X tg e t) (h : ∀ σ H Rq, t' σ H Rq → t σ H Rq) : PI X tg e t' := fun pins s σ H Rq I q => p pins s σ H Rq I (h σ H Rq q)
theorem GoodR.notB {K : PySem.W.Frag} {H0 H H' : Hp} {B : Addr → Prop} {v : V} {r : Res} {σ : St} {ρ : Env} {ds : List D} {a : Addr} (den : DenE K H0 H B σ ρ) (g : GoodR K H0 H H' B v r) (e : r.d = .lst ds) (hv : v = .ref a) (hk : (r.k != .own) = true) : ¬ B a := by
  unfold GoodR at g
  cases k : r.k with
  | shr =>
    rw [k, e, hv] at g
    obtain ⟨a', xs, h1, h2, h3⟩ := g
    cases h1
    rcases h2 with h | ⟨o, h⟩
    · exact fun z => (cut_some.mp h).1 (.inl z)
    · exact fun z => (cut_some.mp h).1 (.inl z)
  | own => rw [k] at hk; cases hk
  | old => rw [k] at g; exact g.elim
  | tmp =>
    rw [k, hv] at g
    obtain ⟨a', o', h1, h2, _⟩ := g
    cases h1
    intro z
    obtain ⟨o, q, _⟩ := den.bnd a z
    rw [h2] at q; cases q
theorem rd_keep {H H2 : Hp} {a : Addr} {u : HO} (h : Rd H a u) (k : ∀ o, H a = some o → H2 a = some o) : Rd H2 a u := by
  rcases h with h | ⟨o, h⟩
  · exact .inl (k _ h)
  · exact .inr ⟨o, k _ h⟩
theorem walk_list {K : PySem.W.Frag} {H0 H' : Hp} {B : Addr → Prop} {a : Addr} {xs : List V} {ds : List D} {st fr : Bool} (hs : st = true → ¬ B a) (h2 : Rd H' a (.lst xs)) (h3 : Reps K (cutF fr H0 H' B) ds xs) : Walk K H0 H' B (Itl K a) ⟨st, fr, ds⟩ := by
  refine ⟨fun b => b = a, fun h b z => by rw [z]; exact hs h, fun H2 B2 k1 k2 k3 k4 k5 i => ?_⟩
  have q : SqL K H2 a xs := .inl (rd_keep h2 fun o => k1 a o rfl)
  refine ⟨fun hi => ⟨xs, q, by rw [← h3.length]; exact hi⟩, fun d hd => ?_⟩
  obtain ⟨v, hv, rv⟩ := h3.get hd
  refine ⟨⟨xs, v, q, hv⟩, fun x H3 y => ?_⟩
  obtain ⟨e, y⟩ := y
  subst e
  have := y xs q
  rw [hv] at this
  cases this
  exact ⟨Same.refl _, Rep.same (cutF_mono k2 k3) rv⟩
theorem walk_tup {K : PySem.W.Frag} {H0 H' : Hp} {B : Addr → Prop} {a : Addr} {xs : List V} {ds : List D} {fr : Bool} (hs : ¬ B a) (h2 : H' a = some (.tup xs)) (h3 : Reps K (cutF fr H0 H' B) ds xs) : Walk K H0 H' B (Itt K a) ⟨true, fr, ds⟩ := by
  refine ⟨fun b => b = a, fun h b z => by rw [z]; exact hs, fun H2 B2 k1 k2 k3 k4 k5 i => ?_⟩
  have q : SqT K H2 a xs := .inl (.inl (k1 a _ rfl h2))
  refine ⟨fun hi => ⟨xs, q, by rw [← h3.length]; exact hi⟩, fun d hd => ?_⟩
  obtain ⟨v, hv, rv⟩ := h3.get hd
  refine ⟨⟨xs, v, q, hv⟩, fun x H3 y => ?_⟩
  obtain ⟨e, y⟩ := y
  subst e
  have := y xs q
  rw [hv] at this
  cases this
  exact ⟨Same.refl _, Rep.same (cutF_mono k2 k3) rv⟩
theorem walk_rng {K : PySem.W.Frag} {H0 H' : Hp} {B : Addr → Prop} {lo : Int} {n : Nat} : Walk K H0 H' B (Itr lo n) ⟨true, true, rngD lo n⟩ := by
  refine ⟨fun _ => False, fun _ _ z => z.elim, fun H2 B2 _ _ _ _ _ i => ⟨fun hi => ?_, fun d hd => ?_⟩⟩
  · show n ≤ i
    simpa [rngD] using hi
  · unfold rngD at hd
    rw [List.getElem?_map] at hd
    cases q : (List.range n)[i]? with
    | none => rw [q] at hd; cases hd
    | some k =>
      rw [q] at hd
      cases hd
      obtain ⟨q1, q2⟩ := List.getElem?_eq_some_iff.mp q
      have hi : i < n := by simpa using q1
      have : k = i := by rw [← q2]; simp
      subst this
      refine ⟨hi, fun x H3 y => ?_⟩
      obtain ⟨e1, e2⟩ := y
      subst e1
      exact ⟨Same.refl _, e2⟩
theorem mi_lst {tg : Expr} (ha : PE X a (tE X.K P f)) : PI X tg a (tI X.K P (lstI f)) := by
  refine PI.imp (pi_list ha) ?_
  rintro σ H Rq ⟨H0, B, ρ, d, h⟩
  unfold lstI at h
  show tE X.K P f σ H fun x H1 => ∃ a, x = .ref a ∧ (∃ xs, SqL X.K H1 a xs) ∧ Rq (Itl X.K a) H1
  cases e : f ρ with
  | stk => simp [e] at h
  | exc x => simp [e] at h; exact tE_exc d e h
  | ok r =>
    cases e1 : asL r.d with
    | stk => simp [e, e1] at h
    | exc x => exact (asL_exc e1).elim
    | ok ds =>
      simp only [e, e1, R.ok_bind] at h
      refine tE_of d e fun v H' s d' g' => ?_
      obtain ⟨a, xs, h1, h2, h3⟩ := g'.list (asL_ok e1)
      exact ⟨a, h1, ⟨xs, .inl h2⟩, h _ H' s (walk_list (fun hk => g'.notB d (asL_ok e1) h1 hk) h2 h3)⟩
theorem mi_tup {tg : Expr} (ha : PE X a (tE X.K P f)) : PI X tg a (tI X.K P (tupI f)) := by
  refine PI.imp (pi_tup ha) ?_
  rintro σ H Rq ⟨H0, B, ρ, d, h⟩
  unfold tupI at h
  show tE X.K P f σ H fun x H1 => ∃ a, x = .ref a ∧ (∃ xs, SqT X.K H1 a xs) ∧ Rq (Itt X.K a) H1
  cases e : f ρ with
  | stk => simp [e] at h
  | exc x => simp [e] at h; exact tE_exc d e h
  | ok r =>
    simp only [e, R.ok_bind] at h
    cases e1 : r.d with
    | tup ds =>
      simp only [e1] at h
      refine tE_of d e fun v H' s d' g' => ?_
      obtain ⟨a, xs, h1, h2, h3⟩ := g'.tuple e1
      have nB : ¬ B a := by
        have := g'.shr_of (by rw [e1]; rfl)
        rw [e1, h1] at this
        obtain ⟨a', xs', q1, q2, _⟩ := this
        cases q1
        exact fun z => (cut_some.mp q2).1 (.inl z)
      exact ⟨a, h1, ⟨xs, .inl (.inl h2)⟩, h _ H' s (walk_tup nB h2 h3)⟩
    | _ => simp [e1] at h
variable {p : Pos}
theorem tA_I {k : List Res → R Its} {σ : St} {H : Hp} {Rq : It → Hp → Prop} {q : List V → Hp → Prop} (h : tI X.K P (fun ρ => evs fs ρ >>= k) σ H Rq)
    (hk : ∀ H0 B ρ vs H' rs, DenE X.K H0 H B σ ρ → DenE X.K H0 H' B σ ρ → GoodRs X.K H0 H H' B vs rs → Same H H' → (match k rs with
      | .ok w => ∀ J H1, Same H' H1 → Walk X.K H0 H1 B J w → Rq J H1
      | .exc x => P.p x σ H'
      | .stk => False) → q vs H') : tAs X.K P fs σ H q := by
  obtain ⟨H0, B, ρ, d, h⟩ := h
  refine ⟨H0, B, ρ, d, ?_⟩
  cases e : evs fs ρ with
  | stk => simp [e] at h
  | exc x => simp [e] at h; exact h
  | ok rs =>
    simp only [e, R.ok_bind] at h
    intro vs H' s gs
    refine hk H0 B ρ vs H' rs d (d.mono s) gs s ?_
    cases e2 : k rs with
    | stk => rw [e2] at h; exact h
    | exc x => rw [e2] at h; exact P.mono h s
    | ok r1 => rw [e2] at h; exact fun v1 H1 s1 g1 => h v1 H1 (s.trans s1) g1
theorem mi_rng1 {tg : Expr} (hg : Gl X "range") (hm : X.mg "range" = none) (ha : PE X a (tE X.K P f)) (hs : starEach [a] X.env = [(false, eval a X.env)] := by rfl) : PI X tg (.Call (.Name "range" p) [a] [] pos) (tI X.K P (rng1I f)) := by
  refine PI.imp (pi_range1 hg hm (ma_cons ha ma_nil hs) hs) ?_
  intro σ H Rq h
  show tAs X.K P [f] σ H fun vs H1 => ∃ j : Int, vs = [.int j] ∧ -(2 ^ 62) ≤ j ∧ j < 2 ^ 62 ∧ Rq (Itr 0 j.toNat) H1
  have e : rng1I f = fun ρ => evs [f] ρ >>= fun rs => match rs with | [x] => (asI x.d >>= fun j => if -(2 ^ 62) ≤ j ∧ j < 2 ^ 62 then .ok ⟨true, true, rngD 0 j.toNat⟩ else .stk) | _ => .stk := by
    funext ρ
    unfold rng1I evs
    cases f ρ with
    | ok r => rfl
    | _ => rfl
  rw [e] at h
  refine tA_I h ?_
  intro H0 B ρ vs H' rs d0 d gs s h
  match vs, rs, gs with
  | [], rs, gs => have e : rs = [] := gs; subst e; exact h.elim
  | [v], _, ⟨r, rr, e1, g1, g2⟩ =>
    subst e1
    rw [show rr = [] from g2] at h
    cases e2 : asI r.d with
    | stk => simp [e2] at h
    | exc x => exact (asI_exc e2).elim
    | ok j =>
      simp only [e2, R.ok_bind] at h
      by_cases hj : -(2 ^ 62) ≤ j ∧ j < 2 ^ 62
      · rw [if_pos hj] at h
        exact ⟨j, by rw [g1.int (asI_ok e2)], hj.1, hj.2, h _ H' (Same.refl _) walk_rng⟩
      · rw [if_neg hj] at h; exact h.elim
  | v :: w :: _, _, ⟨r, rr, e1, g1, r2, rr2, e2, g2⟩ =>
    subst e1; subst e2
    exact h.elim
theorem two {k : Res → Res → R Its} {F : FI} (hF : F = fun ρ => f ρ >>= fun x => g ρ >>= fun y => k x y) {σ : St} {H : Hp} {Rq : It → Hp → Prop} {q : List V → Hp → Prop} (h : tI X.K P F σ H Rq)
    (hk : ∀ H0 B ρ v w H' r r', DenE X.K H0 H B σ ρ → DenE X.K H0 H' B σ ρ → GoodR X.K H0 H H' B v r → GoodR X.K H0 H H' B w r' → Same H H' → (match k r r' with
      | .ok w => ∀ J H1, Same H' H1 → Walk X.K H0 H1 B J w → Rq J H1
      | .exc x => P.p x σ H'
      | .stk => False) → q [v, w] H') : tAs X.K P [f, g] σ H q := by
  have e : F = fun ρ => evs [f, g] ρ >>= fun rs => match rs with | [x, y] => k x y | _ => .stk := by
    rw [hF]
    funext ρ
    unfold evs evs
    cases f ρ with
    | ok r =>
      show (g ρ >>= fun y => k r y) = _
      cases g ρ with
      | ok r' => rfl
      | _ => rfl
    | _ => rfl
  rw [e] at h
  refine tA_I h ?_
  intro H0 B ρ vs H' rs d0 d gs s h
  match vs, rs, gs with
  | [], rs, gs => have e : rs = [] := gs; subst e; exact h.elim
  | [v], _, ⟨r, rr, e1, g1, g2⟩ =>
    subst e1
    rw [show rr = [] from g2] at h
    exact h.elim
  | [v, w], _, ⟨r, rr, e1, g1, r2, rr2, e2, g2, g3⟩ =>
    subst e1; subst e2
    rw [show rr2 = [] from g3] at h
    exact hk H0 B ρ v w H' r r2 d0 d g1 g2 s h
  | _ :: _ :: _ :: _, _, ⟨r, rr, e1, g1, r2, rr2, e2, g2, r3, rr3, e3, _⟩ =>
    subst e1; subst e2; subst e3
    exact h.elim
theorem walk_zip {K : PySem.W.Frag} {H0 H' : Hp} {B : Addr → Prop} {a b : Addr} {xs ys : List V} {ds es : List D} {st fr fr' : Bool} (hs : st = true → ¬ B a ∧ ¬ B b) (h2 : Rd H' a (.lst xs)) (k2 : Rd H' b (.lst ys))
    (h3 : Reps K (cutF fr H0 H' B) ds xs) (k3 : Reps K (cutF fr' H0 H' B) es ys) : Walk K H0 H' B (Itz K a b) ⟨st, fr && fr', zipD ds es⟩ := by
  refine ⟨fun c => c = a ∨ c = b, fun h c z => by rcases z with z | z <;> rw [z]; exact (hs h).1; exact (hs h).2, fun H2 B2 j1 j2 j3 j4 j5 i => ?_⟩
  have q1 : SqL K H2 a xs := .inl (rd_keep h2 fun o => j1 a o (.inl rfl))
  have q2 : SqL K H2 b ys := .inl (rd_keep k2 fun o => j1 b o (.inr rfl))
  have l1 := h3.length
  have l2 := k3.length
  refine ⟨fun hi => ⟨xs, ys, q1, q2, ?_⟩, fun d hd => ?_⟩
  · simp [zipD] at hi; omega
  · unfold zipD at hd
    rw [List.getElem?_zipWith] at hd
    cases e1 : ds[i]? with
    | none => rw [e1] at hd; cases hd
    | some d1 =>
      cases e2 : es[i]? with
      | none => rw [e1, e2] at hd; cases hd
      | some d2 =>
        rw [e1, e2] at hd
        cases hd
        obtain ⟨v, hv, rv⟩ := h3.get e1
        obtain ⟨w, hw, rw'⟩ := k3.get e2
        refine ⟨⟨xs, ys, v, w, q1, q2, hv, hw⟩, fun x H3 y => ?_⟩
        obtain ⟨t, x1, y1, e3, e4, e5, y2, y3⟩ := y
        have z1 := y2 xs q1
        have z2 := y3 ys q2
        rw [hv] at z1; cases z1
        rw [hw] at z2; cases z2
        subst e3; subst e5
        refine ⟨Same.upd_new e4, t, [v, w], rfl, cut_some.mpr ⟨fun z => ?_, upd_same⟩, v, [w], rfl, ?_, w, [], rfl, ?_, rfl⟩
        · rcases z with z | ⟨_, o, z, _⟩
          · obtain ⟨o, q⟩ := j4 t z; rw [e4] at q; cases q
          · rw [j5 _ _ z] at e4; cases e4
        · have m : Same (cutF fr H0 H' B) (cutF fr H0 (upd H2 t (.tup [v, w])) B2) := cutF_mono (fun b o q n => Same.upd_new e4 b o (j2 b o q n)) j3
          have := (Reps.one (Rep.same m rv)).andL (fr' := fr')
          obtain ⟨_, _, z1, z2, _⟩ := this
          cases z1; exact z2
        · have m : Same (cutF fr' H0 H' B) (cutF fr' H0 (upd H2 t (.tup [v, w])) B2) := cutF_mono (fun b o q n => Same.upd_new e4 b o (j2 b o q n)) j3
          have := (Reps.one (Rep.same m rw')).andR (fr := fr)
          obtain ⟨_, _, z1, z2, _⟩ := this
          cases z1; exact z2
theorem mi_zip {ts : List Expr} {k : Nat} {tp : Pos} (hc : X.calm = true) (hg : Gl X "zip") (hm : X.mg "zip" = none) (ha : PE X a (tE X.K P f)) (hb : PE X b (tE X.K P g)) (hs : starEach [a, b] X.env = [(false, eval a X.env), (false, eval b X.env)] := by rfl) (hs2 : starEach [b] X.env = [(false, eval b X.env)] := by rfl) :
    PI X (.Tuple ts k tp) (.Call (.Name "zip" p) [a, b] [] pos) (tI X.K P (zipI f g)) := by
  refine PI.imp (pi_zip hc hg hm (ma_cons ha (ma_cons hb ma_nil hs2) (by rw [hs, hs2])) hs hs2) ?_
  intro σ H Rq h
  refine two rfl h ?_
  intro H0 B ρ v w H' r r' d0 d g1 g2 s h
  cases e1 : asL r.d with
  | stk => simp [e1] at h
  | exc x => exact (asL_exc e1).elim
  | ok xs =>
    cases e2 : asL r'.d with
    | stk => simp [e1, e2] at h
    | exc x => exact (asL_exc e2).elim
    | ok ys =>
      simp only [e1, e2, R.ok_bind] at h
      obtain ⟨a1, xs1, h1, h2, h3⟩ := g1.list (asL_ok e1)
      obtain ⟨a2, xs2, k1, k2, k3⟩ := g2.list (asL_ok e2)
      refine ⟨a1, a2, by rw [h1, k1], ⟨xs1, .inl h2⟩, ⟨xs2, .inl k2⟩, h _ H' (Same.refl _) (walk_zip (fun hk => ?_) h2 k2 h3 k3)⟩
      rw [Bool.and_eq_true] at hk
      exact ⟨g1.notB d0 (asL_ok e1) h1 hk.1, g2.notB d0 (asL_ok e2) k1 hk.2⟩
end Mir
set_option Elab.async false
set_option linter.all false
set_option maxRecDepth 100000
set_option maxHeartbeats 1000000
namespace Mir
open PySem L2
variable {X : Cx} {P : XP} {a b c e : Expr} {es : List Expr} {f g : FE} {fs : FEs} {pos : Pos}
mutual
def gOf (K : PySem.W.Frag) : Tg → TG
  | .nm i => gName i
  | .tp ts => gTup K ts.length (gsOf K ts)
def gsOf (K : PySem.W.Frag) : List Tg → TGs
  | [] => gNil
  | t :: ts => gCons (gOf K t) (gsOf K ts)
end
theorem binds_len {fr : Bool} : ∀ (ts : List Tg) (ds : List D) (ρ ρ' : Env), Tg.binds fr ts ds ρ = .ok ρ' → ds.length = ts.length
  | [], ds, ρ, ρ', e => by
    cases ds with
    | nil => rfl
    | cons d ds => simp [Tg.binds] at e
  | t :: ts, ds, ρ, ρ', e => by
    cases ds with
    | nil => simp [Tg.binds] at e
    | cons d ds =>
      simp only [Tg.binds] at e
      cases e1 : Tg.bind fr t d ρ with
      | stk => simp [e1] at e
      | exc x => simp [e1] at e
      | ok ρ1 =>
        simp only [e1, R.ok_bind] at e
        simp [binds_len ts ds ρ1 ρ' e]
section
variable {K : PySem.W.Frag} {G H : Hp} {fr : Bool} {I : St → Env → Prop}
mutual
theorem gOf_gen (sub : Same G H) (hI : ∀ σ ρ i d v, I σ ρ → Rep K G d v → I (σ.set i (some v)) (ρ.set i (some ⟨.shr, fr, d⟩))) : ∀ (t : Tg) (d : D) (v : V) (σ : St) (ρ ρ' : Env) (Q : St → Hp → Prop), Tg.bind fr t d ρ = .ok ρ' → Rep K G d v → I σ ρ → (∀ σ', I σ' ρ' → Q σ' H) → gOf K t v σ H Q
  | .nm i, d, v, σ, ρ, ρ', Q, e, r, i0, q => by
    unfold gOf
    simp only [Tg.bind] at e
    cases e
    exact q _ (hI σ ρ i d v i0 r)
  | .tp ts, d, v, σ, ρ, ρ', Q, e, r, i0, q => by
    unfold gOf
    cases d with
    | tup ds =>
      simp only [Tg.bind] at e
      obtain ⟨a, xs, h1, h2, h3⟩ := r
      have := gsOf_gen sub hI ts ds xs σ ρ ρ' Q e h3 i0 q
      exact ⟨a, xs, h1, .inl (.inl (sub _ _ h2)), by rw [← h3.length]; exact this.2, this.1⟩
    | _ => simp [Tg.bind] at e
theorem gsOf_gen (sub : Same G H) (hI : ∀ σ ρ i d v, I σ ρ → Rep K G d v → I (σ.set i (some v)) (ρ.set i (some ⟨.shr, fr, d⟩))) : ∀ (ts : List Tg) (ds : List D) (vs : List V) (σ : St) (ρ ρ' : Env) (Q : St → Hp → Prop), Tg.binds fr ts ds ρ = .ok ρ' → Reps K G ds vs → I σ ρ → (∀ σ', I σ' ρ' → Q σ' H) → gsOf K ts vs σ H Q ∧ ds.length = ts.length
  | [], ds, vs, σ, ρ, ρ', Q, e, r, i0, q => by
    cases ds with
    | nil =>
      simp only [Tg.binds] at e
      cases e
      exact ⟨by unfold gsOf; exact ⟨r, q σ i0⟩, rfl⟩
    | cons d ds => simp [Tg.binds] at e
  | t :: ts, ds, vs, σ, ρ, ρ', Q, e, r, i0, q => by
    cases ds with
    | nil => simp [Tg.binds] at e
    | cons d ds =>
      simp only [Tg.binds] at e
      obtain ⟨x, xr, h1, h2, h3⟩ := r
      cases e1 : Tg.bind fr t d ρ with
      | stk => simp [e1] at e
      | exc x => simp [e1] at e
      | ok ρ1 =>
        simp only [e1, R.ok_bind] at e
        have len := binds_len ts ds ρ1 ρ' e
        refine ⟨?_, by simp [len]⟩
        unfold gsOf
        exact ⟨x, xr, h1, gOf_gen sub hI t d x σ ρ ρ1 _ e1 h2 i0 fun σ' i1 => (gsOf_gen sub hI ts ds xr σ' ρ1 ρ' Q e h3 i1 q).1⟩
end
end
theorem Good.to {K : PySem.W.Frag} {H0 H H' : Hp} {B B' : Addr → Prop} {v : V} {r : Res} (sm : Same H0 H) (g : Good K H0 H B v r) (k : ∀ b o, H b = some o → ¬ B b → H' b = some o) (ko : ∀ b o, H b = some o → B b → r.k = .own → v = .ref b → H' b = some o ∧ B' b) (h : ∀ b, B' b → B b ∨ H b = none) : Good K H0 H' B' v r := by
  unfold Good at g ⊢
  have m : ∀ fr, Same (cutF fr H0 H B) (cutF fr H0 H' B') := fun fr => cutF_mono k h
  cases e : r.k with
  | shr => rw [e] at g; exact Rep.same (m _) g
  | own =>
    rw [e] at g
    obtain ⟨a, o, h1, h2, h3, h4, h5⟩ := g
    obtain ⟨q1, q2⟩ := ko a _ h4 h2 e h1
    exact ⟨a, o, h1, q2, h3, q1, h5.same (m _)⟩
  | tmp => rw [e] at g; exact g
  | old => rw [e] at g; exact ⟨g.1, Rep.same (cut_mono (fun _ _ q _ => q) fun b z => (h b z).imp id fun q => sm.none q) g.2⟩
theorem DenE.to {K : PySem.W.Frag} {H0 H H' : Hp} {B B' : Addr → Prop} {σ : St} {ρ : Env} (d : DenE K H0 H B σ ρ) (s : Same H H') (hB : ∀ b, B b → B' b) (h : ∀ b, B' b → B b ∨ H b = none) (bnd : ∀ b, B' b → ∃ o, H' b = some o ∧ stab o = false) : DenE K H0 H' B' σ ρ :=
  ⟨d.len, d.sam.trans s, bnd, fun i e he => let ⟨v, a, g⟩ := d.ent i e he; ⟨v, a, g.to d.sam (fun b o q _ => s b o q) (fun b o q q2 _ _ => ⟨s b o q, hB b q2⟩) h⟩⟩
theorem DenE.set {K : PySem.W.Frag} {H0 H : Hp} {B : Addr → Prop} {σ : St} {ρ : Env} {i : Nat} {v : V} {r : Res} (d : DenE K H0 H B σ ρ) (g : Good K H0 H B v r) : DenE K H0 H B (σ.set i (some v)) (ρ.set i (some r)) := by
  refine ⟨by rw [List.length_set, List.length_set]; exact d.len, d.sam, d.bnd, fun j e he => ?_⟩
  by_cases hj : i = j
  · subst hj
    by_cases hi : i < ρ.length
    · rw [List.getElem?_set_self hi] at he
      cases he
      exact ⟨v, List.getElem?_set_self (by rw [← d.len]; exact hi), g⟩
    · rw [List.getElem?_eq_none (by rw [List.length_set]; omega)] at he
      cases he
  · rw [List.getElem?_set_ne hj] at he
    obtain ⟨w, q1, q2⟩ := d.ent j e he
    exact ⟨w, by rw [List.getElem?_set_ne hj]; exact q1, q2⟩
theorem DenE.comp {K : PySem.W.Frag} {H0 H : Hp} {B : Addr → Prop} {σ : St} {ρ : Env} (d : DenE K H0 H B σ ρ) (k : Nat) (fs : List Nat) : DenE K H0 H B (compSt k fs σ) (cmpEnv k fs ρ) := by
  refine ⟨by simp [compSt, cmpEnv], d.sam, d.bnd, fun i e he => ?_⟩
  unfold cmpEnv at he
  unfold compSt
  by_cases hi : i < k
  · rw [List.getElem?_append_left (by simpa using hi), List.getElem?_replicate, if_pos hi] at he
    cases he
  · rw [List.getElem?_append_right (by simpa using hi), List.length_replicate, List.getElem?_map] at he
    rw [List.getElem?_append_right (by simpa using hi), List.length_replicate, List.getElem?_map]
    cases q : fs[i - k]? with
    | none => rw [q] at he; cases he
    | some j =>
      rw [q] at he
      simp only [Option.map_some, Option.some.injEq] at he ⊢
      have he' : ρ[j]? = some (some e) := by
        cases z : ρ[j]? with
        | none => rw [z] at he; cases he
        | some y => rw [z] at he; simp at he; rw [he]
      obtain ⟨v, q1, q2⟩ := d.ent j e he'
      exact ⟨v, by rw [q1]; rfl, q2⟩
def tBm (K : PySem.W.Frag) (P : XP) (f : FB) : St → Hp → (Option V → Hp → Prop) → Prop := fun σ H Q => ∃ H0 B ρ, DenE K H0 H B σ ρ ∧ match f ρ with
  | .ok (some r) => ∀ v H', Same H H' → GoodR K H0 H H' B v r → Q (some v) H'
  | .ok none => ∀ H', Same H H' → Q none H'
  | .exc x => P.p x σ H
  | .stk => False
theorem PB.imp {ifs : List Expr} {t t' : St → Hp → (Option V → Hp → Prop) → Prop} (p : PB X ifs e t) (h : ∀ σ H Q, t' σ H Q → t σ H Q) : PB X ifs e t' := fun pins s σ H Q I q => p pins s σ H Q I (h σ H Q q)
theorem mb_elt (he : PE X e (tE X.K P f)) : PB X [] e (tBm X.K P (bE f)) := by
  refine PB.imp (pb_elt he) ?_
  rintro σ H Q ⟨H0, B, ρ, d, h⟩
  unfold bE at h
  show tE X.K P f σ H fun v H' => Q (some v) H'
  cases e1 : f ρ with
  | stk => simp [e1] at h
  | exc x => simp [e1] at h; exact tE_exc d e1 h
  | ok r => simp only [e1, R.ok_bind] at h; exact tE_of d e1 fun v H' s d' g' => h v H' s g'
theorem mb_if {t : FT} (hc : PT X c (tT X.K P t)) (he : PE X e (tE X.K P f)) : PB X [c] e (tBm X.K P (Mir.bIf t f)) := by
  refine PB.imp (pb_if hc he) ?_
  rintro σ H Q ⟨H0, B, ρ, d, h⟩
  unfold Mir.bIf at h
  show tT X.K P t σ H fun b H1 => if b = true then tE X.K P f σ H1 fun v H' => Q (some v) H' else Q none H1
  refine ⟨H0, B, ρ, d, ?_⟩
  cases e1 : t ρ with
  | stk => simp [e1] at h
  | exc x => simp [e1] at h; exact h
  | ok k =>
    simp only [e1, R.ok_bind] at h
    intro H1 s1
    cases k with
    | false => exact iteF (h H1 s1)
    | true =>
      refine iteT ⟨H0, B, ρ, d.mono s1, ?_⟩
      rw [if_pos rfl] at h
      cases e2 : f ρ with
      | stk => simp [e2] at h
      | exc x => simp [e2] at h; exact P.mono h s1
      | ok r => simp only [e2, R.ok_bind] at h; exact fun v H' s g' => h v H' (s1.trans s) (g'.old s1)
theorem bind_exc {fr : Bool} {x : Xc} : ∀ (t : Tg) (d : D) (ρ : Env), Tg.bind fr t d ρ = .exc x → False := by
  have hs : ∀ (n : Nat), (∀ (t : Tg) (d : D) (ρ : Env), sizeOf t ≤ n → Tg.bind fr t d ρ = .exc x → False) ∧ (∀ (ts : List Tg) (ds : List D) (ρ : Env), sizeOf ts ≤ n → Tg.binds fr ts ds ρ = .exc x → False) := by
    intro n
    induction n with
    | zero =>
      refine ⟨fun t d ρ h => ?_, fun ts ds ρ h => ?_⟩
      · cases t <;> simp at h
      · cases ts <;> simp at h
    | succ n ih =>
      refine ⟨fun t d ρ h e => ?_, fun ts ds ρ h e => ?_⟩
      · cases t with
        | nm i => simp [Tg.bind] at e
        | tp ts =>
          cases d with
          | tup ds => simp only [Tg.bind] at e; exact ih.2 ts ds ρ (by simp at h; omega) e
          | _ => simp [Tg.bind] at e
      · cases ts with
        | nil => cases ds <;> simp [Tg.binds] at e
        | cons t ts =>
          cases ds with
          | nil => simp [Tg.binds] at e
          | cons d ds =>
            simp only [Tg.binds] at e
            simp at h
            cases e1 : Tg.bind fr t d ρ with
            | stk => simp [e1] at e
            | exc y => simp [e1] at e; subst e; exact ih.1 t d ρ (by omega) e1
            | ok ρ1 => simp only [e1, R.ok_bind] at e; exact ih.2 ts ds ρ1 (by omega) e
  exact fun t d ρ e => (hs (sizeOf t)).1 t d ρ (Nat.le_refl _) e
theorem cmpL_exc {tg : Tg} {fb : FB} {fr : Bool} {ρ : Env} {x : Xc} : ∀ {ds : List D}, cmpL tg fb fr ρ ds = .exc x → False
  | [], e => by simp [cmpL] at e
  | d :: r, e => by
    simp only [cmpL] at e
    cases e1 : tg.bind fr d ρ with
    | stk => simp [e1] at e
    | exc y => exact bind_exc _ _ _ e1
    | ok ρ1 =>
      simp only [e1, R.ok_bind] at e
      cases e2 : fb ρ1 with
      | stk => simp [e2] at e
      | exc y => simp [e2] at e
      | ok o =>
        cases o with
        | none => simp only [e2] at e; exact cmpL_exc e
        | some r' =>
          simp only [e2] at e
          cases e3 : r'.give with
          | stk => simp [e3] at e
          | exc y => unfold Res.give at e3; split at e3 <;> cases e3
          | ok z =>
            simp only [e3, R.ok_bind] at e
            cases e4 : cmpL tg fb fr ρ r with
            | stk => simp [e4] at e
            | exc y => exact cmpL_exc e4
            | ok z => simp [e4] at e
theorem cmp_core {K : PySem.W.Frag} {H0 H H1 : Hp} {B : Addr → Prop} {σ : St} {ρ : Env} {J : It} {w : Its} {k : Nat} {fs : List Nat} {tg : Tg} {fb : FB} {y : Bool × List D} {acc : Addr} {Qf : Hp → Prop}
    (d : DenE K H0 H B σ ρ) (s1 : Same H H1) (hw : Walk K H0 H1 B J w) (e : cmpL tg fb w.fr (cmpEnv k fs ρ) w.ds = .ok y) (hz : w.ds.length ≤ sizeLine) (hacc : H1 acc = none)
    (hq : ∀ H2, Same H H2 → GoodR K H0 H H2 B (.ref acc) ⟨.tmp, y.1, .lst y.2⟩ → Qf H2) : CompRd J k fs (gOf K tg) (tBm K XP0 fb) σ acc Qf H1 := by
  obtain ⟨A, hst, hwk⟩ := hw
  have hacc0 : H acc = none := s1.none hacc
  have nB : ¬ B acc := fun z => by obtain ⟨o, q, _⟩ := d.bnd acc z; rw [hacc0] at q; cases q
  refine ⟨fun i m ys H2 => m = w.ds.length - i ∧ i ≤ w.ds.length ∧ ys.length ≤ i ∧ Same H1 H2 ∧ H2 acc = some (.lst ys) ∧ ∃ es1 esS frS, y.2 = es1 ++ esS ∧ cmpL tg fb w.fr (cmpEnv k fs ρ) (w.ds.drop i) = .ok (frS, esS) ∧ (y.1 = true → frS = true) ∧
    Reps K (cutF y.1 H0 H2 fun b => B b ∨ b = acc) es1 ys, ⟨w.ds.length, rfl, Nat.zero_le _, Nat.le_refl _, Same.upd_new hacc, upd_same, [], y.2, y.1, rfl, e, fun h => h, rfl⟩, ?_⟩
  rintro i m ys H2 ⟨hm, hi, hys, s2, ha2, es1, esS, frS, hy, hS, hfr, hR⟩
  refine ⟨ha2, ?_⟩
  have sH2 := s1.trans s2
  have bnd2 : ∀ b, (B b ∨ b = acc) → ∃ o, H2 b = some o ∧ stab o = false := fun b z => by
    rcases z with z | z
    · obtain ⟨o, q, n⟩ := d.bnd b z
      exact ⟨o, sH2 _ _ q, n⟩
    · exact ⟨_, by rw [z]; exact ha2, rfl⟩
  have cond : ∀ b, (B b ∨ b = acc) → B b ∨ H1 b = none := fun b z => z.imp id fun z => by rw [z]; exact hacc
  have cond0 : ∀ b, (B b ∨ b = acc) → B b ∨ H b = none := fun b z => z.imp id fun z => by rw [z]; exact hacc0
  have wk := hwk H2 (fun b => B b ∨ b = acc) (fun a o _ q => s2 _ _ q) (fun b o q _ => s2 _ _ q) cond (fun b z => let ⟨o, q, _⟩ := bnd2 b z; ⟨o, q⟩) (d.sam.trans sH2) i
  by_cases hlt : i < w.ds.length
  · refine .inr ?_
    have hd : w.ds[i]? = some w.ds[i] := List.getElem?_eq_getElem hlt
    obtain ⟨go, yl⟩ := wk.2 _ hd
    refine ⟨go, Nat.lt_of_le_of_lt hys (Nat.lt_of_lt_of_le hlt hz), fun x H3 y3 => ?_⟩
    obtain ⟨s3, rx⟩ := yl x H3 y3
    rw [List.drop_eq_getElem_cons hlt] at hS
    simp only [cmpL] at hS
    have den3 : DenE K H0 H3 (fun b => B b ∨ b = acc) (compSt k fs σ) (cmpEnv k fs ρ) :=
      (d.to (sH2.trans s3) (fun b z => .inl z) cond0 fun b z => let ⟨o, q, n⟩ := bnd2 b z; ⟨o, s3 _ _ q, n⟩).comp k fs
    cases e1 : tg.bind w.fr w.ds[i] (cmpEnv k fs ρ) with
    | stk => simp [e1] at hS
    | exc x => simp [e1] at hS
    | ok ρ1 =>
      simp only [e1, R.ok_bind] at hS
      refine gOf_gen (G := cutF w.fr H0 H3 fun b => B b ∨ b = acc) (fr := w.fr) (I := fun σ' ρ' => DenE K H0 H3 (fun b => B b ∨ b = acc) σ' ρ') cut_same (fun σ' ρ' i d' v' D r => D.set r) tg _ x _ _ ρ1 _ e1 rx den3 fun σ4 den4 => ?_
      refine ⟨H0, _, ρ1, den4, ?_⟩
      cases e2 : fb ρ1 with
      | stk => simp [e2] at hS
      | exc x => simp [e2] at hS
      | ok o =>
        cases o with
        | none =>
          simp only [e2] at hS
          intro H5 s5
          refine ⟨w.ds.length - (i + 1), by omega, rfl, hlt, by omega, (s2.trans s3).trans s5, s5 _ _ (s3 _ _ ha2), es1, esS, frS, hy, hS, hfr, Reps.same (cutF_mono (fun b o q _ => s5 _ _ (s3 _ _ q)) fun b z => .inl z) hR⟩
        | some r =>
          simp only [e2] at hS
          cases e3 : r.give with
          | stk => simp [e3] at hS
          | exc x => simp [e3] at hS
          | ok r' =>
            simp only [e3, R.ok_bind] at hS
            cases e4 : cmpL tg fb w.fr (cmpEnv k fs ρ) (w.ds.drop (i + 1)) with
            | stk => simp [e4] at hS
            | exc x => simp [e4] at hS
            | ok z =>
              simp only [e4, R.ok_bind] at hS
              cases hS
              intro v H5 s5 g5
              obtain ⟨q1, q2⟩ := g5.give den4 e3
              subst q1
              refine ⟨s5 _ _ (s3 _ _ ha2), w.ds.length - (i + 1), by omega, rfl, hlt, by simp; omega, ?_, upd_same, es1 ++ [r.d], z.2, z.1, by rw [hy]; simp, e4, fun h => ?_, ?_⟩
              · intro b o q
                rw [upd_ne (ne_of_none q hacc)]
                exact s5 _ _ (s3 _ _ (s2 _ _ q))
              · have := hfr h
                simp at this
                exact this.2
              · have m : ∀ fr, Same (cutF fr H0 H5 fun b => B b ∨ b = acc) (cutF fr H0 (upd H5 acc (.lst (ys ++ [v]))) fun b => B b ∨ b = acc) := fun fr => cutF_mono (fun b o q n => by rw [upd_ne (fun z => n (.inr z))]; exact q) fun b z => .inl z
                have m2 : Same (cutF y.1 H0 H2 fun b => B b ∨ b = acc) (cutF y.1 H0 H5 fun b => B b ∨ b = acc) := cutF_mono (fun b o q _ => s5 _ _ (s3 _ _ q)) fun b z => .inl z
                refine Reps.append (Reps.same (m _) (Reps.same m2 hR)) (Reps.one (Rep.same (m _) ?_))
                cases hy1 : y.1 with
                | false => exact Rep.same cutF_weak q2
                | true =>
                  have := hfr hy1
                  simp at this
                  rw [this.1] at q2
                  exact q2
  · have hi' : i = w.ds.length := by omega
    refine .inl ⟨wk.1 (by omega), hq H2 sH2 ⟨acc, _, rfl, hacc0, ha2, .lst ?_⟩⟩
    rw [List.drop_of_length_le (by omega)] at hS
    simp only [cmpL] at hS
    cases hS
    rw [hy, List.append_nil]
    exact hR
variable {scope : Scope} {N : List Str} {k : Nat} {cs : List Nat} {tg iter elt : Expr} {ifs : List Expr} {t : Tg} {it : FI} {fb : FB}
theorem i_comp (σ : St) (H : Hp) (Q : VK) (h : tE X.K P (cmpE' it k cs t fb) σ H Q) : tComp (tI X.K P it) k cs (gOf X.K t) (tBm X.K XP0 fb) σ H Q := by
  obtain ⟨H0, B, ρ, d, h⟩ := h
  unfold cmpE' at h
  refine ⟨H0, B, ρ, d, ?_⟩
  cases e : it ρ with
  | stk => simp [e] at h
  | exc x => simp [e] at h; exact h
  | ok w =>
    simp only [e, R.ok_bind] at h
    intro J H1 s1 hw acc hacc
    cases e2 : cmpL t fb w.fr (cmpEnv k cs ρ) w.ds with
    | stk => simp [e2] at h
    | exc x => exact (cmpL_exc e2).elim
    | ok y =>
      simp only [e2, R.ok_bind] at h
      by_cases hz : w.ds.length ≤ sizeLine
      · rw [if_pos hz] at h
        exact cmp_core d s1 hw e2 hz hacc fun H2 s2 g2 => h _ H2 s2 g2
      · rw [if_neg hz] at h; exact h.elim
theorem m_comp (hc : X.calm = true) (C : CompOk X scope N k cs) (hi : PI X tg iter (tI X.K P it)) (hg : ∀ fp s H, PG (cxComp X scope N fp s H) tg (gOf X.K t)) (gl : GLow k (gOf X.K t)) (hb : ∀ fp s H, PB (cxComp X scope N fp s H) ifs elt (tBm X.K XP0 fb))
    (hs : ∀ x, foldedSetIterable iter X.env x = pure x := by intro _; rfl) : PE X (.ListComp elt [⟨tg, iter, ifs, 0⟩] scope pos) (tE X.K P (cmpE' it k cs t fb)) :=
  PE.imp (pe_comp hc C hi hg gl hb hs) i_comp
end Mir
set_option Elab.async false
set_option linter.all false
set_option maxRecDepth 100000
set_option maxHeartbeats 1000000
namespace Mir
open PySem L2
variable {X : Cx} {P : XP} {a b c e : Expr} {es : List Expr} {f g : FE} {fs : FEs} {pos : Pos}
def ownAt (σ : St) (ρ : Env) (i : Nat) (a : Addr) : Prop := σ[i]? = some (some (.ref a)) ∧ ∃ e, ρ[i]? = some (some e) ∧ e.k = .own
def ownd (σ : St) (ρ : Env) (a : Addr) : Prop := ∃ i, ownAt σ ρ i a
abbrev Bs (T : Addr → Prop) (σ : St) (ρ : Env) : Addr → Prop := fun a => ownd σ ρ a ∨ T a
structure DenS (K : PySem.W.Frag) (H0 H : Hp) (T : Addr → Prop) (σ : St) (ρ : Env) : Prop where
  e : DenE K H0 H (Bs T σ ρ) σ ρ
  sep : ∀ a, ownd σ ρ a → ¬ T a
  dis : ∀ i j a, ownAt σ ρ i a → ownAt σ ρ j a → i = j
structure Ext (H : Hp) (σ : St) (ρ : Env) (H' : Hp) (σ' : St) (ρ' : Env) : Prop where
  kp : ∀ b o, H b = some o → ¬ ownd σ ρ b → H' b = some o
  ow : ∀ b, ownd σ' ρ' b → ownd σ ρ b ∨ H b = none
section
variable {K : PySem.W.Frag} {H0 H H' H'' : Hp} {T : Addr → Prop} {σ σ' σ'' : St} {ρ ρ' ρ'' : Env}
theorem Ext.refl : Ext H σ ρ H σ ρ := ⟨fun _ _ h _ => h, fun _ h => .inl h⟩
theorem Ext.trans (x : Ext H σ ρ H' σ' ρ') (y : Ext H' σ' ρ' H'' σ'' ρ'') : Ext H σ ρ H'' σ'' ρ'' := by
  refine ⟨fun b o h n => y.kp b o (x.kp b o h n) fun z => ?_, fun b z => ?_⟩
  · rcases x.ow b z with q | q
    · exact n q
    · rw [h] at q; cases q
  · rcases y.ow b z with q | q
    · exact x.ow b q
    · cases e : H b with
      | none => exact .inr rfl
      | some o =>
        by_cases hb : ownd σ ρ b
        · exact .inl hb
        · rw [x.kp b o e hb] at q; cases q
theorem Ext.same (s : Same H H') : Ext H σ ρ H' σ ρ := ⟨fun b o h _ => s b o h, fun _ h => .inl h⟩
theorem DenS.mono (d : DenS K H0 H T σ ρ) (s : Same H H') : DenS K H0 H' T σ ρ := ⟨d.e.mono s, d.sep, d.dis⟩
theorem ownAt_set {i j : Nat} {v : V} {r : Res} {a : Addr} (h : ownAt (σ.set i (some v)) (ρ.set i (some r)) j a) : (j = i ∧ v = .ref a ∧ r.k = .own) ∨ (j ≠ i ∧ ownAt σ ρ j a) := by
  obtain ⟨h1, e, h2, h3⟩ := h
  by_cases hj : i = j
  · subst hj
    by_cases hi : i < σ.length
    · rw [List.getElem?_set_self hi] at h1
      cases h1
      by_cases hr : i < ρ.length
      · rw [List.getElem?_set_self hr] at h2; cases h2
        exact .inl ⟨rfl, rfl, h3⟩
      · rw [List.getElem?_eq_none (by rw [List.length_set]; omega)] at h2; cases h2
    · rw [List.getElem?_eq_none (by rw [List.length_set]; omega)] at h1; cases h1
  · rw [List.getElem?_set_ne hj] at h1 h2
    exact .inr ⟨fun z => hj z.symm, h1, e, h2, h3⟩
theorem ownAt_set' {i j : Nat} {v : V} {r : Res} {a : Addr} (h : ownAt σ ρ j a) (hj : j ≠ i) : ownAt (σ.set i (some v)) (ρ.set i (some r)) j a := by
  obtain ⟨h1, e, h2, h3⟩ := h
  exact ⟨by rw [List.getElem?_set_ne (Ne.symm hj)]; exact h1, e, by rw [List.getElem?_set_ne (Ne.symm hj)]; exact h2, h3⟩
theorem DenS.set_shr {i : Nat} {v : V} {fr : Bool} {dd : D} (d : DenS K H0 H T σ ρ) (r : Rep K (cutF fr H0 H (Bs T σ ρ)) dd v) : DenS K H0 H T (σ.set i (some v)) (ρ.set i (some ⟨.shr, fr, dd⟩)) ∧ ∀ a, ownd (σ.set i (some v)) (ρ.set i (some ⟨.shr, fr, dd⟩)) a → ownd σ ρ a := by
  have sub : ∀ a, ownd (σ.set i (some v)) (ρ.set i (some ⟨.shr, fr, dd⟩)) a → ownd σ ρ a := fun a ⟨j, h⟩ => by
    rcases ownAt_set h with ⟨_, _, h⟩ | ⟨_, h⟩
    · cases h
    · exact ⟨j, h⟩
  have subB : ∀ a, Bs T (σ.set i (some v)) (ρ.set i (some ⟨.shr, fr, dd⟩)) a → Bs T σ ρ a := fun a z => z.imp (sub a) id
  refine ⟨⟨⟨by rw [List.length_set, List.length_set]; exact d.e.len, d.e.sam, fun b z => d.e.bnd b (subB b z), fun j e he => ?_⟩, fun a z => d.sep a (sub a z), fun j k a h1 h2 => ?_⟩, sub⟩
  · by_cases hj : i = j
    · subst hj
      by_cases hi : i < ρ.length
      · rw [List.getElem?_set_self hi] at he
        cases he
        exact ⟨v, List.getElem?_set_self (by rw [← d.e.len]; exact hi), Rep.same (cutF_mono (fun _ _ q _ => q) fun b z => .inl (subB b z)) r⟩
      · rw [List.getElem?_eq_none (by rw [List.length_set]; omega)] at he; cases he
    · rw [List.getElem?_set_ne hj] at he
      obtain ⟨w, q1, q2⟩ := d.e.ent j e he
      refine ⟨w, by rw [List.getElem?_set_ne hj]; exact q1, q2.to d.e.sam (fun _ _ q _ => q) (fun b o q _ k1 k2 => ⟨q, .inl ⟨j, ownAt_set' ⟨by rw [q1, k2], e, he, k1⟩ (fun z => hj z.symm)⟩⟩) fun b z => .inl (subB b z)⟩
  · rcases ownAt_set h1 with ⟨_, _, h⟩ | ⟨_, h1⟩
    · cases h
    · rcases ownAt_set h2 with ⟨_, _, h⟩ | ⟨_, h2⟩
      · cases h
      · exact d.dis j k a h1 h2
theorem DenS.set_con {i : Nat} {a : Addr} {o : HO} {dd : D} {fr : Bool} (d : DenS K H0 H T σ ρ) (s : Same H H') (ha : H a = none) (ha' : H' a = some o) (r : Held K (cutF fr H0 H' fun b => Bs T σ ρ b ∨ b = a) dd o) :
    DenS K H0 H' T (σ.set i (some (.ref a))) (ρ.set i (some ⟨.own, fr, dd⟩)) ∧ Ext H σ ρ H' (σ.set i (some (.ref a))) (ρ.set i (some ⟨.own, fr, dd⟩)) := by
  have sub : ∀ b, ownd (σ.set i (some (.ref a))) (ρ.set i (some ⟨.own, fr, dd⟩)) b → ownd σ ρ b ∨ b = a := fun b ⟨j, h⟩ => by
    rcases ownAt_set h with ⟨_, h, _⟩ | ⟨_, h⟩
    · cases h; exact .inr rfl
    · exact .inl ⟨j, h⟩
  have subB : ∀ b, Bs T (σ.set i (some (.ref a))) (ρ.set i (some ⟨.own, fr, dd⟩)) b → Bs T σ ρ b ∨ b = a := fun b z => by
    rcases z with z | z
    · exact (sub b z).imp .inl id
    · exact .inl (.inr z)
  have subH : ∀ b, Bs T (σ.set i (some (.ref a))) (ρ.set i (some ⟨.own, fr, dd⟩)) b → Bs T σ ρ b ∨ H b = none := fun b z => (subB b z).imp id fun z => by rw [z]; exact ha
  have nB : ∀ b, Bs T σ ρ b → b ≠ a := fun b z q => by obtain ⟨o, w, _⟩ := d.e.bnd b z; rw [q, ha] at w; cases w
  refine ⟨⟨⟨by rw [List.length_set, List.length_set]; exact d.e.len, d.e.sam.trans s, fun b z => ?_, fun j e he => ?_⟩, fun b z => ?_, fun j k b h1 h2 => ?_⟩, fun b o h _ => s b o h, fun b z => (sub b z).imp id fun z => by rw [z]; exact ha⟩
  · rcases subB b z with z | z
    · obtain ⟨o, w, n⟩ := d.e.bnd b z; exact ⟨o, s _ _ w, n⟩
    · exact ⟨_, by rw [z]; exact ha', r.stab⟩
  · by_cases hj : i = j
    · subst hj
      by_cases hi : i < ρ.length
      · rw [List.getElem?_set_self hi] at he
        cases he
        have hσ : (σ.set i (some (V.ref a)))[i]? = some (some (V.ref a)) := List.getElem?_set_self (by rw [← d.e.len]; exact hi)
        refine ⟨.ref a, hσ, a, o, rfl, .inl ⟨i, hσ, _, List.getElem?_set_self hi, rfl⟩, d.e.sam.none ha, ha', r.same (cutF_mono (fun _ _ q _ => q) fun b z => .inl (subB b z))⟩
      · rw [List.getElem?_eq_none (by rw [List.length_set]; omega)] at he; cases he
    · rw [List.getElem?_set_ne hj] at he
      obtain ⟨w, q1, q2⟩ := d.e.ent j e he
      refine ⟨w, by rw [List.getElem?_set_ne hj]; exact q1, q2.to d.e.sam (fun _ _ q _ => s _ _ q) (fun b o q _ k1 k2 => ⟨s _ _ q, .inl ⟨j, ownAt_set' ⟨by rw [q1, k2], e, he, k1⟩ (fun z => hj z.symm)⟩⟩) subH⟩
  · rcases sub b z with z | z
    · exact d.sep b z
    · intro q; exact nB b (.inr q) z
  · rcases ownAt_set h1 with ⟨e1, h, _⟩ | ⟨_, h1⟩
    · cases h
      rcases ownAt_set h2 with ⟨e2, _, _⟩ | ⟨_, h2⟩
      · rw [e1, e2]
      · exact absurd rfl (nB _ (.inl ⟨k, h2⟩))
    · rcases ownAt_set h2 with ⟨_, h, _⟩ | ⟨_, h2⟩
      · cases h; exact absurd rfl (nB _ (.inl ⟨j, h1⟩))
      · exact d.dis j k b h1 h2
theorem DenS.writeO {i : Nat} {a : Addr} {e : Res} {o' : HO} {dd : D} {fr : Bool} (d : DenS K H0 H T σ ρ) (hσ : σ[i]? = some (some (.ref a))) (he : ρ[i]? = some (some e)) (hk : e.k = .own) (h0 : H0 a = none) (r : Held K (cutF fr H0 H (Bs T σ ρ)) dd o') :
    DenS K H0 (upd H a o') T σ (ρ.set i (some ⟨.own, fr, dd⟩)) ∧ Ext H σ ρ (upd H a o') σ (ρ.set i (some ⟨.own, fr, dd⟩)) := by
  have oi : ownAt σ ρ i a := ⟨hσ, e, he, hk⟩
  have hi : i < ρ.length := by
    obtain ⟨h, _⟩ := List.getElem?_eq_some_iff.mp he; exact h
  have fwd : ∀ j b, ownAt σ (ρ.set i (some ⟨.own, fr, dd⟩)) j b → ownAt σ ρ j b := fun j b ⟨h1, e', h2, h3⟩ => by
    by_cases hj : i = j
    · subst hj; exact ⟨h1, e, he, hk⟩
    · rw [List.getElem?_set_ne hj] at h2; exact ⟨h1, e', h2, h3⟩
  have bwd : ∀ j b, ownAt σ ρ j b → ownAt σ (ρ.set i (some ⟨.own, fr, dd⟩)) j b := fun j b ⟨h1, e', h2, h3⟩ => by
    by_cases hj : i = j
    · subst hj; exact ⟨h1, _, List.getElem?_set_self hi, rfl⟩
    · exact ⟨h1, e', by rw [List.getElem?_set_ne hj]; exact h2, h3⟩
  have subB : ∀ b, Bs T σ (ρ.set i (some ⟨.own, fr, dd⟩)) b → Bs T σ ρ b := fun b z => z.imp (fun ⟨j, h⟩ => ⟨j, fwd j b h⟩) id
  have Ba : Bs T σ ρ a := .inl ⟨i, oi⟩
  have kp : ∀ b o, H b = some o → ¬ Bs T σ ρ b → upd H a o' b = some o := fun b o q n => by rw [upd_ne (fun z => n (by rw [z]; exact Ba))]; exact q
  refine ⟨⟨⟨by rw [List.length_set]; exact d.e.len, fun b o q => ?_, fun b z => ?_, fun j e' he' => ?_⟩, fun b z => d.sep b (let ⟨j, h⟩ := z; ⟨j, fwd j b h⟩), fun j k b h1 h2 => d.dis j k b (fwd j b h1) (fwd k b h2)⟩, fun b o q n => ?_, fun b z => .inl (let ⟨j, h⟩ := z; ⟨j, fwd j b h⟩)⟩
  · rw [upd_ne (ne_of_none q h0)]; exact d.e.sam b o q
  · by_cases hb : b = a
    · subst hb; exact ⟨_, upd_same, r.stab⟩
    · obtain ⟨o, w, n⟩ := d.e.bnd b (subB b z); exact ⟨o, by rw [upd_ne hb]; exact w, n⟩
  · by_cases hj : i = j
    · subst hj
      rw [List.getElem?_set_self hi] at he'
      cases he'
      exact ⟨.ref a, hσ, a, o', rfl, .inl ⟨i, bwd i a oi⟩, h0, upd_same, r.same (cutF_mono kp fun b z => .inl (subB b z))⟩
    · rw [List.getElem?_set_ne hj] at he'
      obtain ⟨w, q1, q2⟩ := d.e.ent j e' he'
      refine ⟨w, q1, q2.to d.e.sam kp (fun b o q _ k1 k2 => ?_) fun b z => .inl (subB b z)⟩
      have oj : ownAt σ ρ j b := ⟨by rw [q1, k2], e', he', k1⟩
      refine ⟨?_, .inl ⟨j, bwd j b oj⟩⟩
      rw [upd_ne (fun z => hj (d.dis i j a oi (by rw [z] at oj; exact oj)))]
      exact q
  · rw [upd_ne (fun z => n (by rw [z]; exact ⟨i, oi⟩))]; exact q
theorem DenS.write {i : Nat} {a : Addr} {e : Res} {vs : List V} {ds : List D} {fr : Bool} (d : DenS K H0 H T σ ρ) (hσ : σ[i]? = some (some (.ref a))) (he : ρ[i]? = some (some e)) (hk : e.k = .own) (h0 : H0 a = none) (r : Reps K (cutF fr H0 H (Bs T σ ρ)) ds vs) :
    DenS K H0 (upd H a (.lst vs)) T σ (ρ.set i (some ⟨.own, fr, .lst ds⟩)) ∧ Ext H σ ρ (upd H a (.lst vs)) σ (ρ.set i (some ⟨.own, fr, .lst ds⟩)) := d.writeO hσ he hk h0 (.lst r)
theorem ownL_ok {i : Nat} {y : Bool × List D} (h : ownL i ρ = .ok y) : ρ[i]? = some (some ⟨.own, y.1, .lst y.2⟩) := by
  unfold ownL at h
  split at h
  · rename_i e; cases h; exact e
  · cases h
theorem DenS.own {i : Nat} {fr : Bool} {ds : List D} (d : DenS K H0 H T σ ρ) (he : ρ[i]? = some (some ⟨.own, fr, .lst ds⟩)) : ∃ a vs, σ[i]? = some (some (.ref a)) ∧ H0 a = none ∧ H a = some (.lst vs) ∧ Reps K (cutF fr H0 H (Bs T σ ρ)) ds vs := by
  obtain ⟨v, q1, a, o, h1, h2, h3, h4, vs, h5, h6⟩ := d.e.ent i _ he
  subst h1
  subst h5
  exact ⟨a, vs, q1, h3, h4, h6⟩
theorem DenS.ownD {i : Nat} {fr : Bool} {ks : List (List Int)} {ds : List D} (d : DenS K H0 H T σ ρ) (he : ρ[i]? = some (some ⟨.own, fr, .dct ks ds⟩)) : ∃ a kvs, σ[i]? = some (some (.ref a)) ∧ H0 a = none ∧ H a = some (.dT kvs) ∧ keysAre ks kvs ∧ Reps K (cutF fr H0 H (Bs T σ ρ)) ds (kvs.map (·.2)) := by
  obtain ⟨v, q1, a, o, h1, h2, h3, h4, kvs, h5, h6, h7⟩ := d.e.ent i _ he
  subst h1
  subst h5
  exact ⟨a, kvs, q1, h3, h4, h6, h7⟩
theorem DenS.freeze (d : DenS K H0 H T σ ρ) (i : Nat) : DenS K H0 H T σ (frz i ρ) ∧ Ext H σ ρ H σ (frz i ρ) := by
  unfold frz
  split
  · rename_i e he
    have hi : i < ρ.length := by
      obtain ⟨h, _⟩ := List.getElem?_eq_some_iff.mp he; exact h
    have fwd : ∀ j b, ownAt σ (ρ.set i (some ⟨.shr, e.fr, e.d⟩)) j b → j ≠ i ∧ ownAt σ ρ j b := fun j b ⟨h1, e', h2, h3⟩ => by
      by_cases hj : i = j
      · subst hj; rw [List.getElem?_set_self hi] at h2; cases h2; cases h3
      · rw [List.getElem?_set_ne hj] at h2; exact ⟨fun z => hj z.symm, h1, e', h2, h3⟩
    have subB : ∀ b, Bs T σ (ρ.set i (some ⟨.shr, e.fr, e.d⟩)) b → Bs T σ ρ b := fun b z => z.imp (fun ⟨j, h⟩ => ⟨j, (fwd j b h).2⟩) id
    refine ⟨⟨⟨by rw [List.length_set]; exact d.e.len, d.e.sam, fun b z => d.e.bnd b (subB b z), fun j e' he' => ?_⟩, fun b z => d.sep b (let ⟨j, h⟩ := z; ⟨j, (fwd j b h).2⟩), fun j k b h1 h2 => d.dis j k b (fwd j b h1).2 (fwd k b h2).2⟩, fun b o q _ => q, fun b z => .inl (let ⟨j, h⟩ := z; ⟨j, (fwd j b h).2⟩)⟩
    by_cases hj : i = j
    · subst hj
      rw [List.getElem?_set_self hi] at he'
      cases he'
      obtain ⟨w, q1, q2⟩ := d.e.ent i e he
      refine ⟨w, q1, ?_⟩
      have m : Same (cutF e.fr H0 H (Bs T σ ρ)) (cutF e.fr H0 H (Bs T σ (ρ.set i (some ⟨.shr, e.fr, e.d⟩)))) := cutF_mono (fun _ _ q _ => q) fun b z => .inl (subB b z)
      unfold Good at q2
      cases k : e.k with
      | shr => rw [k] at q2; exact Rep.same m q2
      | own =>
        rw [k] at q2
        obtain ⟨a, o, h1, h2, h3, h4, h5⟩ := q2
        show Rep K (cutF e.fr H0 H (Bs T σ (ρ.set i (some ⟨.shr, e.fr, e.d⟩)))) e.d w
        rw [h1]
        refine h5.rep m (cut_some.mpr ⟨fun z => ?_, h4⟩)
        rcases z with z | ⟨_, o, z, _⟩
        · rcases z with ⟨j, z⟩ | z
          · obtain ⟨z1, z2⟩ := fwd j a z
            exact z1 (d.dis j i a z2 ⟨by rw [q1, h1], e, he, k⟩)
          · exact d.sep a ⟨i, by rw [q1, h1], e, he, k⟩ z
        · rw [h3] at z; cases z
      | tmp => rw [k] at q2; exact q2.elim
      | old =>
        rw [k] at q2
        refine Rep.same (fun b o q => ?_) q2.2
        obtain ⟨n, q⟩ := cut_some.mp q
        refine cut_some.mpr ⟨fun z => ?_, d.e.sam b o q⟩
        rcases z with z | ⟨z, _⟩
        · exact n (subB b z)
        · rw [q2.1] at z; cases z
    · rw [List.getElem?_set_ne hj] at he'
      obtain ⟨w, q1, q2⟩ := d.e.ent j e' he'
      refine ⟨w, q1, q2.to d.e.sam (fun _ _ q _ => q) (fun b o q _ k1 k2 => ⟨q, .inl ⟨j, by rw [q1, k2], e', by rw [List.getElem?_set_ne hj]; exact he', k1⟩⟩) fun b z => .inl (subB b z)⟩
  · exact ⟨d, Ext.refl⟩
end
end Mir
set_option Elab.async false
set_option linter.all false
set_option maxRecDepth 100000
set_option maxHeartbeats 1000000
namespace Mir
open PySem L2
variable {X : Cx} {P : XP} {a b c e : Expr} {es : List Expr} {f g : FE} {fs : FEs} {pos : Pos}
def RetOk (K : PySem.W.Frag) (H0 H' : Hp) (T : Addr → Prop) (v : V) (r : Res) : Prop :=
  match r.k with
  | .shr => Rep K (cutF r.fr H0 H' T) r.d v
  | _ => ∃ a o, v = .ref a ∧ H0 a = none ∧ H' a = some o ∧ Held K (cutF r.fr H0 H' fun b => T b ∨ b = a) r.d o
def SPost (K : PySem.W.Frag) (P : XP) (D : Ends) (H0 : Hp) (T : Addr → Prop) (H : Hp) (σ : St) (ρ : Env) (r : RS) : Prop :=
  match r with
  | .nx ρ' => ∀ σ' H', DenS K H0 H' T σ' ρ' → Ext H σ ρ H' σ' ρ' → D.nx σ' H'
  | .bk ρ' => ∀ σ' H', DenS K H0 H' T σ' ρ' → Ext H σ ρ H' σ' ρ' → D.bk σ' H'
  | .ct ρ' => ∀ σ' H', DenS K H0 H' T σ' ρ' → Ext H σ ρ H' σ' ρ' → D.ct σ' H'
  | .rt r => ∀ v H', Same H0 H' → RetOk K H0 H' T v r → D.rt v H'
  | .exc x ρ' => ∀ σ' H', DenS K H0 H' T σ' ρ' → Ext H σ ρ H' σ' ρ' → P.p x σ' H'
  | .stk => False
def tS (K : PySem.W.Frag) (P : XP) (F : FS) : TS := fun D σ H => ∃ H0 T ρ, DenS K H0 H T σ ρ ∧ SPost K P D H0 T H σ ρ (F ρ)
theorem SPost.trans {K : PySem.W.Frag} {D : Ends} {H0 H H1 : Hp} {T : Addr → Prop} {σ σ1 : St} {ρ ρ1 : Env} {r : RS} (x : Ext H σ ρ H1 σ1 ρ1) (h : SPost K P D H0 T H σ ρ r) : SPost K P D H0 T H1 σ1 ρ1 r := by
  cases r with
  | nx ρ' => exact fun σ' H' d y => h σ' H' d (x.trans y)
  | bk ρ' => exact fun σ' H' d y => h σ' H' d (x.trans y)
  | ct ρ' => exact fun σ' H' d y => h σ' H' d (x.trans y)
  | rt r => exact h
  | exc z ρ' => exact fun σ' H' d y => h σ' H' d (x.trans y)
  | stk => exact h
theorem PS.imp {st : Stmt} {t t' : TS} (p : PS X st t) (h : ∀ D σ H, t' D σ H → t D σ H) : PS X st t' := fun pins s σ H D I q => p pins s σ H D I (h D σ H q)
theorem PSs.imp {st : List Stmt} {t t' : TS} (p : PSs X st t) (h : ∀ D σ H, t' D σ H → t D σ H) : PSs X st t' := fun pins s σ H D I q => p pins s σ H D I (h D σ H q)
variable {st : Stmt} {rest : List Stmt} {F G : FS}
theorem ms_nil : PSs X [] (tS X.K P nilS) := PSs.imp pss_nil fun D σ H ⟨H0, T, ρ, d, h⟩ => h σ H d Ext.refl
theorem i_seq {K : PySem.W.Frag} (D : Ends) (σ : St) (H : Hp) (h : tS K P (seqS F G) D σ H) : tSeq (tS K P F) (tS K P G) D σ H := by
  obtain ⟨H0, T, ρ, d, h⟩ := h
  refine ⟨H0, T, ρ, d, ?_⟩
  unfold seqS at h
  cases e : F ρ with
  | nx ρ1 =>
    rw [e] at h
    exact fun σ1 H1 d1 x1 => ⟨H0, T, ρ1, d1, h.trans x1⟩
  | bk ρ' => rw [e] at h; exact h
  | ct ρ' => rw [e] at h; exact h
  | rt r => rw [e] at h; exact h
  | exc z ρ' => rw [e] at h; exact h
  | stk => rw [e] at h; exact h
theorem ms_cons (h1 : PS X st (tS X.K P F)) (h2 : PSs X rest (tS X.K P G)) : PSs X (st :: rest) (tS X.K P (seqS F G)) := PSs.imp (pss_cons h1 h2) i_seq
theorem ms_one (h1 : PS X st (tS X.K P F)) : PSs X [st] (tS X.K P F) := pss_one h1
theorem tS_E {K : PySem.W.Frag} {k : Res → Env → RS} {D : Ends} {σ : St} {H : Hp} {q : VK} (hX : X.K = K) (h : tS K P (fun ρ => (f ρ).at ρ fun r => k r ρ) D σ H)
    (hk : ∀ H0 T ρ v H' r, DenS K H0 H T σ ρ → DenS K H0 H' T σ ρ → Same H H' → GoodR K H0 H H' (Bs T σ ρ) v r → SPost K P D H0 T H σ ρ (k r ρ) → q v H') : tE K P f σ H q := by
  subst hX
  obtain ⟨H0, T, ρ, d, h⟩ := h
  cases e : f ρ with
  | stk => simp only [e, R.at] at h; exact h.elim
  | exc x => simp only [e, R.at] at h; exact tE_exc d.e e (h σ H d Ext.refl)
  | ok r =>
    simp only [e, R.at] at h
    exact tE_of d.e e fun v H' s d' g' => hk H0 T ρ v H' r d (d.mono s) s g' h
theorem ret_ok {K : PySem.W.Frag} {H0 H H' : Hp} {T : Addr → Prop} {σ : St} {ρ : Env} {v : V} {r : Res} (d : DenS K H0 H T σ ρ) (g : GoodR K H0 H H' (Bs T σ ρ) v r) : RetOk K H0 H' T v ⟨if r.k = .shr then .shr else .tmp, r.fr, r.d⟩ := by
  unfold GoodR at g
  unfold RetOk
  cases k : r.k with
  | shr => rw [k] at g; exact Rep.same (cutF_mono (fun _ _ q _ => q) fun b z => .inl (.inr z)) g
  | own =>
    rw [k] at g
    obtain ⟨a, o, h1, h2, h3, h4, h5⟩ := g
    exact ⟨a, o, h1, h3, h4, h5.same (cutF_mono (fun _ _ q _ => q) fun b z => .inl (z.elim .inr fun z => by rw [z]; exact h2))⟩
  | tmp =>
    rw [k] at g
    obtain ⟨a, o, h1, h2, h3, h4⟩ := g
    exact ⟨a, o, h1, d.e.sam.none h2, h3, h4.same (cutF_mono (fun _ _ q _ => q) fun b z => .inl (z.imp .inr id))⟩
  | old => rw [k] at g; exact g.elim
theorem m_ret (he : PE X e (tE X.K P f)) : PS X (.Return (some e) pos) (tS X.K P (retS f)) := by
  refine PS.imp (ps_ret he) ?_
  intro D σ H h
  exact tS_E (q := D.rt) (k := fun r ρ => .rt ⟨if r.k = .shr then .shr else .tmp, r.fr, r.d⟩) rfl h fun H0 T ρ v H' r d d' s g h => h v H' d'.e.sam (ret_ok d g)
theorem set_core {K : PySem.W.Frag} {D : Ends} {H0 H H' : Hp} {T : Addr → Prop} {σ : St} {ρ : Env} {v : V} {r : Res} {i : Nat} (d : DenS K H0 H T σ ρ) (s : Same H H') (g : GoodR K H0 H H' (Bs T σ ρ) v r) (h : SPost K P D H0 T H σ ρ ((r.keep).at ρ fun e => .nx (ρ.set i (some e)))) :
    D.nx (σ.set i (some v)) H' := by
  unfold Res.keep at h
  unfold GoodR at g
  cases k : r.k with
  | shr =>
    rw [k] at g h
    have d' := (d.mono s).set_shr (i := i) g
    refine h _ H' ?_ ⟨fun b o q _ => s b o q, fun b z => .inl ?_⟩
    · have e : r = ⟨.shr, r.fr, r.d⟩ := by rw [← k]
      rw [e]; exact d'.1
    · have e : r = ⟨.shr, r.fr, r.d⟩ := by rw [← k]
      rw [e] at z; exact d'.2 b z
  | own => rw [k] at h; exact h.elim
  | old => rw [k] at h; exact h.elim
  | tmp =>
    rw [k] at g h
    obtain ⟨a, o, h1, h2, h3, h4⟩ := g
    subst h1
    have d' := d.set_con (i := i) s h2 h3 h4
    simp only [R.at] at h
    exact h _ H' d'.1 d'.2
theorem m_set {i : Nat} {x : Str} {pos' : Pos} (hN : X.N.Nodup) (hi : X.N[i]? = some x) (hx : Loc X.env.scope x) (he : PE X e (tE X.K P f)) (hs : swapsWith e (some (.Name x pos')) pos.line X.env = pure false := by rfl) (hf : X.fn x = true ∨ X.env.scope.names.lookup x = some .local := by first | exact .inl rfl | exact .inr rfl | assumption) :
    PS X (.Assign [.Name x pos'] e pos) (tS X.K P (setS i f)) := by
  refine PS.imp (ps_set hN hi hx he hs hf) ?_
  intro D σ H h
  exact tS_E (q := fun v H1 => D.nx (σ.set i (some v)) H1) (k := fun r ρ => (r.keep).at ρ fun e => .nx (ρ.set i (some e))) rfl h fun H0 T ρ v H' r d d' s g h => set_core d s g h
theorem tS_T {t : FT} {D : Ends} {σ : St} {H : Hp} {F G : FS} (h : tS X.K P (ifS t F G) D σ H) : tT X.K P t σ H fun b H1 => if b = true then tS X.K P F D σ H1 else tS X.K P G D σ H1 := by
  obtain ⟨H0, T, ρ, d, h⟩ := h
  unfold ifS at h
  refine ⟨H0, _, ρ, d.e, ?_⟩
  cases e : t ρ with
  | stk => simp only [e, R.at] at h; exact h.elim
  | exc x => simp only [e, R.at] at h; exact h σ H d Ext.refl
  | ok k =>
    simp only [e, R.at] at h
    intro H1 s1
    cases k with
    | true => exact iteT ⟨H0, T, ρ, d.mono s1, SPost.trans (Ext.same s1) h⟩
    | false => exact iteF ⟨H0, T, ρ, d.mono s1, SPost.trans (Ext.same s1) h⟩
theorem m_ifS {t : FT} {sa sb : List Stmt} (hc : PT X c (tT X.K P t)) (ha : PSs X sa (tS X.K P F)) (hb : PSs X sb (tS X.K P G)) : PS X (.If c sa sb pos) (tS X.K P (ifS t F G)) := by
  refine PS.imp (ps_if hc ha hb) ?_
  intro D σ H h
  exact tS_T h
theorem m_frz {i : Nat} (h : PS X st (tS X.K P F)) : PS X st (tS X.K P (frzS i F)) := by
  refine PS.imp h ?_
  rintro D σ H ⟨H0, T, ρ, d, h⟩
  obtain ⟨d', x⟩ := d.freeze i
  exact ⟨H0, T, frz i ρ, d', SPost.trans x h⟩
theorem m_app {i : Nat} {x : Str} {p ap cp : Pos} (hN : X.N[i]? = some x) (hv : Vis X.env.scope x) (he : PE X e (tE X.K P f)) (hd : (x == ("__debug__" : Str)) = false := by decide) (hcd : (x == ("__classdict__" : Str)) = false := by decide)
    (h1 : starEach [e] X.env = [(false, eval e X.env)] := by rfl) (hbase : attributeBase (.Name x p) "append" X.env (eval (.Name x p) X.env) = eval (.Name x p) X.env := by rfl)
    (hfew : ((backTo cp (starEach [e] X.env)).all (fun x => !x.1) && (backToKw cp (keywordEach [] X.env)).all (fun x => x.1.isSome) && decide ([e].length + ([] : List Keyword).length + (if ([] : List Keyword).isEmpty then 0 else 1) < 30)) = true := by rfl)
    (hline : (ap.endLine == cp.line) = true := by rfl)
    (hs : swapsWith (.Call (.Attribute (.Name x p) "append" ap) [e] [] cp) none pos.line X.env = pure false := by rfl) :
    PS X (.Expr (.Call (.Attribute (.Name x p) "append" ap) [e] [] cp) pos) (tS X.K P (appS i f)) := by
  refine PS.imp (ps_expr (pe_bm PySem.F.plainAttrs_list PySem.F.slot_list_append PySem.F.type_list_append mt_append (pe_var hN hv hd hcd) (pa_cons he pa_nil h1) hbase hfew hline (hs := h1)) hs) ?_
  rintro D σ H ⟨H0, T, ρ, d, h⟩
  unfold appS at h
  cases e3 : ownL i ρ with
  | stk => simp only [e3, R.at] at h; exact h.elim
  | exc z => unfold ownL at e3; split at e3 <;> cases e3
  | ok y =>
    simp only [e3, R.at] at h
    have ho := ownL_ok e3
    obtain ⟨a, vs, q1, q2, q3, q4⟩ := d.own ho
    refine ⟨_, q1, .inl ⟨rfl, vs, SqL.of q3⟩, ?_⟩
    cases e1 : f ρ with
    | stk => simp only [e1] at h; exact h.elim
    | exc z => simp only [e1] at h; exact tE_exc d.e e1 (h σ H d Ext.refl)
    | ok r =>
      simp only [e1] at h
      refine tE_of d.e e1 fun v H' s d' g' => ?_
      cases e2 : r.give with
      | stk => simp only [e2] at h; exact h.elim
      | exc z => unfold Res.give at e2; split at e2 <;> cases e2
      | ok r' =>
        simp only [e2] at h
        obtain ⟨g1, g2⟩ := g'.give d.e e2
        subst g1
        by_cases hz : y.2.length < sizeLine
        · rw [if_pos hz] at h
          have dS := d.mono s
          have q4' : Reps X.K (cutF y.1 H0 H' (Bs T σ ρ)) y.2 vs := Reps.same (cutF_mono (fun b o q _ => s b o q) fun b z => .inl z) q4
          refine ⟨a, vs, v, rfl, rfl, s _ _ q3, by rw [← q4.length]; exact hz, ?_⟩
          obtain ⟨w1, w2⟩ := dS.write (fr := y.1 && r.fr) (ds := y.2 ++ [r.d]) (vs := vs ++ [v]) q1 ho rfl q2 (q4'.andL.append (Reps.one g2).andR)
          exact h σ _ w1 ((Ext.same s).trans w2)
        · rw [if_neg hz] at h; exact h.elim
theorem m_appT {o : Expr} {ap cp : Pos} (hf : PE X o (tE X.K P f)) (he : PE X e (tE X.K P g))
    (h1 : starEach [e] X.env = [(false, eval e X.env)] := by rfl) (hbase : attributeBase o "append" X.env (eval o X.env) = eval o X.env := by rfl)
    (hfew : ((backTo cp (starEach [e] X.env)).all (fun x => !x.1) && (backToKw cp (keywordEach [] X.env)).all (fun x => x.1.isSome) && decide ([e].length + ([] : List Keyword).length + (if ([] : List Keyword).isEmpty then 0 else 1) < 30)) = true := by rfl)
    (hline : (ap.endLine == cp.line) = true := by rfl)
    (hs : swapsWith (.Call (.Attribute o "append" ap) [e] [] cp) none pos.line X.env = pure false := by rfl) :
    PS X (.Expr (.Call (.Attribute o "append" ap) [e] [] cp) pos) (tS X.K P (appT f g)) := by
  refine PS.imp (ps_expr (pe_bm PySem.F.plainAttrs_list PySem.F.slot_list_append PySem.F.type_list_append mt_append hf (pa_cons he pa_nil h1) hbase hfew hline (hs := h1)) hs) ?_
  rintro D σ H ⟨H0, T, ρ, d, h⟩
  unfold appT at h
  show tE X.K P f σ H fun x H1 => tyV X.K "list" x H1 ∧ tE X.K P g σ H1 fun y H2 => rAppend x [y] H2 fun _ H3 => D.nx σ H3
  cases e1 : f ρ with
  | stk => simp only [e1, R.at] at h; exact h.elim
  | exc z => simp only [e1, R.at] at h; exact tE_exc d.e e1 (h σ H d Ext.refl)
  | ok r =>
    simp only [e1, R.at] at h
    refine tE_of d.e e1 fun v H1 s1 d1 g1 => ?_
    obtain ⟨rk, rfr, rd⟩ := r
    cases rk with
    | shr => exact h.elim
    | own => exact h.elim
    | old => exact h.elim
    | tmp =>
      cases rd with
      | lst ds =>
       obtain ⟨a, o, h1, h2, h3, vs, h4, h5⟩ := g1
       subst h1
       subst h4
       refine ⟨.inl ⟨rfl, vs, SqL.of h3⟩, ?_⟩
       simp only at h
       cases e2 : g ρ with
       | stk => simp only [e2, R.at] at h; exact h.elim
       | exc z => simp only [e2, R.at] at h; exact tE_exc d1 e2 (h σ H1 (d.mono s1) (Ext.same s1))
       | ok x =>
         simp only [e2, R.at] at h
         refine tE_of d1 e2 fun w H2 s2 d2 g2 => ?_
         by_cases hz : ds.length < sizeLine
         · rw [if_pos hz] at h
           refine ⟨a, vs, w, rfl, rfl, s2 _ _ h3, by rw [← h5.length]; exact hz, h σ _ (d.mono fun b o q => ?_) (Ext.same fun b o q => ?_)⟩
           · rw [upd_ne (ne_of_none q h2)]; exact s2 _ _ (s1 _ _ q)
           · rw [upd_ne (ne_of_none q h2)]; exact s2 _ _ (s1 _ _ q)
         · rw [if_neg hz] at h; exact h.elim
      | _ => exact h.elim
theorem m_for {iter : Expr} {body : List Stmt} {tg : Expr} {t : Tg} {it : FI} (hp : PassesOwn (model X.prog X.w) X.A X.env X.xe) (hc : X.calm = true) (hi : PI X tg iter (tI X.K P it)) (hg : PG X tg (gOf X.K t)) (hb : PSs X body (tS X.K P F))
    (hs : ∀ x, foldedSetIterable iter X.env x = pure x := by intro _; rfl) : PS X (.For tg iter body [] pos) (tS X.K P (forS it t F)) := by
  refine PS.imp (ps_for hp hc hi hg hb hs) ?_
  rintro D σ H ⟨H0, T, ρ, d, h⟩
  unfold forS at h
  refine ⟨H0, _, ρ, d.e, ?_⟩
  cases e : it ρ with
  | stk => simp only [e, R.at] at h; exact h.elim
  | exc z => simp only [e, R.at] at h; exact h σ H d Ext.refl
  | ok w =>
    simp only [e, R.at] at h
    by_cases hst : w.st = true
    · rw [if_pos hst] at h
      intro J H1 s1 hw
      obtain ⟨A, hA, hwk⟩ := hw
      refine ⟨fun i m σ' H' => m = w.ds.length - i ∧ i ≤ w.ds.length ∧ ∃ ρi, DenS X.K H0 H' T σ' ρi ∧ Ext H1 σ ρ H' σ' ρi ∧ SPost X.K P D H0 T H1 σ ρ (forL t F w.fr (w.ds.drop i) ρi), ⟨w.ds.length, rfl, Nat.zero_le _, ρ, d.mono s1, Ext.refl, SPost.trans (Ext.same s1) h⟩, ?_⟩
      rintro i m σ' H' ⟨hm, hi', ρi, di, xi, pi⟩
      have wk := hwk H' (Bs T σ' ρi) (fun a o ha q => xi.kp a o q fun z => hA hst a ha (.inl z)) (fun b o q n => xi.kp b o q fun z => n (.inl z)) (fun b z => ?_) (fun b z => let ⟨o, q, _⟩ := di.e.bnd b z; ⟨o, q⟩) di.e.sam i
      · by_cases hlt : i < w.ds.length
        · refine .inr ?_
          have hd : w.ds[i]? = some w.ds[i] := List.getElem?_eq_getElem hlt
          obtain ⟨go, yl⟩ := wk.2 _ hd
          refine ⟨go, fun σ'' H'' => w.ds.length - (i + 1) = w.ds.length - (i + 1) ∧ i + 1 ≤ w.ds.length ∧ ∃ ρi, DenS X.K H0 H'' T σ'' ρi ∧ Ext H1 σ ρ H'' σ'' ρi ∧ SPost X.K P D H0 T H1 σ ρ (forL t F w.fr (w.ds.drop (i + 1)) ρi), fun σ'' H'' q => ⟨_, by omega, q⟩, fun x H3 y3 => ?_⟩
          obtain ⟨s3, rx⟩ := yl x H3 y3
          rw [List.drop_eq_getElem_cons hlt] at pi
          simp only [forL] at pi
          cases e1 : t.bind w.fr w.ds[i] ρi with
          | stk => simp only [e1, R.at] at pi; exact pi.elim
          | exc z => exact (bind_exc _ _ _ e1).elim
          | ok ρ1 =>
            simp only [e1, R.at] at pi
            refine gOf_gen (G := cutF w.fr H0 H3 (Bs T σ' ρi)) (fr := w.fr) (I := fun σ2 ρ2 => DenS X.K H0 H3 T σ2 ρ2 ∧ ∀ a, ownd σ2 ρ2 a → ownd σ' ρi a) cut_same (fun σ2 ρ2 j dd v ⟨D2, O2⟩ r => ?_) t _ x σ' ρi ρ1 _ e1 rx ⟨di.mono s3, fun a z => z⟩ fun σ4 ⟨d4, o4⟩ => ?_
            · have := D2.set_shr (i := j) (Rep.same (cutF_mono (fun _ _ q _ => q) fun b z => .inl (z.imp (O2 b) id)) r)
              exact ⟨this.1, fun a z => O2 a (this.2 a z)⟩
            · have x4 : Ext H1 σ ρ H3 σ4 ρ1 := xi.trans ⟨fun b o q _ => s3 b o q, fun b z => .inl (o4 b z)⟩
              refine ⟨H0, T, ρ1, d4, ?_⟩
              cases e2 : F ρ1 with
              | stk => simp only [e2] at pi; exact pi
              | nx ρ2 => simp only [e2] at pi; exact fun σ5 H5 d5 x5 => ⟨rfl, hlt, ρ2, d5, x4.trans x5, pi⟩
              | ct ρ2 => simp only [e2] at pi; exact fun σ5 H5 d5 x5 => ⟨rfl, hlt, ρ2, d5, x4.trans x5, pi⟩
              | bk ρ2 => simp only [e2] at pi; exact fun σ5 H5 d5 x5 => pi σ5 H5 d5 (x4.trans x5)
              | rt r => simp only [e2] at pi; exact pi
              | exc z ρ2 => simp only [e2] at pi; exact fun σ5 H5 d5 x5 => pi σ5 H5 d5 (x4.trans x5)
        · refine .inl ⟨wk.1 (by omega), ?_⟩
          rw [List.drop_of_length_le (by omega)] at pi
          exact pi σ' H' di xi
      · rcases z with z | z
        · exact (xi.ow b z).imp .inl id
        · exact .inl (.inr z)
    · rw [if_neg hst] at h; exact h.elim
end Mir
set_option Elab.async false
set_option linter.all false
set_option maxRecDepth 100000
set_option maxHeartbeats 1000000
namespace Mir
open PySem L2
variable {X : Cx} {P : XP} {a b c e : Expr} {es : List Expr} {f g : FE} {fs : FEs} {pos : Pos}
def spM (K : PySem.W.Frag) (cl : XC → Addr) (φ : Φ) : Sp := fun vs H Q E => ∃ ds B, (∀ b, B b → ∃ o, H b = some o ∧ stab o = false) ∧ Reps K (cut H B) ds vs ∧ match φ ds with
  | .ok r => ∀ v H', Same H H' → RetOk K H H' B v r → Q v H'
  | .exc x => ∀ H', Same H H' → E (.ref (cl x.c)) none H'
  | .stk => False
def Thr (CX : CXT) (cl : XC → Addr) (X : Cx) (P : XP) : Prop := ∀ (pins : List (Addr × Obj)) (σ : St) (H : Hp) (s : Shared) (e : Value) (s' : Shared), Inv X pins σ H s → CX X.stack H s (fun c _ H' => ∃ x : Xc, c = .ref (cl x.c) ∧ P.p x σ H') e s' → X.xe e s'
theorem run_fnX {CX : CXT} {k : Nat} {fa : Addr} {fd : FuncData} {ps : List Str} {sp : Sp} {E : XK} {pins : List (Addr × Obj)} {σ : St} {H : Hp} {s : Shared} {Q : VK} {us : List Value} {vs : List V} (F : FnOk X.prog X.w X.K X.mg X.base CX k fa fd ps sp) (hr : Room k X.A) (hb : Binds X.K fd ps [])
    (hx : ∀ e s', CX X.stack H s E e s' → X.xe e s') (I : Inv X pins σ H s) (r : Vals vs us) (h : sp vs H Q E) : wpAny (model X.prog X.w) X.A (call (.ref fa) us) (EP X pins σ Q) X.xe s := by
  have hl : us.length = ps.length := by rw [← r.length]; exact F.len _ _ _ _ h
  have hb' := hb s us I.kIn (by rw [List.append_nil]; exact hl)
  rw [List.append_nil] at hb'
  refine wpAny_call (codeAny_mono (F.run X.A X.stack s H ⟨us, []⟩ us vs Q E hr I.env0 hb' r h) fun r s' hq => ?_)
  cases r with
  | error e => exact hx e s' hq
  | ok fl =>
    cases fl with
    | ret u => exact I.after hq
    | next => exact False.elim hq
    | brk => exact False.elim hq
    | cont => exact False.elim hq
theorem GoodRs.plain {K : PySem.W.Frag} {H0 H H' : Hp} {B : Addr → Prop} {σ : St} {ρ : Env} {Z : Addr → Prop} (den : DenE K H0 H B σ ρ) : ∀ {vs : List V} {rs : List Res}, GoodRs K H0 H H' B vs rs → (∀ b, Z b → B b ∧ V.ref b ∉ vs) → Reps K (cut H' Z) (rs.map (·.d)) vs
  | [], _, h, _ => by rw [show _ = [] from h]; rfl
  | v :: vs, _, ⟨r, rr, e, g, gs⟩, hz => by
    subst e
    refine ⟨v, vs, rfl, ?_, GoodRs.plain den gs fun b z => ⟨(hz b z).1, fun q => (hz b z).2 (List.mem_cons_of_mem _ q)⟩⟩
    have m : ∀ fr, Same (cutF fr H0 H' B) (cut H' Z) := fun fr => cut_mono (fun _ _ q _ => q) fun b z => .inl (.inl (hz b z).1)
    unfold GoodR at g
    cases k : r.k with
    | shr => rw [k] at g; exact Rep.same (m _) g
    | own =>
      rw [k] at g
      obtain ⟨a, o, h1, h2, h3, h4, h5⟩ := g
      subst h1
      exact h5.rep (m _) (cut_some.mpr ⟨fun z => (hz a z).2 List.mem_cons_self, h4⟩)
    | old => rw [k] at g; exact g.elim
    | tmp =>
      rw [k] at g
      obtain ⟨a, o, h1, h2, h3, h4⟩ := g
      subst h1
      exact h4.rep (cut_mono (fun _ _ q _ => q) fun b z => .inl (.inl (.inl (hz b z).1))) (cut_some.mpr ⟨fun z => (hz a z).2 List.mem_cons_self, h3⟩)
theorem gives_ds : ∀ {rs : List Res} {y : Bool × List D}, gives rs = .ok y → y.2 = rs.map (·.d)
  | [], y, e => by simp [gives] at e; subst e; rfl
  | r :: rs, y, e => by
    simp only [gives] at e
    cases e2 : r.give with
    | stk => simp [e2] at e
    | exc x => simp [e2] at e
    | ok r' =>
      cases e3 : gives rs with
      | stk => simp [e2, e3] at e
      | exc x => simp [e2, e3] at e
      | ok y' =>
        simp only [e2, e3, R.ok_bind] at e
        cases e
        have : r'.d = r.d := by
          unfold Res.give at e2
          split at e2
          · cases e2
          · cases e2; rfl
        simp [gives_ds e3, this]
theorem call_core {cl : XC → Addr} {φ : Φ} {σ : St} {H : Hp} {Q : VK} (h : tE X.K P (callE φ fs) σ H Q) : tAs X.K P fs σ H fun vs H1 => spM X.K cl φ vs H1 Q (fun c _ H' => ∃ x : Xc, c = .ref (cl x.c) ∧ P.p x σ H') := by
  refine tA1 h ?_
  intro H0 B ρ vs H' rs d0 d gs s h
  cases e : φ (rs.map (·.d)) with
  | stk => simp [e] at h
  | exc x =>
    simp [e] at h
    refine ⟨rs.map (·.d), fun _ => False, fun _ z => z.elim, gs.plain d0 (fun _ z => z.elim), ?_⟩
    rw [e]
    exact fun H2 s2 => ⟨x, rfl, P.mono h s2⟩
  | ok r =>
    simp only [e, R.ok_bind] at h
    by_cases hf : r.fr = true
    · rw [if_pos hf] at h
      refine ⟨rs.map (·.d), fun b => B b ∧ V.ref b ∉ vs, fun b z => d.bnd b z.1, gs.plain d0 (fun _ z => z), ?_⟩
      rw [e]
      intro v H2 s2 ro
      refine h v H2 s2 ?_
      have ban : ∀ b o, H2 b = some o → ¬ Ban true H' (fun b => B b ∧ V.ref b ∉ vs) b → ¬ Ban true H0 B b := fun b o q n z => by
        rcases z with z | ⟨_, o', z1, z2⟩
        · obtain ⟨o', z1, z2⟩ := d.bnd b z
          exact n (.inr ⟨rfl, o', z1, z2⟩)
        · exact n (.inr ⟨rfl, o', d.sam _ _ z1, z2⟩)
      unfold RetOk at ro
      unfold GoodR
      cases k : r.k with
      | shr =>
        rw [k] at ro
        simp only [if_true]
        rw [hf] at ro
        exact Rep.same (fun b o q => let ⟨q1, q2⟩ := cut_some.mp q; cut_some.mpr ⟨ban b o q2 q1, q2⟩) ro
      | own =>
        rw [k] at ro
        obtain ⟨a, o', h1, h2, h3, h5⟩ := ro
        rw [hf] at h5
        refine ⟨a, o', h1, s.none h2, h3, h5.same (fun b o q => ?_)⟩
        obtain ⟨q1, q2⟩ := cut_some.mp q
        refine cut_some.mpr ⟨fun z => ?_, q2⟩
        rcases z with (z | z) | z
        · exact ban b o q2 (fun w => q1 (w.imp .inl id)) (.inl z)
        · exact q1 (.inl (.inr z))
        · exact ban b o q2 (fun w => q1 (w.imp .inl id)) (.inr z)
      | old =>
        rw [k] at ro
        obtain ⟨a, o', h1, h2, h3, h5⟩ := ro
        rw [hf] at h5
        refine ⟨a, o', h1, s.none h2, h3, h5.same (fun b o q => ?_)⟩
        obtain ⟨q1, q2⟩ := cut_some.mp q
        refine cut_some.mpr ⟨fun z => ?_, q2⟩
        rcases z with (z | z) | z
        · exact ban b o q2 (fun w => q1 (w.imp .inl id)) (.inl z)
        · exact q1 (.inl (.inr z))
        · exact ban b o q2 (fun w => q1 (w.imp .inl id)) (.inr z)
      | tmp =>
        rw [k] at ro
        obtain ⟨a, o', h1, h2, h3, h5⟩ := ro
        rw [hf] at h5
        refine ⟨a, o', h1, s.none h2, h3, h5.same (fun b o q => ?_)⟩
        obtain ⟨q1, q2⟩ := cut_some.mp q
        refine cut_some.mpr ⟨fun z => ?_, q2⟩
        rcases z with (z | z) | z
        · exact ban b o q2 (fun w => q1 (w.imp .inl id)) (.inl z)
        · exact q1 (.inl (.inr z))
        · exact ban b o q2 (fun w => q1 (w.imp .inl id)) (.inr z)
    · rw [if_neg hf] at h
      have hf' : r.fr = false := by cases q : r.fr with | true => exact absurd q hf | false => rfl
      cases e2 : gives rs with
      | stk => simp [e2] at h
      | exc x => exact (gives_exc e2).elim
      | ok y =>
        simp only [e2, R.ok_bind] at h
        have re := gs.gives d0 e2
        rw [gives_ds e2] at re
        refine ⟨rs.map (·.d), Ban y.1 H0 B, fun b z => ?_, re, ?_⟩
        · rcases z with z | ⟨_, o, z1, z2⟩
          · exact d.bnd b z
          · exact ⟨o, d.sam _ _ z1, z2⟩
        · rw [e]
          intro v H2 s2 ro
          refine h v H2 s2 ?_
          unfold RetOk at ro
          unfold GoodR
          cases k : r.k with
          | shr =>
            rw [k, hf'] at ro
            simp only [if_true]
            exact Rep.same (cut_mono (fun _ _ q _ => q) fun b z => .inl (.inl z)) ro
          | own =>
            rw [k, hf'] at ro
            obtain ⟨a, o', h1, h2, h3, h5⟩ := ro
            refine ⟨a, o', h1, s.none h2, h3, h5.same (cut_mono (fun _ _ q _ => q) fun b z => .inl (.inl ?_))⟩
            rcases z with (z | z) | z
            · exact .inl (.inl z)
            · exact .inr z
            · exact .inl (.inr z)
          | old =>
            rw [k, hf'] at ro
            obtain ⟨a, o', h1, h2, h3, h5⟩ := ro
            refine ⟨a, o', h1, s.none h2, h3, h5.same (cut_mono (fun _ _ q _ => q) fun b z => .inl (.inl ?_))⟩
            rcases z with (z | z) | z
            · exact .inl (.inl z)
            · exact .inr z
            · exact .inl (.inr z)
          | tmp =>
            rw [k, hf'] at ro
            obtain ⟨a, o', h1, h2, h3, h5⟩ := ro
            refine ⟨a, o', h1, s.none h2, h3, h5.same (cut_mono (fun _ _ q _ => q) fun b z => .inl (.inl ?_))⟩
            rcases z with (z | z) | z
            · exact .inl (.inl z)
            · exact .inr z
            · exact .inl (.inr z)
variable {x : Str} {p : Pos} {ps : List Str} {k : Nat} {CX : CXT} {cl : XC → Addr} {φ : Φ}
theorem m_call (cc : Callee X.prog X.w X.K X.mg X.base CX k x ps (spM X.K cl φ)) (hr : Room k X.A) (hg : Gl X x) (ht : Thr CX cl X P) (ha : PA X (e :: es) (tAs X.K P fs))
    (hdb : (x == ("__debug__" : Str)) = false := by decide) (he : starEach (e :: es) X.env = (false, eval e X.env) :: starEach es X.env := by rfl) (hpl : (backTo pos (starEach es X.env)).any (·.1) = false := by rfl) :
    PE X (.Call (.Name x p) (e :: es) [] pos) (tE X.K P (callE φ fs)) := by
  obtain ⟨fa, fd, F, m, kp, b⟩ := cc
  intro pins s σ H Q I h
  refine wpAny_Call_Name_kw (ld_glob I hg m ?_ hdb)
  refine PySem.W.callWith_K (h₀ := X.base) I.ok.mod.kin kp (thn (ha pos pins s σ H _ I (call_core (cl := cl) h)) fun us s1 ⟨vs, H1, I1, r, q⟩ => ⟨I1.kIn, ?_⟩) he hpl
  exact run_fnX F hr b (fun e s' hq => ht pins σ H1 s1 e s' I1 hq) I1 r q
theorem DenS.start {K : PySem.W.Frag} {H : Hp} {B : Addr → Prop} {vs : List V} {ds : List D} {N : List Str} (hB : ∀ b, B b → ∃ o, H b = some o ∧ stab o = false) (r : Reps K (cut H B) ds vs) : DenS K H H B (L2.start N vs) (stE N.length ds) := by
  have no : ∀ i a, ¬ ownAt (L2.start N vs) (stE N.length ds) i a := fun i a ⟨_, e, h2, h3⟩ => by
    unfold stE at h2
    by_cases hi : i < ds.length
    · rw [List.getElem?_append_left (by simpa using hi), List.getElem?_map] at h2
      cases q : ds[i]? with
      | none => rw [q] at h2; cases h2
      | some d => rw [q] at h2; cases h2; cases h3
    · rw [List.getElem?_append_right (by simpa using hi), List.getElem?_replicate] at h2
      split at h2 <;> cases h2
  refine ⟨⟨?_, Same.refl H, fun b z => ?_, fun i e he => ?_⟩, fun a ⟨i, z⟩ => (no i a z).elim, fun i j a z _ => (no i a z).elim⟩
  · unfold stE L2.start
    simp [r.length]
  · rcases z with ⟨i, z⟩ | z
    · exact (no i b z).elim
    · exact hB b z
  · unfold stE at he
    by_cases hi : i < ds.length
    · rw [List.getElem?_append_left (by simpa using hi), List.getElem?_map] at he
      cases q : ds[i]? with
      | none => rw [q] at he; cases he
      | some d =>
        rw [q] at he
        cases he
        obtain ⟨v, q1, q2⟩ := r.get q
        refine ⟨v, ?_, ?_⟩
        · unfold L2.start
          have : i < vs.length := by rw [← r.length]; exact hi
          rw [List.getElem?_append_left (by simpa using this), List.getElem?_map, q1]
          rfl
        · refine Rep.same (cut_mono (fun _ _ q _ => q) fun b z => .inl ?_) q2
          rcases z with (⟨j, z⟩ | z) | ⟨z, _⟩
          · exact (no j b z).elim
          · exact z
          · cases z
    · rw [List.getElem?_append_right (by simpa using hi), List.getElem?_replicate] at he
      split at he <;> cases he
theorem RetOk.fr {K : PySem.W.Frag} {H0 H' : Hp} {T : Addr → Prop} {v : V} {r : Res} (s : Same H0 H') (h : RetOk K H0 H' T v r) : RetOk K H0 H' T v ⟨r.k, r.fr || r.d.imm, r.d⟩ := by
  unfold RetOk at h ⊢
  cases k : r.k with
  | shr => rw [k] at h; exact Rep.fr s h
  | own =>
    rw [k] at h
    obtain ⟨a, o, h1, h2, h3, h4⟩ := h
    refine ⟨a, o, h1, h2, h3, ?_⟩
    rw [h4.imm, Bool.or_false]
    exact h4
  | old =>
    rw [k] at h
    obtain ⟨a, o, h1, h2, h3, h4⟩ := h
    refine ⟨a, o, h1, h2, h3, ?_⟩
    rw [h4.imm, Bool.or_false]
    exact h4
  | tmp =>
    rw [k] at h
    obtain ⟨a, o, h1, h2, h3, h4⟩ := h
    refine ⟨a, o, h1, h2, h3, ?_⟩
    rw [h4.imm, Bool.or_false]
    exact h4
section
variable {Pg : Program} {w : World} {K : PySem.W.Frag} {mg : Str → Option Value} {base : Heap}
theorem spM_len {φ : Φ} {n : Nat} (h : ∀ ds, ds.length ≠ n → φ ds = .stk) : ∀ vs H Q E, spM K cl φ vs H Q E → vs.length = n := fun vs H Q E ⟨ds, B, _, r, q⟩ => by
  rw [← r.length]
  by_cases e : ds.length = n
  · exact e
  · rw [h ds e] at q; exact q.elim
end
end Mir
set_option Elab.async false
set_option linter.all false
set_option maxRecDepth 100000
set_option maxHeartbeats 1000000
namespace Mir
open PySem L2
variable {X : Cx} {P : XP} {a b c e : Expr} {es : List Expr} {f g : FE} {fs : FEs} {pos : Pos}
theorem mg_nm {i : Nat} {x : Str} (hN : X.N.Nodup) (hi : X.N[i]? = some x) (hx : Loc X.env.scope x) (hf : X.fn x = true ∨ X.env.scope.names.lookup x = some .local := by first | exact .inl rfl | exact .inr rfl | assumption) : PG X (.Name x pos) (gOf X.K (.nm i)) := by
  unfold gOf
  exact pg_name hN hi hx hf
theorem mgs_nil : PGs X [] (gsOf X.K []) := by
  unfold gsOf
  exact pgs_nil
theorem mgs_cons {t : Tg} {ts : List Tg} (h1 : PG X e (gOf X.K t)) (h2 : PGs X es (gsOf X.K ts)) (hs : (assignEach (e :: es) X.env).map (·.2) = assign e X.env :: (assignEach es X.env).map (·.2) := by rfl) : PGs X (e :: es) (gsOf X.K (t :: ts)) := by
  unfold gsOf
  exact pgs_cons h1 h2 hs
theorem mg_tp {ts : List Tg} {k : Nat} (hc : X.calm = true) (h : PGs X es (gsOf X.K ts)) (hn : (assignEach es X.env).length = ts.length := by rfl) (hst : (assignEach es X.env).findIdx? (·.1) = none := by rfl) : PG X (.Tuple es k pos) (gOf X.K (.tp ts)) := by
  unfold gOf
  exact pg_tup hc h hn hst
mutual
def Tg.inK (k : Nat) : Tg → Bool
  | .nm i => decide (i < k)
  | .tp ts => Tg.inKs k ts
def Tg.inKs (k : Nat) : List Tg → Bool
  | [] => true
  | t :: ts => t.inK k && Tg.inKs k ts
end
mutual
theorem gmono {K : PySem.W.Frag} : ∀ t : Tg, GMono (gOf K t)
  | .nm i => by unfold gOf; exact mono_name
  | .tp ts => by unfold gOf; exact mono_tup (gsmono ts)
theorem gsmono {K : PySem.W.Frag} : ∀ ts : List Tg, GsMono (gsOf K ts)
  | [] => by unfold gsOf; exact monos_nil
  | t :: ts => by unfold gsOf; exact monos_cons (gmono t) (gsmono ts)
end
mutual
theorem glow {K : PySem.W.Frag} {k : Nat} : ∀ {t : Tg}, t.inK k = true → GLow k (gOf K t)
  | .nm i, h => by unfold gOf; exact low_name (by simpa [Tg.inK] using h)
  | .tp ts, h => by unfold gOf; exact low_tup (gslow (by simpa [Tg.inK] using h))
theorem gslow {K : PySem.W.Frag} {k : Nat} : ∀ {ts : List Tg}, Tg.inKs k ts = true → GsLow k (gsOf K ts)
  | [], _ => by unfold gsOf; exact lows_nil
  | t :: ts, h => by
    have h' : t.inK k = true ∧ Tg.inKs k ts = true := by simpa [Tg.inKs] using h
    unfold gsOf
    exact lows_cons (gmono t) (gsmono ts) (glow h'.1) (gslow h'.2)
end
def intsR : List D → R (List Int)
  | [] => .ok []
  | d :: r => do
    let i ← asI d
    let l ← intsR r
    .ok (i :: l)
def boolsR : List D → R (List Bool)
  | [] => .ok []
  | d :: r => do
    let i ← asB d
    let l ← boolsR r
    .ok (i :: l)
def allE (a : FE) : FE := fun ρ => do
  let x ← a ρ
  let ds ← asL x.d
  let l ← boolsR ds
  .ok (sc (.bl (l.all id)))
theorem intsR_exc {x : Xc} : ∀ {ds : List D}, intsR ds = .exc x → False
  | [], h => by simp [intsR] at h
  | d :: r, h => by
    simp only [intsR] at h
    cases e : asI d with
    | stk => simp [e] at h
    | exc y => exact asI_exc e
    | ok i =>
      cases e2 : intsR r with
      | stk => simp [e, e2] at h
      | exc y => exact intsR_exc e2
      | ok l => simp [e, e2] at h
theorem boolsR_exc {x : Xc} : ∀ {ds : List D}, boolsR ds = .exc x → False
  | [], h => by simp [boolsR] at h
  | d :: r, h => by
    simp only [boolsR] at h
    cases e : asB d with
    | stk => simp [e] at h
    | exc y => exact asB_exc e
    | ok i =>
      cases e2 : boolsR r with
      | stk => simp [e, e2] at h
      | exc y => exact boolsR_exc e2
      | ok l => simp [e, e2] at h
theorem Reps.ints {K : PySem.W.Frag} {G : Hp} : ∀ {ds : List D} {vs : List V} {l : List Int}, intsR ds = .ok l → Reps K G ds vs → vs = l.map V.int
  | [], vs, l, h, r => by simp [intsR] at h; subst h; exact r
  | d :: r, vs, l, h, ⟨x, xr, h1, h2, h3⟩ => by
    simp only [intsR] at h
    cases e : asI d with
    | stk => simp [e] at h
    | exc y => simp [e] at h
    | ok i =>
      cases e2 : intsR r with
      | stk => simp [e, e2] at h
      | exc y => simp [e, e2] at h
      | ok l' =>
        simp [e, e2] at h
        subst h
        rw [asI_ok e] at h2
        rw [h1, Reps.ints e2 h3, show x = .int i from h2]
        rfl
theorem Reps.bools {K : PySem.W.Frag} {G : Hp} : ∀ {ds : List D} {vs : List V} {l : List Bool}, boolsR ds = .ok l → Reps K G ds vs → vs = l.map V.bl
  | [], vs, l, h, r => by simp [boolsR] at h; subst h; exact r
  | d :: r, vs, l, h, ⟨x, xr, h1, h2, h3⟩ => by
    simp only [boolsR] at h
    cases e : asB d with
    | stk => simp [e] at h
    | exc y => simp [e] at h
    | ok i =>
      cases e2 : boolsR r with
      | stk => simp [e, e2] at h
      | exc y => simp [e, e2] at h
      | ok l' =>
        simp [e, e2] at h
        subst h
        rw [asB_ok e] at h2
        rw [h1, Reps.bools e2 h3, show x = .bl i from h2]
        rfl
variable {p : Pos}
theorem m_all (hc : X.calm = true) (hg : Gl X "all") (hm : X.mg "all" = none) (ha : PE X a (tE X.K P f)) (he : starEach [a] X.env = [(false, eval a X.env)] := by rfl) : PE X (.Call (.Name "all" p) [a] [] pos) (tE X.K P (allE f)) := by
  refine PE.imp (pe_callB (call_all hc) hg hm (by decide +kernel) (ma_cons ha ma_nil he) (he := he)) ?_
  intro σ H Q h
  refine call1 h ?_
  intro H0 B ρ v H' r d0 d g s h
  cases e : asL r.d with
  | stk => simp [e] at h
  | exc x => exact (asL_exc e).elim
  | ok ds =>
    cases e2 : boolsR ds with
    | stk => simp [e, e2] at h
    | exc x => exact (boolsR_exc e2).elim
    | ok l =>
      simp only [e, e2, R.ok_bind] at h
      obtain ⟨a, xs, h1, h2, h3⟩ := g.list (asL_ok e)
      exact ⟨a, l, by rw [h1], by rw [← Reps.bools e2 h3]; exact .inl h2, h _ H' (Same.refl _) (GoodR.sc (show Rep _ _ (.bl _) _ from rfl))⟩
inductive Ty where
  | int | bool | list | tuple | str
  deriving DecidableEq
def Ty.nm : Ty → String
  | .int => "int"
  | .bool => "bool"
  | .list => "list"
  | .tuple => "tuple"
  | .str => "str"
def isTy : Ty → D → R Bool
  | .int, .int _ => .ok true
  | .int, .bl _ => .ok true
  | .bool, .bl _ => .ok true
  | .list, .lst _ => .ok true
  | .tuple, .tup _ => .ok true
  | .str, .str _ => .ok true
  | _, .obj _ _ => .stk
  | _, .exc _ _ => .stk
  | _, .any => .stk
  | _, .dct _ _ => .stk
  | _, _ => .ok false
def isiE (t : Ty) (a : FE) : FE := fun ρ => do
  let x ← a ρ
  let b ← isTy t x.d
  .ok (sc (.bl b))
def tyD : D → String
  | .non => "NoneType"
  | .bl _ => "bool"
  | .int _ => "int"
  | .str _ => "str"
  | .lst _ => "list"
  | .tup _ => "tuple"
  | _ => ""
theorem tyOf_rd {K : PySem.W.Frag} {H : Hp} {a : Addr} {xs : List V} (h : Rd H a (.lst xs)) : TyOf K H (.ref a) (.type "list") := by
  rcases h with h | ⟨o, h⟩
  · exact .lst h
  · exact .frz h
theorem GoodR.ty {K : PySem.W.Frag} {H0 H H' : Hp} {B : Addr → Prop} {v : V} {r : Res} (g : GoodR K H0 H H' B v r) (h1 : ∀ c ds, r.d ≠ .obj c ds) (h2 : ∀ c ds, r.d ≠ .exc c ds) (h3 : r.d ≠ .any) (h4 : ∀ c ds, r.d ≠ .dct c ds) : TyOf K H' v (.type (tyD r.d)) := by
  cases k : r.d with
  | lst ds => obtain ⟨a, xs, q1, q2, q3⟩ := g.list k; rw [q1]; exact tyOf_rd q2
  | non => have := g.shr_of (by rw [k]; rfl); rw [k] at this; rw [show v = .non from this]; exact .non
  | bl b => have := g.shr_of (by rw [k]; rfl); rw [k] at this; rw [show v = .bl b from this]; exact .bl b
  | int b => have := g.shr_of (by rw [k]; rfl); rw [k] at this; rw [show v = .int b from this]; exact .int b
  | str b => have := g.shr_of (by rw [k]; rfl); rw [k] at this; rw [show v = .str b from this]; exact .str b
  | tup ds =>
    obtain ⟨a, xs, q1, q2, q3⟩ := g.tuple k
    rw [q1]
    exact .tup q2
  | obj c b => exact absurd k (h1 _ _)
  | exc c b => exact absurd k (h2 _ _)
  | any => exact absurd k h3
  | dct c b => exact absurd k (h4 _ _)
theorem isTy_exc {t : Ty} {d : D} {x : Xc} (h : isTy t d = .exc x) : False := by
  cases t <;> cases d <;> simp [isTy] at h
theorem isTy_obj {t : Ty} {d : D} {b : Bool} (h : isTy t d = .ok b) : (∀ c ds, d ≠ .obj c ds) ∧ (∀ c ds, d ≠ .exc c ds) ∧ d ≠ .any ∧ ∀ c ds, d ≠ .dct c ds := by
  cases t <;> cases d <;> simp [isTy] at h <;> exact ⟨fun _ _ z => (by cases z), fun _ _ z => (by cases z), fun z => (by cases z), fun _ _ z => (by cases z)⟩
theorem kit_ok {K : PySem.W.Frag} {t : Ty} {d : D} {b : Bool} (h : isTy t d = .ok b) : PySem.W.kitOne K (.type (tyD d)) (.type t.nm) = some b := by
  cases t <;> cases d <;> simp [isTy] at h <;> subst h <;> rfl
theorem m_isi {t : Ty} {y : Str} {p2 : Pos} (hg : Gl X "isinstance") (hm : X.mg "isinstance" = none) (ha : PE X a (tE X.K P f)) (hb : PE X (.Name y p2) (tC (.ty t.nm))) (he : starEach [a, .Name y p2] X.env = [(false, eval a X.env), (false, eval (.Name y p2) X.env)] := by rfl)
    (he2 : starEach [.Name y p2] X.env = [(false, eval (.Name y p2) X.env)] := by rfl) : PE X (.Call (.Name "isinstance" p) [a, .Name y p2] [] pos) (tE X.K P (isiE t f)) := by
  refine PE.imp (pe_callB call_isi hg hm (by decide +kernel) (pa_cons ha (pa_cons hb pa_nil he2) (by rw [he, he2])) (he := by rw [he, he2]) (hpl := by rw [he2]; rfl)) ?_
  intro σ H Q h
  refine t1 (q := fun v H1 => ∃ x t' n b, [v, V.ty t.nm] = [x, .ty n] ∧ TyOf X.K H1 x t' ∧ PySem.W.kitOne X.K t' (.type n) = some b ∧ Q (.bl b) H1) h ?_
  intro H0 B ρ v H' r d g s h
  cases e : isTy t r.d with
  | stk => simp [e] at h
  | exc x => exact (isTy_exc e).elim
  | ok b =>
    simp only [e, R.ok_bind] at h
    exact ⟨v, _, t.nm, b, rfl, g.ty (isTy_obj e).1 (isTy_obj e).2.1 (isTy_obj e).2.2.1 (isTy_obj e).2.2.2, kit_ok e, h _ H' (Same.refl _) (GoodR.sc (show Rep _ _ (.bl _) _ from rfl))⟩
end Mir
set_option Elab.async false
set_option linter.all false
set_option maxRecDepth 100000
set_option maxHeartbeats 1000000
namespace Mir
open PySem L2
variable {X : Cx} {P : XP} {a b c e : Expr} {es : List Expr} {f g : FE} {fs : FEs} {pos p : Pos}
theorem Reps.rep {K : PySem.W.Frag} {G : Hp} {ds : List D} {vs : List V} (r : Reps K G ds vs) : ∀ n : Nat, Reps K G (List.replicate n ds).flatten (List.replicate n vs).flatten
  | 0 => rfl
  | n + 1 => by
    rw [List.replicate_succ, List.flatten_cons, List.replicate_succ, List.flatten_cons]
    exact r.append (Reps.rep r n)
theorem twoE {k : Res → Res → R Res} {F : FE} (hF : F = fun ρ => f ρ >>= fun x => g ρ >>= fun y => k x y) {σ : St} {H : Hp} {Q : VK} {q : List V → Hp → Prop} (h : tE X.K P F σ H Q)
    (hk : ∀ H0 B ρ v w H' r r', DenE X.K H0 H B σ ρ → DenE X.K H0 H' B σ ρ → GoodR X.K H0 H H' B v r → GoodR X.K H0 H H' B w r' → Same H H' → (match k r r' with
      | .ok r1 => ∀ v1 H1, Same H' H1 → GoodR X.K H0 H H1 B v1 r1 → Q v1 H1
      | .exc x => P.p x σ H'
      | .stk => False) → q [v, w] H') : tAs X.K P [f, g] σ H q := by
  have e : F = fun ρ => evs [f, g] ρ >>= fun rs => match rs with | [x, y] => k x y | _ => .stk := by
    rw [hF]
    funext ρ
    unfold evs evs
    cases f ρ with
    | ok r =>
      show (g ρ >>= fun y => k r y) = _
      cases g ρ with
      | ok r' => rfl
      | _ => rfl
    | _ => rfl
  rw [e] at h
  refine tA1 h ?_
  intro H0 B ρ vs H' rs d0 d gs s h
  match vs, rs, gs with
  | [], rs, gs => have e : rs = [] := gs; subst e; exact h.elim
  | [v], _, ⟨r, rr, e1, g1, g2⟩ =>
    subst e1
    rw [show rr = [] from g2] at h
    exact h.elim
  | [v, w], _, ⟨r, rr, e1, g1, r2, rr2, e2, g2, g3⟩ =>
    subst e1; subst e2
    rw [show rr2 = [] from g3] at h
    exact hk H0 B ρ v w H' r r2 d0 d g1 g2 s h
  | _ :: _ :: _ :: _, _, ⟨r, rr, e1, g1, r2, rr2, e2, g2, r3, rr3, e3, _⟩ =>
    subst e1; subst e2; subst e3
    exact h.elim
end Mir
set_option Elab.async false
set_option linter.all false
set_option maxRecDepth 100000
set_option maxHeartbeats 1000000
namespace Mir
open PySem L2
variable {X : Cx} {P : XP} {pins : List (Addr × Obj)} {σ : St} {H H' : Hp} {s s' : Shared} {ea C : Addr}
theorem ObjOk.there {Pg : Program} {w : World} {H : Hp} {h : Heap} {a : Addr} {o : HO} (x : ObjOk Pg w H h a o) : ∃ ob, h.get? a = some ob := by
  cases o with
  | lst xs => obtain ⟨_, _, _, _, e⟩ := x; exact ⟨_, e⟩
  | tup xs => obtain ⟨_, _, _, p⟩ := x; obtain ⟨o, e, _⟩ := p; exact ⟨o, e⟩
  | dK kvs => obtain ⟨_, _, _, _, o, _, _, e, _⟩ := x; exact ⟨o, e⟩
  | dT kvs => obtain ⟨_, _, _, _, o, _, _, e, _⟩ := x; exact ⟨o, e⟩
  | set S n => obtain ⟨o, _, _, _, e, _⟩ := x; exact ⟨o, e⟩
  | ins C dx fs => obtain ⟨_, _, _, e, _⟩ := x; exact ⟨_, e⟩
  | own y => exact x
  | xd fs => obtain ⟨_, ⟨o, _, _, e, _⟩, _⟩ := x; exact ⟨o, e⟩
  | rng lo hi => obtain ⟨_, _, _, e⟩ := x; exact ⟨_, e⟩
  | frz ob u => obtain ⟨e, _⟩ := x; exact ⟨_, e⟩
  | tbl ps => exact ⟨_, x⟩
  | met f y => exact ⟨_, x⟩
  | ext φ => obtain ⟨_, e, _⟩ := x; exact e
structure Fly (Pg : Program) (w : World) (l : List PySem.Env) (H : Hp) (s : Shared) (ea C : Addr) (H' : Hp) (s' : Shared) : Prop where
  os : s'.os = s.os
  bare : PyProof.Rows.AllBare s'.gens
  hok : HOk Pg w H' s'.heap
  un : Un (frs l) [] H H' s.heap s'.heap
  new : s.heap.get? ea = none
  unt : H' ea = none
  fly : ∃ a0 Bh, Heap.FlyingW Bh l ea (.ref C) a0 s'.heap ∧ (∀ b o o', s.heap.get? b = some o → b ∉ frs l → s'.heap.get? b = some o' → Bh.get? b = some o') ∧ (∀ b u o', H' b = some u → s'.heap.get? b = some o' → Bh.get? b = some o')
def CXM (Pg : Program) (w : World) : CXT := fun outer H s E e s' => ∃ ea C H', e = .ref ea ∧ Fly Pg w outer H s ea C H' s' ∧ E (.ref C) none H'
theorem hok_fly {Pg : Program} {w : World} {h h' Bh : Heap} (x : HOk Pg w H h) (k : ∀ b u o', H b = some u → h.get? b = some o' → Bh.get? b = some o') (st : Bh.StaysIn h') : HOk Pg w H h' := fun a o e =>
  (x a o e).stay (fun b u hb q => by
    rcases hb with hb | hb
    · exact st _ _ (k b o u (by rw [hb]; exact e) q)
    · exact st _ _ (k b _ u hb q)) (fun _ q => q) fun _ _ q => q
theorem un_fly {Pg : Program} {w : World} {fs : List Addr} {H0 : Hp} {h0 h h' Bh : Heap} (u : Un fs [] H0 H h0 h) (ok : HOk Pg w H h) (hk : ∀ b o o', h0.get? b = some o → b ∉ fs → h.get? b = some o' → Bh.get? b = some o') (ht : ∀ b u o', H b = some u → h.get? b = some o' → Bh.get? b = some o') (st : Bh.StaysIn h')
    (sl : ∀ b o, b ∈ fs → h.get? b = some o → ∃ s, h'.get? b = some { o with slots := s }) : Un fs [] H0 H h0 h' := by
  refine ⟨fun b o q n hb hx => st _ _ (hk b o o q hb (u.keep b o q n hb hx)), fun b o q n hb hx => ?_, u.free, fun b o q hx => ?_, u.tups, u.frzs, u.tbls⟩
  · obtain ⟨s1, e1⟩ := u.slot b o q n hb hx
    obtain ⟨s2, e2⟩ := sl b _ hb e1
    exact ⟨s2, e2⟩
  · obtain ⟨o', e⟩ := u.there b o q hx
    by_cases hb : b ∈ fs
    · obtain ⟨s2, e2⟩ := sl b _ hb e
      exact ⟨_, e2⟩
    · exact ⟨o', st _ _ (hk b o o' q hb e)⟩
theorem frs_cons {env : PySem.Env} {l : List PySem.Env} {L : Addr} (h : env.frame = some L) : frs (env :: l) = L :: frs l := by unfold frs; rw [List.filterMap_cons, h]
theorem fly_out {M : Model} {E : Value → Shared → Prop} {Q : Unit → Shared → Prop} (I : Inv X pins σ H s) (hx : X.ex = []) (hst : X.stack = X.env :: X.outer) (hf : X.env.frame = some X.env.locals) (F : Fly X.prog X.w X.stack H s ea C H' s')
    (hQ : ∀ h', Fly X.prog X.w X.outer X.H₀ X.s₀ ea C H' { s' with heap := h' } → Q () { s' with heap := h' }) : wpAny M X.A (leaving X.env (.ref ea)) Q E s' := by
  obtain ⟨a0, Bh, fl, cov, trk⟩ := F.fly
  have I' : Inv X pins σ H' s' := I.call' (ch := []) F.os F.un F.hok F.bare (fun b z => absurd z (by simp))
  rw [hst] at fl
  refine wpAny_leaves_onW (by rw [I.ok.frames, hst]) hf fl fun h' x1 x2 => hQ h' ?_
  have ne : ∀ b o, X.s₀.heap.get? b = some o → b ≠ X.env.locals := fun b o e => Nat.ne_of_lt (Nat.lt_of_lt_of_le (Heap.lt_size e) I.ok.above)
  have cov' : ∀ b o o', X.s₀.heap.get? b = some o → b ∉ frs X.outer → s'.heap.get? b = some o' → Bh.get? b = some o' := fun b o o' e n q => by
    obtain ⟨o1, e1⟩ := I.base.there b o e (by rw [hx]; simp)
    refine cov b o1 o' e1 ?_ q
    rw [hst, frs_cons hf]
    simp only [List.mem_cons, not_or]
    exact ⟨ne b o e, n⟩
  have base : Un (frs X.outer) [] X.H₀ H' X.s₀.heap s'.heap := by
    have := I'.base
    rw [hx] at this
    exact this
  refine ⟨F.os.trans I.os, F.bare, hok_fly F.hok trk x1.1, un_fly base F.hok cov' trk x1.1 (fun b o hb q => ?_), ?_, F.unt, a0, Bh, x1, fun b o o' e n q => ?_, fun b u o' e q => ?_⟩
  · obtain ⟨_, o1, e1, nf⟩ := fl.2.2.1.mem (b := b) (by have := frs_cons (l := X.outer) hf; unfold frs at this; rw [this]; exact List.mem_cons_of_mem _ hb)
    rw [q] at e1; cases e1
    exact x2 b o q nf
  · cases q : X.s₀.heap.get? ea with
    | none => rfl
    | some o =>
      obtain ⟨o1, e1⟩ := I.base.there ea o q (by rw [hx]; simp)
      rw [F.new] at e1; cases e1
  · obtain ⟨o1, e1⟩ := base.there b o e (by simp)
    have q1 := cov' b o o1 e n e1
    have := x1.1 _ _ q1
    rw [show ({ s' with heap := h' } : Shared).heap.get? b = some o' from q] at this
    cases this
    exact q1
  · obtain ⟨o1, e1⟩ := ObjOk.there (F.hok b u e)
    have q1 := trk b u o1 e e1
    have := x1.1 _ _ q1
    rw [show ({ s' with heap := h' } : Shared).heap.get? b = some o' from q] at this
    cases this
    exact q1
end Mir
set_option Elab.async false
set_option linter.all false
set_option maxRecDepth 100000
set_option maxHeartbeats 1000000
namespace Mir
open PySem L2
variable {X : Cx} {P : XP} {a b c e : Expr} {es : List Expr} {f g : FE} {fs : FEs} {pos : Pos}
def PX (cl : XC → Addr) (E : XK) : XP := ⟨fun x _ H => ∀ H', Same H H' → E (.ref (cl x.c)) none H', fun h s H' s' => h H' (s.trans s')⟩
section
variable {Pg : Program} {w : World} {K : PySem.W.Frag} {mg : Str → Option Value} {base : Heap} {cl : XC → Addr} {N : List Str} {qual : Str} {scope : Scope} {fa : Addr} {cdv : Value} {A : Around} {outer : List PySem.Env} {s0 : Shared} {H0 : Hp} {E : XK}
theorem thrX : Thr (CXM Pg w) cl (cxOf (CXM Pg w) Pg w K mg base N qual scope fa cdv A outer s0 H0 E) (PX cl E) := by
  rintro pins σ H s e s' I ⟨ea, C, H', rfl, F, x, hx, px⟩
  refine fly_out I rfl rfl rfl F fun h' F' => ⟨ea, C, H', rfl, F', ?_⟩
  rw [hx]
  exact px H' (Same.refl H')
theorem passX : PassesOwn (model Pg w) (cxOf (CXM Pg w) Pg w K mg base N qual scope fa cdv A outer s0 H0 E).A (cxOf (CXM Pg w) Pg w K mg base N qual scope fa cdv A outer s0 H0 E).env (cxOf (CXM Pg w) Pg w K mg base N qual scope fa cdv A outer s0 H0 E).xe := PassesOwn.leaving
theorem thrC {X : Cx} {cl : XC → Addr} : Thr (CXM Pg w) cl X XP0 := by
  rintro pins σ H s e s' I ⟨ea, C, H', rfl, F, x, hx, px⟩
  exact px.elim
theorem m_fnX {x : Str} {ps : List Str} {k : Nat} {st : Stmt} {F : FS} {f : Addr} {fd : FuncData} (Fu : Fun K x x st f fd) (S : FnScope N ps (defScope st))
    (hb : ∀ (f : Addr) (cdv : Value) (A : Around) (outer : List PySem.Env) (s : Shared) (H : Hp) (E : XK), Room k (A.deeper (PyProof.Rows.envOfC x (defScope st) s.heap.objs.size f cdv)) →
      PSs (cxOf (CXM Pg w) Pg w K mg base N x (defScope st) f cdv A outer s H E) (defBody st) (tS K (PX cl E) F)) : FnOk Pg w K mg base (CXM Pg w) (k + 1) f fd ps (spM K cl (defR ps.length N.length F)) := by
  obtain ⟨oc, od, kV, doc, pm, an, cdv, ct, osl, rfl, lk, hcd⟩ := Fu.ex
  refine fn_of lk hcd S (spM_len fun ds e => ?_) fun A outer s H vs Q E hr hsp => ⟨_, hb f cdv A outer s H E hr, ?_⟩
  · unfold defR
    rw [if_neg e]
  · obtain ⟨ds, B, hB, r, q⟩ := hsp
    refine ⟨H, B, stE N.length ds, DenS.start hB r, ?_⟩
    unfold defR at q
    by_cases e : ds.length = ps.length
    · rw [if_pos e] at q
      cases e2 : F (stE N.length ds) with
      | nx ρ' => simp only [e2] at q; exact fun σ' H' d' x' => q .non H' d'.e.sam (show V.non = V.non from rfl)
      | rt r => simp only [e2] at q; exact fun v H' s' ro => q v H' s' (ro.fr s')
      | bk ρ' => simp only [e2] at q
      | ct ρ' => simp only [e2] at q
      | exc z ρ' => simp only [e2] at q; exact fun σ' H' d' x' H'' s'' => q H'' (d'.e.sam.trans s'')
      | stk => simp only [e2] at q
    · rw [if_neg e] at q; exact q.elim
theorem m_defX {x : Str} {ps : List Str} {k : Nat} {st : Stmt} {F : FS} (Fa : FunAt K mg x st ps) (S : FnScope N ps (defScope st))
    (hb : ∀ (f : Addr) (cdv : Value) (A : Around) (outer : List PySem.Env) (s : Shared) (H : Hp) (E : XK), Room k (A.deeper (PyProof.Rows.envOfC x (defScope st) s.heap.objs.size f cdv)) →
      PSs (cxOf (CXM Pg w) Pg w K mg base N x (defScope st) f cdv A outer s H E) (defBody st) (tS K (PX cl E) F)) : Callee Pg w K mg base (CXM Pg w) (k + 1) x ps (spM K cl (defR ps.length N.length F)) :=
  let ⟨f, fd, Fu, m, b⟩ := Fa
  ⟨f, fd, m_fnX Fu S hb, m, Fu.kp, b⟩
end
end Mir
set_option Elab.async false
set_option linter.all false
set_option maxRecDepth 100000
set_option maxHeartbeats 1900000
namespace Mir
open PySem L2
open PySem.W (Frag looks_findIn looks_find looks_mroIn findIn mroIn specialIn takesIn clsIn findObj notCls subIn looks_subIn Looks)
section
variable {prog : Program} {w : World} {A : Around} {E : Value → Shared → Prop} {s : Shared} {K : Frag} {C x : Addr} {ox : Obj}
theorem ExcAt.type {M : Model} {h : Heap} (I : ExcAt x C h) : Looks M h (typeOf (.ref x)) (.ref C) := by
  obtain ⟨o, e, c, _⟩ := I
  intro A Q E s k q
  exact wpAny_bind (wpAny_loadPart (k _ _ e) (wpAny_pure (c ▸ q)))
end
end Mir
set_option Elab.async false
set_option linter.all false
set_option maxRecDepth 100000
set_option maxHeartbeats 1000000
namespace Mir
open PySem L2
variable {X : Cx} {P : XP} {a b c e : Expr} {es : List Expr} {f g : FE} {fs : FEs} {pos p : Pos}
end Mir
set_option Elab.async false
set_option linter.all false
set_option maxRecDepth 100000
set_option maxHeartbeats 1000000
namespace Mir
open PySem L2
variable {X : Cx} {P : XP} {pins : List (Addr × Obj)} {σ : St} {H H' : Hp} {s s' : Shared} {ea C : Addr}
section
variable {Pg : Program} {w : World} {l : List PySem.Env} {M : Model} {A : Around} {E : Value → Shared → Prop} {R : Shared → Prop}
theorem Fly.at {h' Bh : Heap} {a0 : Value} (F : Fly Pg w l H s ea C H' s') (fl : Heap.FlyingW Bh l ea (.ref C) a0 s'.heap) (cov : ∀ b o o', s.heap.get? b = some o → b ∉ frs l → s'.heap.get? b = some o' → Bh.get? b = some o')
    (trk : ∀ b u o', H' b = some u → s'.heap.get? b = some o' → Bh.get? b = some o') (fl' : Heap.FlyingW Bh l ea (.ref C) a0 h') (up : s'.heap.UpToSlots h') : Fly Pg w l H s ea C H' { s' with heap := h' } := by
  have same : ∀ b o1 o', Bh.get? b = some o1 → h'.get? b = some o' → o1 = o' := fun b o1 o' q e => Option.some.inj ((fl'.1 _ _ q).symm.trans e)
  refine ⟨F.os, F.bare, hok_fly F.hok trk fl'.1, un_fly F.un F.hok cov trk fl'.1 fun b o hb q => ?_, F.new, F.unt, a0, Bh, fl', fun b o o' e n q => ?_, fun b u o' e q => ?_⟩
  · obtain ⟨_, o1, e1, nf⟩ := fl.2.2.1.mem (b := b) hb
    rw [q] at e1; cases e1
    exact up b o q nf
  · obtain ⟨o1, e1⟩ := F.un.there b o e (by simp)
    have q1 := cov b o o1 e n e1
    exact same b o1 o' q1 q ▸ q1
  · obtain ⟨o1, e1⟩ := ObjOk.there (F.hok b u e)
    have q1 := trk b u o1 e e1
    exact same b o1 o' q1 q ▸ q1
theorem Fly.again (F : Fly Pg w l H s ea C H' s') (q : ∀ h', Fly Pg w l H s ea C H' { s' with heap := h' } → R { s' with heap := h' }) : wpAny M A (setFlight (.ref ea) none) (fun _ s4 => R s4) E s' := by
  obtain ⟨a0, Bh, fl, cov, trk⟩ := id F.fly
  exact PyProof.Rows.lands_againW fl fun h1 x1 u1 => q h1 (F.at fl cov trk x1 u1)
theorem Fly.exc (F : Fly Pg w l H s ea C H' s') : ExcAt ea C s'.heap := by
  obtain ⟨a0, Bh, fl, _, _⟩ := F.fly
  obtain ⟨o, vs, e1, e2, e3, _⟩ := fl.first
  exact ⟨o, e1, e2, by unfold PySem.W.notCls; rw [e3]⟩
end
theorem Fly.inv (F : Fly X.prog X.w X.stack H s ea C H' s') (I : Inv X pins σ H s) : Inv X pins σ H' s' := I.call' (ch := []) F.os F.un F.hok F.bare fun b z => absurd z (by simp)
end Mir
set_option Elab.async false
set_option linter.all false
set_option maxRecDepth 100000
set_option maxHeartbeats 1000000
namespace Mir
open PySem L2
variable {X : Cx} {P : XP} {pins : List (Addr × Obj)} {σ : St} {H H' : Hp} {s s' : Shared} {ea C : Addr}
section
variable {i k : Nat} {y n cx : Str} {np p1 p2 p3 hpos pos : Pos} {T : Addr}
end
end Mir
set_option Elab.async false
set_option linter.all false
set_option maxRecDepth 100000
set_option maxHeartbeats 1000000
namespace Mir
open PySem L2
variable {K : PySem.W.Frag}
def noL (K : PySem.W.Frag) : Bool := K.all fun p => !(p.2.cls == Value.type "list")
theorem noL_of (h : noL K = true) {a : Addr} {o : Obj} (e : K.lookup a = some o) : o.cls ≠ .type "list" := fun c => by
  have m : (a, o) ∈ K := by
    clear h c
    induction K with
    | nil => cases e
    | cons p r ih =>
      obtain ⟨b, u⟩ := p
      rw [List.lookup_cons] at e
      cases q : a == b with
      | true => rw [q] at e; cases e; rw [eq_of_beq q]; exact List.mem_cons_self
      | false => rw [q] at e; exact List.mem_cons_of_mem _ (ih e)
  have := List.all_eq_true.mp h _ m
  rw [c] at this
  simp at this
theorem reps_ints {G : Hp} : ∀ ns : List Int, Reps K G (ns.map .int) (ns.map V.int)
  | [] => rfl
  | n :: r => ⟨.int n, r.map V.int, rfl, rfl, reps_ints r⟩
theorem law_sp {φ : Φ} {H : Hp} {a : Addr} {ns : List Int} (hL : noL K = true) (h : φ [.lst (ns.map .int)] = .ok (sc (.bl true))) (hS : SqL K H a (ns.map V.int)) : spM K (clK K) φ [.ref a] H (fun v _ => v = .bl true) fun _ _ _ => False := by
  have rd : Rd H a (.lst (ns.map V.int)) := by
    rcases hS with q | ⟨o, its, n, e, c, _⟩
    · exact q
    · exact absurd c (noL_of hL e)
  refine ⟨[.lst (ns.map .int)], fun _ => False, fun _ z => z.elim, ⟨.ref a, [], rfl, ⟨a, ns.map V.int, rfl, ?_, reps_ints ns⟩, rfl⟩, ?_⟩
  · rcases rd with q | ⟨o, q⟩
    · exact .inl (cut_some.mpr ⟨fun z => z, q⟩)
    · exact .inr ⟨o, cut_some.mpr ⟨fun z => z, q⟩⟩
  · rw [h]
    exact fun v H' _ r => r
abbrev topM (T : Addr) : List Value := [.ref T, .type "ValueError", .type "Exception", .type "BaseException", .type "object"]
structure XOne (K : PySem.W.Frag) (T : Addr) (n : Str) (C : Addr) : Prop where
  ns : PySem.W.nsIn K mainGlobals n = some (some (.ref C))
  lk : ∃ od cd sl, K.lookup C = some ⟨.type "type", od, .cls cd, sl⟩ ∧ cd.mro = .ref C :: topM T
  ga : PySem.W.findIn K (.ref C) "__getattribute__" = some (some (.builtin "BaseException.__getattribute__"))
  gh : PySem.W.findIn K (.ref C) "__getattr__" = some none
  cl : PySem.W.findIn K (.ref C) "__class__" = some (some (.builtin "object.__class__"))
section
variable {T C : Addr} {n : Str} {l : List Value}
end
structure XRaw (K : PySem.W.Frag) (T : Addr) (n : Str) (C : Addr) (od : Option Addr) (cd : ClassData) (sl : Array (Option Value)) : Prop where
  ns : PySem.W.nsIn K mainGlobals n = some (some (.ref C))
  lk : K.lookup C = some ⟨.type "type", od, .cls cd, sl⟩
  mro : cd.mro = .ref C :: topM T
  ga : PySem.W.findIn K (.ref C) "__getattribute__" = some (some (.builtin "BaseException.__getattribute__"))
  gh : PySem.W.findIn K (.ref C) "__getattr__" = some none
  cl : PySem.W.findIn K (.ref C) "__class__" = some (some (.builtin "object.__class__"))
theorem XRaw.one {T C : Addr} {n : Str} {od : Option Addr} {cd : ClassData} {sl : Array (Option Value)} (x : XRaw K T n C od cd sl) : XOne K T n C := ⟨x.ns, ⟨od, cd, sl, x.lk, x.mro⟩, x.ga, x.gh, x.cl⟩
structure At (K : PySem.W.Frag) (x : Str) (st : Stmt) (f : Addr) (oc kV doc pm cdv ct : Value) (od an : Option Addr) (sl : Array (Option Value)) : Prop where
  ns : PySem.W.nsIn K mainGlobals x = some (some (.ref f))
  lk : K.lookup f = some ⟨oc, od, .func (PySem.W.fnOf x x (defArgs st) (defBody st) (defScope st) .none kV doc pm an cdv ct), sl⟩
  cd : PySem.W.codeIn K cdv x = true
  kp : PySem.W.keepIn K (.ref f) = true
end Mir
set_option Elab.async false
set_option linter.all false
set_option maxRecDepth 100000
set_option maxHeartbeats 1000000
namespace Mir
open PySem L2
variable {X : Cx} {P : XP} {a b c e : Expr} {es : List Expr} {f g : FE} {fs : FEs} {pos p : Pos}
def minE (a b : FE) : FE := fun ρ => do
  let x ← a ρ
  let y ← b ρ
  let i ← asI x.d
  let j ← asI y.d
  .ok (sc (.int (if j < i then j else i)))
theorem m_two {n : Str} {id : String} {G : Int → Int → Int} {F : FE} (hF : F = fun ρ => f ρ >>= fun x => g ρ >>= fun y => asI x.d >>= fun i => asI y.d >>= fun j => .ok (sc (.int (G i j))))
    (hr : CallR X (.builtin id) (fun xs H Q => ∃ i j, xs = [.int i, .int j] ∧ Q (.int (G i j)) H)) (hg : Gl X n) (hm : X.mg n = none) (hv : bootBuiltins n = some (.builtin id)) (hn : n ≠ "__name__") (hd : (n == ("__debug__" : Str)) = false) (ha : PE X a (tE X.K P f)) (hb : PE X b (tE X.K P g))
    (he : starEach [a, b] X.env = [(false, eval a X.env), (false, eval b X.env)]) (he2 : starEach [b] X.env = [(false, eval b X.env)]) : PE X (.Call (.Name n p) [a, b] [] pos) (tE X.K P F) := by
  refine PE.imp (pe_callB hr hg hm hv (ma_cons ha (ma_cons hb ma_nil he2) (by rw [he, he2])) hn hd (he := by rw [he, he2]) (hpl := by rw [he2]; rfl)) ?_
  intro σ H Q h
  refine twoE hF h ?_
  intro H0 B ρ v w H' r r' d0 d g1 g2 s h
  cases e1 : asI r.d with
  | stk => simp [e1] at h
  | exc x => exact (asI_exc e1).elim
  | ok i =>
    cases e2 : asI r'.d with
    | stk => simp [e1, e2] at h
    | exc x => exact (asI_exc e2).elim
    | ok j =>
      simp only [e1, e2, R.ok_bind] at h
      exact ⟨i, j, by rw [g1.int (asI_ok e1), g2.int (asI_ok e2)], h _ H' (Same.refl _) (GoodR.sc (show Rep _ _ (.int _) _ from rfl))⟩
theorem m_min (hc : X.calm = true) (hg : Gl X "min") (hm : X.mg "min" = none) (ha : PE X a (tE X.K P f)) (hb : PE X b (tE X.K P g)) (he : starEach [a, b] X.env = [(false, eval a X.env), (false, eval b X.env)] := by rfl) (he2 : starEach [b] X.env = [(false, eval b X.env)] := by rfl) :
    PE X (.Call (.Name "min" p) [a, b] [] pos) (tE X.K P (minE f g)) := m_two (G := fun i j => if j < i then j else i) rfl (call_min2 hc) hg hm (by decide +kernel) (by decide) (by decide) ha hb he he2
end Mir
set_option Elab.async false
set_option linter.all false
set_option maxRecDepth 100000
set_option maxHeartbeats 1000000
namespace L2
open PySem PySem.Spec PyProof.Rows
end L2
namespace Mir
open PySem L2
variable {X : Cx} {P : XP} {a b c e : Expr} {es : List Expr} {f g : FE} {fs : FEs} {pos p : Pos}
def enmD (ds : List D) : List D := ds.zipIdx.map fun x => .tup [.int x.2, x.1]
end Mir
set_option Elab.async false
set_option linter.all false
set_option maxRecDepth 100000
set_option maxHeartbeats 1000000
namespace L2
open PySem PySem.Spec PyProof.Rows
end L2
set_option Elab.async false
set_option linter.all false
set_option maxRecDepth 100000
set_option maxHeartbeats 1000000
namespace Mir
open PySem L2
variable {X : Cx} {P : XP} {a b c e : Expr} {es : List Expr} {f g : FE} {fs : FEs} {pos p : Pos}
def asT : D → R (List D)
  | .tup ds => .ok ds
  | _ => .stk
theorem asT_ok {d : D} {i : List D} (h : asT d = .ok i) : d = .tup i := by cases d <;> simp [asT] at h; rw [h]
theorem asT_exc {d : D} {x : Xc} (h : asT d = .exc x) : False := by cases d <;> simp [asT] at h
def slcTE (a : FE) (lo hi : FO) : FE := fun ρ => do
  let x ← a ρ
  let l ← lo ρ
  let h ← hi ρ
  let ds ← asT x.d
  if HT.sIx ds.length 0 l = 0 ∧ HT.sIx ds.length ds.length h = ds.length then .stk else .ok ⟨.shr, x.fr, .tup (cutD ds l h)⟩
theorem GoodR.str {H0 H H' : Hp} {K : PySem.W.Frag} {B : Addr → Prop} {v : V} {r : Res} {i : Str} (g : GoodR K H0 H H' B v r) (e : r.d = .str i) : v = .str i := by
  have := g.shr_of (by rw [e]; rfl)
  rw [e] at this; exact this
theorem m_slcT {lo hi : Option Expr} {fl fh : FO} {p2 : Pos} (ha : PE X a (tE X.K P f)) (hl : PO X lo (tO X.K P fl)) (hh : PO X hi (tO X.K P fh)) : PE X (.Subscript a (.Slice lo hi none p2) pos) (tE X.K P (slcTE f fl fh)) := by
  refine PE.imp (pe_slice sl_tup ha hl hh) ?_
  rintro σ H Q ⟨H0, B, ρ, d, h⟩
  unfold slcTE at h
  show tE X.K P f σ H fun x H1 => tO X.K P fl σ H1 fun l H2 => tO X.K P fh σ H2 fun u H3 => rSlT X.K x l u H3 Q
  cases e : f ρ with
  | stk => simp [e] at h
  | exc x => simp [e] at h; exact tE_exc d e h
  | ok r =>
    simp only [e, R.ok_bind] at h
    refine tE_of d e fun v H1 s1 d1 g1 => ⟨H0, B, ρ, d1, ?_⟩
    cases e1 : fl ρ with
    | stk => simp [e1] at h
    | exc x => simp [e1] at h; exact P.mono h s1
    | ok l =>
      simp only [e1, R.ok_bind] at h
      intro H2 s2
      refine ⟨H0, B, ρ, d1.mono s2, ?_⟩
      cases e2 : fh ρ with
      | stk => simp [e2] at h
      | exc x => simp [e2] at h; exact P.mono h (s1.trans s2)
      | ok u =>
        simp only [e2, R.ok_bind] at h
        intro H3 s3
        cases e3 : asT r.d with
        | stk => simp [e3] at h
        | exc x => exact (asT_exc e3).elim
        | ok ds =>
          simp only [e3, R.ok_bind] at h
          obtain ⟨a1, xs, h1, h2, h3⟩ := (g1.mono (s2.trans s3)).tuple (asT_ok e3)
          have s := (s1.trans s2).trans s3
          have lx := h3.length
          by_cases hw : HT.sIx ds.length 0 l = 0 ∧ HT.sIx ds.length ds.length u = ds.length
          · rw [if_pos hw] at h; exact h.elim
          · rw [if_neg hw] at h
            refine ⟨a1, xs, h1, .inl (.inl h2), by rw [← lx]; exact hw, fun p hp => h _ _ (s.trans (Same.upd_new hp)) ?_⟩
            have q : Reps X.K (cutF r.fr H0 H3 B) (cutD ds l u) (cutV xs l u) := by
              unfold cutD cutV
              rw [← lx]
              exact (h3.drop _).take _
            exact new_tup (d.mono s) hp q
end Mir
set_option Elab.async false
set_option linter.all false
set_option maxRecDepth 100000
set_option maxHeartbeats 1000000
namespace Mir
open PySem L2
variable {X : Cx} {P : XP} {a b c e : Expr} {es : List Expr} {f g : FE} {fs : FEs} {pos p : Pos}
theorem Reps.erase {K : PySem.W.Frag} {G : Hp} : ∀ {ds : List D} {vs : List V} (n : Nat), Reps K G ds vs → Reps K G (ds.eraseIdx n) (vs.eraseIdx n)
  | [], vs, n, h => by rw [show vs = [] from h]; rfl
  | d :: r, _, 0, ⟨x, xr, h1, h2, h3⟩ => by subst h1; exact h3
  | d :: r, _, n + 1, ⟨x, xr, h1, h2, h3⟩ => by subst h1; exact ⟨x, _, rfl, h2, Reps.erase n h3⟩
def popApp (j i : Nat) (k : FE) : FS := fun ρ => (ownL j ρ).at ρ fun y => (ownL i ρ).at ρ fun x => (k ρ).at ρ fun kr => (asI kr.d).at ρ fun n =>
  match seqIndex? n x.2.length with
  | some m => (match x.2[m]? with
    | some d => if j ≠ i ∧ y.2.length < sizeLine ∧ -(2 ^ 63) ≤ n ∧ n < 2 ^ 63 then .nx ((ρ.set i (some ⟨.own, x.1, .lst (x.2.eraseIdx m)⟩)).set j (some ⟨.own, y.1 && x.1, .lst (y.2 ++ [d])⟩)) else .stk
    | none => .stk)
  | none => .stk
theorem m_popApp {j i : Nat} {y x : Str} {k : Expr} {p1 p2 a1 a2 c1 c2 : Pos} (hj : X.N[j]? = some y) (hi : X.N[i]? = some x) (vy : Vis X.env.scope y) (vx : Vis X.env.scope x) (hk : PE X k (tE X.K P f))
    (d1 : (y == ("__debug__" : Str)) = false := by decide) (d2 : (y == ("__classdict__" : Str)) = false := by decide) (d3 : (x == ("__debug__" : Str)) = false := by decide) (d4 : (x == ("__classdict__" : Str)) = false := by decide)
    (h1 : starEach [k] X.env = [(false, eval k X.env)] := by rfl) (h2 : starEach [.Call (.Attribute (.Name x p2) "pop" a2) [k] [] c2] X.env = [(false, eval (.Call (.Attribute (.Name x p2) "pop" a2) [k] [] c2) X.env)] := by rfl)
    (b1 : attributeBase (.Name y p1) "append" X.env (eval (.Name y p1) X.env) = eval (.Name y p1) X.env := by rfl) (b2 : attributeBase (.Name x p2) "pop" X.env (eval (.Name x p2) X.env) = eval (.Name x p2) X.env := by rfl)
    (w1 : ((backTo c1 (starEach [.Call (.Attribute (.Name x p2) "pop" a2) [k] [] c2] X.env)).all (fun x => !x.1) && (backToKw c1 (keywordEach [] X.env)).all (fun x => x.1.isSome) && decide (1 + ([] : List Keyword).length + (if ([] : List Keyword).isEmpty then 0 else 1) < 30)) = true := by rfl)
    (w2 : ((backTo c2 (starEach [k] X.env)).all (fun x => !x.1) && (backToKw c2 (keywordEach [] X.env)).all (fun x => x.1.isSome) && decide (1 + ([] : List Keyword).length + (if ([] : List Keyword).isEmpty then 0 else 1) < 30)) = true := by rfl)
    (l1 : (a1.endLine == c1.line) = true := by rfl) (l2 : (a2.endLine == c2.line) = true := by rfl)
    (hs : swapsWith (.Call (.Attribute (.Name y p1) "append" a1) [.Call (.Attribute (.Name x p2) "pop" a2) [k] [] c2] [] c1) none pos.line X.env = pure false := by rfl) :
    PS X (.Expr (.Call (.Attribute (.Name y p1) "append" a1) [.Call (.Attribute (.Name x p2) "pop" a2) [k] [] c2] [] c1) pos) (tS X.K P (popApp j i f)) := by
  refine PS.imp (ps_expr (pe_bm PySem.F.plainAttrs_list PySem.F.slot_list_append PySem.F.type_list_append mt_append (pe_var hj vy d1 d2) (pa_cons (pe_bm PySem.F.plainAttrs_list PySem.F.slot_list_pop PySem.F.type_list_pop mt_popAt (pe_var hi vx d3 d4) (pa_cons hk pa_nil h1) b2 w2 l2 (hs := h1)) pa_nil h2) b1 w1 l1 (hs := h2)) hs) ?_
  rintro D σ H ⟨H0, T, ρ, d, h⟩
  unfold popApp at h
  cases e1 : ownL j ρ with
  | stk => simp only [e1, R.at] at h; exact h.elim
  | exc z => unfold ownL at e1; split at e1 <;> cases e1
  | ok yy =>
    cases e2 : ownL i ρ with
    | stk => simp only [e1, e2, R.at] at h; exact h.elim
    | exc z => unfold ownL at e2; split at e2 <;> cases e2
    | ok xx =>
      simp only [e1, e2, R.at] at h
      have oy := ownL_ok e1
      have ox := ownL_ok e2
      obtain ⟨ay, vy', qy1, qy2, qy3, qy4⟩ := d.own oy
      obtain ⟨ax, vx', qx1, qx2, qx3, qx4⟩ := d.own ox
      refine ⟨_, qy1, .inl ⟨rfl, vy', SqL.of qy3⟩, _, qx1, .inl ⟨rfl, vx', SqL.of qx3⟩, ?_⟩
      cases e3 : f ρ with
      | stk => simp only [e3] at h; exact h.elim
      | exc z => simp only [e3] at h; exact tE_exc d.e e3 (h σ H d Ext.refl)
      | ok r =>
        simp only [e3] at h
        refine tE_of d.e e3 fun v H' s d' g' => ?_
        cases e4 : asI r.d with
        | stk => simp only [e4] at h; exact h.elim
        | exc z => exact (asI_exc e4).elim
        | ok n =>
          simp only [e4] at h
          cases e5 : seqIndex? n xx.2.length with
          | none => simp only [e5] at h; exact h.elim
          | some m =>
            cases e6 : xx.2[m]? with
            | none => simp only [e5, e6] at h; exact h.elim
            | some dd =>
              simp only [e5, e6] at h
              by_cases hz : j ≠ i ∧ yy.2.length < sizeLine ∧ -(2 ^ 63) ≤ n ∧ n < 2 ^ 63
              · rw [if_pos hz] at h
                have dS := d.mono s
                have mn : ∀ fr, Same (cutF fr H0 H (Bs T σ ρ)) (cutF fr H0 H' (Bs T σ ρ)) := fun fr => cutF_mono (fun b o q _ => s b o q) fun b z => .inl z
                have rx := Reps.same (mn _) qx4
                have ry := Reps.same (mn _) qy4
                obtain ⟨w, hw, rw'⟩ := rx.get e6
                have oi : ownAt σ ρ i ax := ⟨qx1, _, ox, rfl⟩
                have oj : ownAt σ ρ j ay := ⟨qy1, _, oy, rfl⟩
                have ne : ay ≠ ax := fun z => hz.1 (d.dis j i ay oj (by rw [z]; exact oi))
                refine ⟨ax, vx', n, m, w, rfl, by rw [g'.int (asI_ok e4)], s _ _ qx3, hz.2.2.1, hz.2.2.2, by rw [← qx4.length]; exact e5, hw, ?_⟩
                refine ⟨ay, vy', w, rfl, rfl, by rw [upd_ne ne]; exact s _ _ qy3, by rw [← qy4.length]; exact hz.2.1, ?_⟩
                obtain ⟨D1, X1⟩ := dS.write (fr := xx.1) qx1 ox rfl qx2 (rx.erase m)
                have subB : ∀ b, Bs T σ (ρ.set i (some ⟨.own, xx.1, .lst (xx.2.eraseIdx m)⟩)) b → Bs T σ ρ b := fun b z => by
                  rcases z with ⟨l, q1, e, q2, q3⟩ | z
                  · by_cases hl : i = l
                    · subst hl; rw [qx1] at q1; cases q1; exact .inl ⟨i, oi⟩
                    · rw [List.getElem?_set_ne hl] at q2; exact .inl ⟨l, q1, e, q2, q3⟩
                  · exact .inr z
                have m2 : ∀ fr, Same (cutF fr H0 H' (Bs T σ ρ)) (cutF fr H0 (upd H' ax (.lst (vx'.eraseIdx m))) (Bs T σ (ρ.set i (some ⟨.own, xx.1, .lst (xx.2.eraseIdx m)⟩)))) := fun fr =>
                  cutF_mono (fun b o q nb => by rw [upd_ne (fun z => nb (by rw [z]; exact .inl ⟨i, oi⟩))]; exact q) fun b z => .inl (subB b z)
                obtain ⟨D2, X2⟩ := D1.write (i := j) (fr := yy.1 && xx.1) (ds := yy.2 ++ [dd]) (vs := vy' ++ [w]) qy1 (by rw [List.getElem?_set_ne (Ne.symm hz.1)]; exact oy) rfl qy2 ((Reps.same (m2 _) ry).andL.append (Reps.one (Rep.same (m2 _) rw')).andR)
                exact h σ _ D2 (((Ext.same s).trans X1).trans X2)
              · rw [if_neg hz] at h; exact h.elim
theorem Reps.init {K : PySem.W.Frag} {G : Hp} {ds : List D} {vs : List V} (r : Reps K G ds vs) : Reps K G ds.dropLast vs.dropLast := by
  rw [List.dropLast_eq_take, List.dropLast_eq_take, r.length]
  exact r.take _
theorem DenS.pop {K : PySem.W.Frag} {H0 H : Hp} {T : Addr → Prop} {σ : St} {ρ : Mir.Env} {i : Nat} {fr : Bool} {ds : List D} {dd : D} (d : DenS K H0 H T σ ρ) (o : ρ[i]? = some (some ⟨.own, fr, .lst ds⟩)) (hd : ds[ds.length - 1]? = some dd) :
    ∃ a vs w, σ[i]? = some (some (.ref a)) ∧ H a = some (.lst vs) ∧ vs[vs.length - 1]? = some w ∧ DenS K H0 (upd H a (.lst vs.dropLast)) T σ (ρ.set i (some ⟨.own, fr, .lst ds.dropLast⟩)) ∧ Ext H σ ρ (upd H a (.lst vs.dropLast)) σ (ρ.set i (some ⟨.own, fr, .lst ds.dropLast⟩)) ∧
      Rep K (cutF fr H0 (upd H a (.lst vs.dropLast)) (Bs T σ (ρ.set i (some ⟨.own, fr, .lst ds.dropLast⟩)))) dd w := by
  obtain ⟨a, vs, q1, q2, q3, q4⟩ := d.own o
  obtain ⟨w, hw, rw'⟩ := q4.get hd
  rw [q4.length] at hw
  have oi : ownAt σ ρ i a := ⟨q1, _, o, rfl⟩
  obtain ⟨D1, X1⟩ := d.write (fr := fr) q1 o rfl q2 q4.init
  refine ⟨a, vs, w, q1, q3, hw, D1, X1, Rep.same (cutF_mono (fun b u q nb => by rw [upd_ne (fun z => nb (by rw [z]; exact .inl ⟨i, oi⟩))]; exact q) fun b z => .inl ?_) rw'⟩
  rcases z with ⟨l, p1, e, p2, p3⟩ | z
  · by_cases hl : i = l
    · subst hl; rw [q1] at p1; cases p1; exact .inl ⟨i, oi⟩
    · rw [List.getElem?_set_ne hl] at p2; exact .inl ⟨l, p1, e, p2, p3⟩
  · exact .inr z
end Mir
set_option Elab.async false
set_option linter.all false
set_option maxRecDepth 100000
set_option maxHeartbeats 1000000
namespace Mir
open PySem L2
variable {X : Cx} {P : XP} {a b c e : Expr} {es : List Expr} {f g : FE} {fs : FEs} {pos p : Pos}
theorem Reps.empty {K : PySem.W.Frag} {G : Hp} {ds : List D} {vs : List V} (r : Reps K G ds vs) : vs.isEmpty = ds.isEmpty := by
  have := r.length
  cases ds <;> cases vs <;> simp at this ⊢
def augS (i : Nat) (G : Int → Int → Int) (f : FE) : FS := fun ρ => (vE i ρ).at ρ fun x => (asI x.d).at ρ fun m => (f ρ).at ρ fun r => (asI r.d).at ρ fun n => .nx (ρ.set i (some ⟨.shr, true, .int (G m n)⟩))
theorem vE_get {i : Nat} {ρ : Env} {r : Res} (h : vE i ρ = .ok r) : ∃ e, ρ[i]? = some (some e) ∧ r = ⟨e.k.rd, e.fr || e.d.imm, e.d⟩ := by
  unfold vE at h
  split at h
  · rename_i e q; cases h; exact ⟨e, q, rfl⟩
  · cases h
theorem m_augG {i : Nat} {x : Str} {op : Operator} {G : Int → Int → Int} {pos' : Pos} (ho : PIp X op (ipI G)) (hN : X.N.Nodup) (hi : X.N[i]? = some x) (hx : Loc X.env.scope x) (he : PE X e (tE X.K P f)) (hf : X.fn x = true ∨ X.env.scope.names.lookup x = some .local := by first | exact .inl rfl | exact .inr rfl | assumption) :
    PS X (.AugAssign (.Name x pos') op e pos) (tS X.K P (augS i G f)) := by
  refine PS.imp (ps_aug hN hi hx he ho hf) ?_
  rintro D σ H ⟨H0, T, ρ, d, h⟩
  unfold augS at h
  cases e1 : vE i ρ with
  | stk => simp only [e1, R.at] at h; exact h.elim
  | exc z => unfold vE at e1; split at e1 <;> cases e1
  | ok xr =>
    simp only [e1, R.at] at h
    obtain ⟨en, q1, q2⟩ := vE_get e1
    subst q2
    obtain ⟨v, q3, q4⟩ := d.e.ent i en q1
    cases e2 : asI en.d with
    | stk => simp only [e2] at h; exact h.elim
    | exc z => exact (asI_exc e2).elim
    | ok m =>
      simp only [e2] at h
      refine ⟨v, q3, ?_⟩
      have hv : v = .int m := (q4.res d.e.sam).int (asI_ok e2)
      cases e3 : f ρ with
      | stk => simp only [e3] at h; exact h.elim
      | exc z => simp only [e3] at h; exact tE_exc d.e e3 (h σ H d Ext.refl)
      | ok r =>
        simp only [e3] at h
        refine tE_of d.e e3 fun w H' s d' g' => ?_
        cases e4 : asI r.d with
        | stk => simp only [e4] at h; exact h.elim
        | exc z => exact (asI_exc e4).elim
        | ok n =>
          simp only [e4] at h
          have dd := (d.mono s).set_shr (i := i) (v := .int (G m n)) (fr := true) (dd := .int (G m n)) rfl
          exact ⟨m, n, hv, g'.int (asI_ok e4), h _ H' dd.1 ⟨fun b o q _ => s b o q, fun b z => .inl (dd.2 b z)⟩⟩
theorem m_augA {i : Nat} {x : Str} {pos' : Pos} (hN : X.N.Nodup) (hi : X.N[i]? = some x) (hx : Loc X.env.scope x) (he : PE X e (tE X.K P f)) (hf : X.fn x = true ∨ X.env.scope.names.lookup x = some .local := by first | exact .inl rfl | exact .inr rfl | assumption) :
    PS X (.AugAssign (.Name x pos') .Add e pos) (tS X.K P (augS i (fun m n => m + n) f)) := m_augG ip_add hN hi hx he hf
def extS (i : Nat) (f : FE) : FS := fun ρ => (ownL i ρ).at ρ fun y => (f ρ).at ρ fun r => match r with
  | ⟨.tmp, fr, .lst es⟩ => if y.2.length + es.length ≤ sizeLine then .nx (ρ.set i (some ⟨.own, y.1 && fr, .lst (y.2 ++ es)⟩)) else .stk
  | _ => .stk
theorem m_ext {i : Nat} {x : Str} {p ap cp : Pos} (hN : X.N[i]? = some x) (hv : Vis X.env.scope x) (he : PE X e (tE X.K P f)) (hd : (x == ("__debug__" : Str)) = false := by decide) (hcd : (x == ("__classdict__" : Str)) = false := by decide)
    (h1 : starEach [e] X.env = [(false, eval e X.env)] := by rfl) (hbase : attributeBase (.Name x p) "extend" X.env (eval (.Name x p) X.env) = eval (.Name x p) X.env := by rfl)
    (hfew : ((backTo cp (starEach [e] X.env)).all (fun x => !x.1) && (backToKw cp (keywordEach [] X.env)).all (fun x => x.1.isSome) && decide ([e].length + ([] : List Keyword).length + (if ([] : List Keyword).isEmpty then 0 else 1) < 30)) = true := by rfl)
    (hline : (ap.endLine == cp.line) = true := by rfl)
    (hs : swapsWith (.Call (.Attribute (.Name x p) "extend" ap) [e] [] cp) none pos.line X.env = pure false := by rfl) :
    PS X (.Expr (.Call (.Attribute (.Name x p) "extend" ap) [e] [] cp) pos) (tS X.K P (extS i f)) := by
  refine PS.imp (ps_expr (pe_bm PySem.F.plainAttrs_list PySem.F.slot_list_extend PySem.F.type_list_extend mt_extend (pe_var hN hv hd hcd) (pa_cons he pa_nil h1) hbase hfew hline (hs := h1)) hs) ?_
  rintro D σ H ⟨H0, T, ρ, d, h⟩
  unfold extS at h
  cases e3 : ownL i ρ with
  | stk => simp only [e3, R.at] at h; exact h.elim
  | exc z => unfold ownL at e3; split at e3 <;> cases e3
  | ok y =>
    simp only [e3, R.at] at h
    have ho := ownL_ok e3
    obtain ⟨a, vs, q1, q2, q3, q4⟩ := d.own ho
    refine ⟨_, q1, .inl ⟨rfl, vs, SqL.of q3⟩, ?_⟩
    cases e1 : f ρ with
    | stk => simp only [e1] at h; exact h.elim
    | exc z => simp only [e1] at h; exact tE_exc d.e e1 (h σ H d Ext.refl)
    | ok r =>
      simp only [e1] at h
      refine tE_of d.e e1 fun v H' s d' g' => ?_
      obtain ⟨rk, rfr, rd⟩ := r
      cases rk with
      | tmp =>
        cases rd with
        | lst es =>
          simp only at h
          by_cases hz : y.2.length + es.length ≤ sizeLine
          · rw [if_pos hz] at h
            obtain ⟨b, o, w1, w2, w3, ws, w4, w5⟩ := g'
            subst w1; subst w4
            have dS := d.mono s
            have q4' : Reps X.K (cutF y.1 H0 H' (Bs T σ ρ)) y.2 vs := Reps.same (cutF_mono (fun b o q _ => s b o q) fun b z => .inl z) q4
            have w5' : Reps X.K (cutF rfr H0 H' (Bs T σ ρ)) es ws := Reps.same (cutF_mono (fun b o q _ => q) fun b z => .inl (.inl z)) w5
            refine ⟨a, b, vs, ws, rfl, rfl, s _ _ q3, w3, by rw [← q4.length, ← w5.length]; exact hz, ?_⟩
            obtain ⟨v1, v2⟩ := dS.write (fr := y.1 && rfr) (ds := y.2 ++ es) (vs := vs ++ ws) q1 ho rfl q2 (q4'.andL.append w5'.andR)
            exact h σ _ v1 ((Ext.same s).trans v2)
          · rw [if_neg hz] at h; exact h.elim
        | _ => exact h.elim
      | _ => exact h.elim
end Mir
set_option Elab.async false
set_option linter.all false
set_option maxRecDepth 100000
set_option maxHeartbeats 1000000
namespace Mir
open PySem L2
variable {X : Cx} {P : XP} {a b c e : Expr} {es : List Expr} {f g : FE} {fs : FEs} {pos p : Pos}
variable {st : Stmt} {rest : List Stmt} {F G : FS}
section
variable {Pg : Program} {w : World} {K : PySem.W.Frag} {mg : Str → Option Value} {base : Heap} {cl : XC → Addr} {N : List Str}
end
section
variable {K : PySem.W.Frag} {H0 H H' : Hp} {T : Addr → Prop} {σ σ' : St} {ρ ρ' : Env}
theorem RetOk.base {v : V} {r : Res} (s : Same H0 H) (h : RetOk K H H' T v r) : RetOk K H0 H' T v r := by
  have m : ∀ fr B, Same (cutF fr H H' B) (cutF fr H0 H' B) := fun fr B b o q => let ⟨n, q⟩ := cut_some.mp q; cut_some.mpr ⟨fun z => n (z.imp id fun ⟨h1, o, h2, h3⟩ => ⟨h1, o, s _ _ h2, h3⟩), q⟩
  unfold RetOk at h ⊢
  cases k : r.k with
  | shr => rw [k] at h; exact Rep.same (m _ _) h
  | own => rw [k] at h; obtain ⟨a, o, h1, h2, h3, h4⟩ := h; exact ⟨a, o, h1, s.none h2, h3, h4.same (m _ _)⟩
  | tmp => rw [k] at h; obtain ⟨a, o, h1, h2, h3, h4⟩ := h; exact ⟨a, o, h1, s.none h2, h3, h4.same (m _ _)⟩
  | old => rw [k] at h; obtain ⟨a, o, h1, h2, h3, h4⟩ := h; exact ⟨a, o, h1, s.none h2, h3, h4.same (m _ _)⟩
end
def Inner (H0 H H' : Hp) (B : Addr → Prop) : Prop := ∀ b o, H b = some o → H' b = some o ∨ (stab o = false ∧ H0 b = none ∧ ¬ B b ∧ ∃ o', H' b = some o' ∧ stab o' = false)
theorem Inner.refl {H0 H : Hp} {B : Addr → Prop} : Inner H0 H H B := fun _ _ q => .inl q
end Mir
set_option Elab.async false
set_option linter.all false
set_option maxRecDepth 100000
set_option maxHeartbeats 1000000
namespace Mir
open PySem L2
variable {X : Cx} {P : XP} {a b c e : Expr} {es : List Expr} {f g : FE} {fs : FEs} {pos p : Pos}
def Thaw (H0 H H1 : Hp) : Prop := ∀ b, H1 b = H b ∨ ∃ o xs, H b = some (.frz o (.lst xs)) ∧ H1 b = some (.lst xs) ∧ H0 b = none
theorem Thaw.rd {H0 H H1 : Hp} (t : Thaw H0 H H1) {b : Addr} {xs : List V} (h : Rd H b (.lst xs)) : Rd H1 b (.lst xs) := by
  rcases t b with e | ⟨o, ys, e1, e2, _⟩
  · rcases h with h | ⟨o, h⟩
    · exact .inl (e.trans h)
    · exact .inr ⟨o, e.trans h⟩
  · rcases h with h | ⟨o', h⟩
    · rw [e1] at h; cases h
    · rw [e1] at h; cases h; exact .inl e2
theorem Thaw.ne {H0 H H1 : Hp} (t : Thaw H0 H H1) {b : Addr} {u : HO} (h : H b = some u) (n : ∀ o xs, u ≠ .frz o (.lst xs)) : H1 b = some u := by
  rcases t b with e | ⟨o, ys, e1, e2, _⟩
  · exact e.trans h
  · rw [e1] at h; cases h; exact absurd rfl (n _ _)
theorem Thaw.cut {H0 H H1 : Hp} (t : Thaw H0 H H1) (B : Addr → Prop) : Thaw H0 (Mir.cut H B) (Mir.cut H1 B) := fun b => by
  unfold Mir.cut
  by_cases hb : B b
  · left; simp [hb]
  · simpa [hb] using t b
theorem Reps.any {K : PySem.W.Frag} {G : Hp} : ∀ {ds : List D} {vs : List V}, ds.length = vs.length → Reps K G (ds.map fun _ => .any) vs
  | [], [], _ => rfl
  | [], v :: vr, h => absurd h (by simp)
  | d :: r, [], h => absurd h (by simp)
  | d :: r, v :: vr, h => ⟨v, vr, rfl, True.intro, Reps.any (by simpa using h)⟩
end Mir
set_option Elab.async false
set_option linter.all false
set_option maxRecDepth 100000
set_option maxHeartbeats 1000000
namespace Mir
open PySem L2
variable {X : Cx} {P : XP} {a b c e : Expr} {es : List Expr} {f g h' : FE} {fs : FEs} {pos p : Pos}
def asK : D → R (List Int)
  | .tup ds => intsR ds
  | _ => .stk
theorem asK_exc {d : D} {x : Xc} (h : asK d = .exc x) : False := by
  cases d <;> simp [asK] at h
  exact intsR_exc h
def dLook : List (List Int) → List D → List Int → Option D
  | k :: ks, d :: ds, j => if k = j then some d else dLook ks ds j
  | _, _, _ => none
def dPut (ks : List (List Int)) (ds : List D) (j : List Int) (v : D) : List (List Int) × List D :=
  if j ∈ ks then (ks, (ks.zip ds).map fun p => if p.1 = j then v else p.2) else (ks ++ [j], ds ++ [v])
theorem inl_inj {a b : List Int} (h : a.map (Sum.inl : Int → Key) = b.map Sum.inl) : a = b := by
  induction a generalizing b with
  | nil => cases b with
    | nil => rfl
    | cons _ _ => simp at h
  | cons x r ih => cases b with
    | nil => simp at h
    | cons y s =>
      simp only [List.map_cons, List.cons.injEq, Sum.inl.injEq] at h
      rw [h.1, ih h.2]
theorem kV_inl (k : List Int) : (k.map Sum.inl : List Key).map kV = k.map V.int := by
  rw [List.map_map]; rfl
section
variable {K : PySem.W.Frag} {G : Hp}
theorem keys_cons {k : List Int} {ks : List (List Int)} {kvs : List (List Key × V)} (h : keysAre (k :: ks) kvs) : ∃ v r, kvs = (k.map Sum.inl, v) :: r ∧ keysAre ks r := by
  unfold keysAre at h
  cases kvs with
  | nil => simp at h
  | cons p r =>
    simp only [List.cons.injEq, List.map_cons] at h
    exact ⟨p.2, r, by rw [← h.1], h.2⟩
theorem look_ok : ∀ {ks : List (List Int)} {ds : List D} {kvs : List (List Key × V)} {j : List Int}, keysAre ks kvs → Reps K G ds (kvs.map (·.2)) → (∀ d, dLook ks ds j = some d → ∃ v, valV kvs (j.map Sum.inl) = some v ∧ Rep K G d v) ∧ (dLook ks ds j = none → valV kvs (j.map Sum.inl) = none)
  | [], ds, kvs, j, hk, r => by
    have e : kvs = [] := by unfold keysAre at hk; simpa using hk
    subst e
    exact ⟨fun d z => by simp [dLook] at z, fun _ => rfl⟩
  | k :: ks, ds, kvs, j, hk, r => by
    obtain ⟨v, t, rfl, hk'⟩ := keys_cons hk
    cases ds with
    | nil => have := r.length; simp at this
    | cons d ds =>
      obtain ⟨x, xr, e1, e2, e3⟩ := r
      simp only [List.map_cons, List.cons.injEq] at e1
      obtain ⟨e1, e1'⟩ := e1
      subst e1 e1'
      by_cases z : k = j
      · subst z
        refine ⟨fun d' q => ?_, fun q => by simp [dLook] at q⟩
        simp only [dLook, if_true, Option.some.injEq] at q
        subst q
        exact ⟨v, valV_pos rfl, e2⟩
      · have nz : ¬ (k.map Sum.inl : List Key) = j.map Sum.inl := fun w => z (inl_inj w)
        have ih := look_ok (j := j) hk' e3
        rw [valV_neg (p := (k.map Sum.inl, v)) nz]
        simp only [dLook, if_neg z]
        exact ih
theorem put_rep : ∀ {ks : List (List Int)} {ds : List D} {kvs : List (List Key × V)} {j : List Int} {d : D} {v : V}, keysAre ks kvs → Reps K G ds (kvs.map (·.2)) → Rep K G d v → Reps K G ((ks.zip ds).map fun p => if p.1 = j then d else p.2) ((kvs.map fun kv => if kv.1 = j.map Sum.inl then (kv.1, v) else kv).map (·.2))
  | [], ds, kvs, j, d, v, hk, r, rv => by
    have e : kvs = [] := by unfold keysAre at hk; simpa using hk
    subst e
    rfl
  | k :: ks, ds, kvs, j, d, v, hk, r, rv => by
    obtain ⟨u, t, rfl, hk'⟩ := keys_cons hk
    cases ds with
    | nil => have := r.length; simp at this
    | cons d0 ds =>
      obtain ⟨x, xr, e1, e2, e3⟩ := r
      simp only [List.map_cons, List.cons.injEq] at e1
      obtain ⟨e1, e1'⟩ := e1
      subst e1 e1'
      have ih := put_rep (j := j) hk' e3 rv
      by_cases z : k = j
      · subst z
        refine ⟨v, _, ?_, ?_, ih⟩
        · simp
        · simp only [if_true]; exact rv
      · have nz : ¬ (k.map Sum.inl : List Key) = j.map Sum.inl := fun w => z (inl_inj w)
        refine ⟨u, _, ?_, ?_, ih⟩
        · simp [nz]
        · simp only [if_neg z]; exact e2
theorem any_mem {ks : List (List Int)} {kvs : List (List Key × V)} (hk : keysAre ks kvs) (j : List Int) : (kvs.any fun kv => decide (kv.1 = j.map Sum.inl)) = decide (j ∈ ks) := by
  have e : (kvs.any fun kv => decide (kv.1 = j.map Sum.inl)) = (kvs.map (·.1)).any fun q => decide (q = j.map Sum.inl) := by rw [List.any_map]; rfl
  rw [e, hk, List.any_map]
  rw [Bool.eq_iff_iff, decide_eq_true_eq, List.any_eq_true]
  constructor
  · rintro ⟨q, hq, w⟩
    rw [← inl_inj (of_decide_eq_true w)]; exact hq
  · intro hq
    exact ⟨j, hq, decide_eq_true rfl⟩
theorem put_ok' {ks : List (List Int)} {ds : List D} {kvs : List (List Key × V)} {j : List Int} {d : D} {v : V} (hk : keysAre ks kvs) (r : Reps K G ds (kvs.map (·.2))) (rv : Rep K G d v) : keysAre (dPut ks ds j d).1 (putK kvs (j.map Sum.inl) v) ∧ Reps K G (dPut ks ds j d).2 ((putK kvs (j.map Sum.inl) v).map (·.2)) := by
  unfold dPut putK
  rw [any_mem hk j]
  by_cases z : j ∈ ks
  · rw [if_pos z, decide_eq_true z, if_pos rfl]
    refine ⟨?_, put_rep hk r rv⟩
    unfold keysAre at hk ⊢
    rw [List.map_map, ← hk]
    apply List.map_congr_left
    intro p _
    show (if p.1 = _ then (p.1, v) else p).1 = p.1
    split <;> rfl
  · rw [if_neg z, decide_eq_false z, if_neg (by simp)]
    refine ⟨?_, ?_⟩
    · unfold keysAre at hk ⊢
      rw [List.map_append, List.map_append, hk]; rfl
    · rw [List.map_append]; exact r.append (Reps.one rv)
end
def dnewE : FE := fun _ => .ok ⟨.tmp, true, .dct [] []⟩
theorem m_dnew : PE X (.Dict [] [] pos) (tE X.K P dnewE) := by
  refine PE.imp pe_dnewT ?_
  rintro σ H Q ⟨H0, B, ρ, d, h⟩ p hp
  refine h _ _ (Same.upd_new hp) ⟨p, _, rfl, hp, upd_same, ⟨[], rfl, rfl, rfl⟩⟩
theorem GoodR.key {H0 H H' : Hp} {B : Addr → Prop} {v : V} {r : Res} {k : List Int} {K : PySem.W.Frag} (g : GoodR K H0 H H' B v r) (e : asK r.d = .ok k) : ∃ b, v = .ref b ∧ H' b = some (.tup ((k.map Sum.inl : List Key).map kV)) := by
  cases hd : r.d with
  | tup ds =>
    rw [hd] at e
    obtain ⟨b, xs, h1, h2, h3⟩ := g.tuple hd
    have := Reps.ints e h3
    exact ⟨b, h1, by rw [kV_inl, ← this]; exact h2⟩
  | _ => rw [hd] at e; simp [asK] at e
def dgetE (a k : FE) : FE := fun ρ => do
  let x ← a ρ
  let y ← k ρ
  match x.d with
  | .dct ks ds => do
    let j ← asK y.d
    match dLook ks ds j with
    | some d => .ok ⟨.shr, x.fr || d.imm, d⟩
    | none => .stk
  | _ => .stk
theorem Rep.or {K : PySem.W.Frag} {H0 H : Hp} {B : Addr → Prop} {fr : Bool} {d : D} {v : V} (s : Same H0 H) (r : Rep K (cutF fr H0 H B) d v) : Rep K (cutF (fr || d.imm) H0 H B) d v := Rep.fr s r
theorem m_dget (hu : X.A.units + 64 < cLine) (ha : PE X a (tE X.K P f)) (hb : PE X b (tE X.K P g)) (hs : NoSl b := by exact fun _ _ => rfl) : PE X (.Subscript a b pos) (tE X.K P (dgetE f g)) := by
  refine PE.imp (pe_dget (by omega) ha hb hs) ?_
  intro σ H Q h
  refine t2 (q := fun x y H2 => ∃ a v, x = .ref a ∧ DGet H2 a y (some v) ∧ Q v H2) h ?_
  intro H0 B ρ v w H' r r' d g1 g2 s h
  cases hd : r.d with
  | dct ks ds =>
    simp only [hd] at h
    cases e1 : asK r'.d with
    | stk => simp [e1] at h
    | exc x => exact (asK_exc e1).elim
    | ok j =>
      simp only [e1, R.ok_bind] at h
      obtain ⟨a, kvs, h1, h2, h3, h4⟩ := g1.dict hd
      obtain ⟨b, k1, k2⟩ := g2.key e1
      cases e2 : dLook ks ds j with
      | none => simp [e2] at h
      | some dd =>
        simp only [e2] at h
        obtain ⟨u, q1, q2⟩ := (look_ok h3 h4).1 dd e2
        exact ⟨a, u, h1, .inr ⟨kvs, _, b, h2, k1, k2, q1.symm⟩, h u H' (Same.refl _) (Rep.fr d.sam q2)⟩
  | _ => simp [hd] at h
end Mir
set_option Elab.async false
set_option linter.all false
set_option maxRecDepth 100000
set_option maxHeartbeats 1000000
namespace Mir
open PySem L2
variable {X : Cx} {P : XP} {a b c e : Expr} {es : List Expr} {f g k : FE} {fs : FEs} {pos p : Pos}
def dgtE (a k x : FE) : FE := fun ρ => do
  let m ← a ρ
  match m.d with
  | .dct ks ds => do
    let y ← k ρ
    let z ← x ρ
    let j ← asK y.d
    match dLook ks ds j with
    | some d => .ok ⟨.shr, m.fr || d.imm, d⟩
    | none => do
      let i ← asI z.d
      .ok (sc (.int i))
  | _ => .stk
theorem m_dgt {ap cp : Pos} (hu : X.A.units + 64 < cLine) (ha : PE X a (tE X.K P f)) (hb : PE X b (tE X.K P k)) (hc : PE X c (tE X.K P g))
    (hbase : attributeBase a "get" X.env (eval a X.env) = eval a X.env := by rfl)
    (hfew : ((backTo cp (starEach [b, c] X.env)).all (fun x => !x.1) && (backToKw cp (keywordEach [] X.env)).all (fun x => x.1.isSome) && decide (([b, c] : List Expr).length + ([] : List Keyword).length + (if ([] : List Keyword).isEmpty then 0 else 1) < 30)) = true := by rfl)
    (hline : (ap.endLine == cp.line) = true := by rfl) (htr : backTo cp (starEach [b, c] X.env) = [(false, eval b X.env), (false, eval c X.env)] := by rfl) :
    PE X (.Call (.Attribute a "get" ap) [b, c] [] cp) (tE X.K P (dgtE f k g)) := by
  refine PE.imp (pe_dget2 (by omega) ha hb hc ⟨hbase, hfew, hline, htr⟩) ?_
  rintro σ H Q ⟨H0, B, ρ, d, h⟩
  unfold dgtE at h
  cases e1 : f ρ with
  | stk => simp [e1] at h
  | exc x => simp [e1] at h; exact tE_exc d e1 h
  | ok r =>
    simp only [e1, R.ok_bind] at h
    cases hd : r.d with
    | dct ks ds =>
      simp only [hd] at h
      refine tE_of d e1 fun v H1 s1 d1 g1 => ?_
      obtain ⟨a, kvs, h1, h2, h3, h4⟩ := g1.dict hd
      refine ⟨a, h1, .inr ⟨kvs, h2⟩, ?_⟩
      cases e2 : k ρ with
      | stk => simp [e2] at h
      | exc x => simp [e2] at h; exact tE_exc d1 e2 (P.mono h s1)
      | ok r2 =>
        simp only [e2, R.ok_bind] at h
        refine tE_of d1 e2 fun v2 H2 s2 d2 g2 => ?_
        cases e3 : g ρ with
        | stk => simp [e3] at h
        | exc x => simp [e3] at h; exact tE_exc d2 e3 (P.mono h (s1.trans s2))
        | ok r3 =>
          simp only [e3, R.ok_bind] at h
          refine tE_of d2 e3 fun v3 H3 s3 d3 g3 => ?_
          cases e4 : asK r2.d with
          | stk => simp [e4] at h
          | exc x => exact (asK_exc e4).elim
          | ok j =>
            simp only [e4, R.ok_bind] at h
            obtain ⟨bb, k1, k2⟩ := g2.key e4
            have s23 := s2.trans s3
            have h2' : Rd H3 a (.dT kvs) := Same.rd s23 h2
            have h4' : Reps X.K (cutF r.fr H0 H3 B) ds (kvs.map (·.2)) := Reps.same (cutF_mono (fun b o q _ => s23 b o q) fun b z => .inl z) h4
            cases e5 : dLook ks ds j with
            | some dd =>
              simp only [e5] at h
              obtain ⟨u, q1, q2⟩ := (look_ok h3 h4').1 dd e5
              exact ⟨some u, .inr ⟨kvs, _, bb, h2', k1, s3 _ _ k2, q1.symm⟩, h u H3 ((s1.trans s2).trans s3) (Rep.fr d3.sam q2)⟩
            | none =>
              simp only [e5] at h
              have q1 := (look_ok (j := j) h3 h4').2 e5
              cases e6 : asI r3.d with
              | stk => simp [e6] at h
              | exc x => exact (asI_exc e6).elim
              | ok i =>
                simp only [e6, R.ok_bind] at h
                refine ⟨none, .inr ⟨kvs, _, bb, h2', k1, s3 _ _ k2, q1.symm⟩, ?_⟩
                show Q v3 H3
                rw [g3.int (asI_ok e6)]
                exact h _ H3 ((s1.trans s2).trans s3) (GoodR.sc (show Rep _ _ (.int i) _ from rfl))
    | _ => simp [hd] at h
def ownD (i : Nat) (ρ : Env) : R (Bool × List (List Int) × List D) := match ρ[i]? with
  | some (some ⟨.own, fr, .dct ks ds⟩) => .ok (fr, ks, ds)
  | _ => .stk
theorem ownD_ok {i : Nat} {ρ : Env} {y : Bool × List (List Int) × List D} (h : ownD i ρ = .ok y) : ρ[i]? = some (some ⟨.own, y.1, .dct y.2.1 y.2.2⟩) := by
  unfold ownD at h
  split at h
  · rename_i e; cases h; exact e
  · cases h
def dputS (i : Nat) (k f : FE) : FS := fun ρ => (ownD i ρ).at ρ fun y => (f ρ).at ρ fun r => (r.give).at ρ fun x => (k ρ).at ρ fun kr => (asK kr.d).at ρ fun j =>
  if y.2.1.length < sizeLine then .nx (ρ.set i (some ⟨.own, y.1 && x.fr, .dct (dPut y.2.1 y.2.2 j x.d).1 (dPut y.2.1 y.2.2 j x.d).2⟩)) else .stk
theorem keysAre.len {ks : List (List Int)} {kvs : List (List Key × V)} (h : keysAre ks kvs) : kvs.length = ks.length := by
  simpa using congrArg List.length h
theorem m_dput {i : Nat} {x : Str} {p tp : Pos} (hu : X.A.units + 64 < cLine) (hN : X.N[i]? = some x) (hv : Vis X.env.scope x) (hk : PE X b (tE X.K P k)) (he : PE X e (tE X.K P f)) (hd : (x == ("__debug__" : Str)) = false := by decide) (hcd : (x == ("__classdict__" : Str)) = false := by decide)
    (hs : swapsWith e (some (.Subscript (.Name x p) b tp)) pos.line X.env = pure false := by rfl) :
    PS X (.Assign [.Subscript (.Name x p) b tp] e pos) (tS X.K P (dputS i k f)) := by
  refine PS.imp (ps_dput (by omega) (pe_var hN hv hd hcd) hk he hs) ?_
  rintro D σ H ⟨H0, T, ρ, d, h⟩
  unfold dputS at h
  cases e0 : ownD i ρ with
  | stk => simp only [e0, R.at] at h; exact h.elim
  | exc z => unfold ownD at e0; split at e0 <;> cases e0
  | ok y =>
    simp only [e0, R.at] at h
    have ho := ownD_ok e0
    cases e1 : f ρ with
    | stk => simp only [e1] at h; exact h.elim
    | exc z => simp only [e1] at h; exact tE_exc d.e e1 (h σ H d Ext.refl)
    | ok r =>
      simp only [e1] at h
      refine tE_of d.e e1 fun v H1 s1 d1 g1 => ?_
      cases e2 : r.give with
      | stk => simp only [e2] at h; exact h.elim
      | exc z => unfold Res.give at e2; split at e2 <;> cases e2
      | ok r' =>
        simp only [e2] at h
        obtain ⟨w1, w2⟩ := g1.give d.e e2
        subst w1
        obtain ⟨a, kvs, q1, q2, q3, q4, q5⟩ := d.ownD ho
        refine ⟨_, q1, ?_⟩
        cases e3 : k ρ with
        | stk => simp only [e3] at h; exact h.elim
        | exc z => simp only [e3] at h; exact tE_exc d1 e3 (h σ H1 (d.mono s1) (Ext.same s1))
        | ok kr =>
          simp only [e3] at h
          refine tE_of d1 e3 fun v2 H2 s2 d2 g2 => ?_
          cases e4 : asK kr.d with
          | stk => simp only [e4] at h; exact h.elim
          | exc z => exact (asK_exc e4).elim
          | ok j =>
            simp only [e4] at h
            by_cases hz : y.2.1.length < sizeLine
            · rw [if_pos hz] at h
              obtain ⟨bb, k1, k2⟩ := g2.key e4
              have s12 := s1.trans s2
              have dS := d.mono s12
              have m1 : ∀ fr, Same (cutF fr H0 H1 (Bs T σ ρ)) (cutF fr H0 H2 (Bs T σ ρ)) := fun fr => cutF_mono (fun b o q _ => s2 b o q) fun b z => .inl z
              have m2 : ∀ fr, Same (cutF fr H0 H (Bs T σ ρ)) (cutF fr H0 H2 (Bs T σ ρ)) := fun fr => cutF_mono (fun b o q _ => s12 b o q) fun b z => .inl z
              have rv : Rep X.K (cutF (y.1 && r.fr) H0 H2 (Bs T σ ρ)) r.d v := by
                obtain ⟨_, _, z1, z2, _⟩ := (Reps.one (Rep.same (m1 _) w2)).andR (fr := y.1)
                cases z1; exact z2
              have pk := put_ok' (j := j) q4 (Reps.same (m2 _) q5).andL rv
              refine ⟨a, _, rfl, .inr ⟨kvs, j.map Sum.inl, bb, s12 _ _ q3, k1, k2, by rw [q4.len]; exact hz, rfl⟩, ?_⟩
              obtain ⟨v1, v2⟩ := dS.writeO (fr := y.1 && r.fr) (dd := .dct (dPut y.2.1 y.2.2 j r.d).1 (dPut y.2.1 y.2.2 j r.d).2) (o' := .dT (putK kvs (j.map Sum.inl) v)) q1 ho rfl q2 ⟨_, rfl, pk.1, pk.2⟩
              exact h σ _ v1 ((Ext.same s12).trans v2)
            · rw [if_neg hz] at h; exact h.elim
end Mir
set_option Elab.async false
set_option linter.all false
set_option maxRecDepth 100000
set_option maxHeartbeats 1000000
namespace Srt
open PySem PySem.W PyProof.Rows
def pw (lt : Nat → Nat → Bool) (n : Nat) : KasT α → (α → Prop) → Prop
  | .ret a, Q => Q a
  | .ask i j k, Q => i < n ∧ j < n ∧ pw lt n (k (lt i j)) Q
section
variable {lt : Nat → Nat → Bool} {n : Nat}
theorem pw_bind {α β : Type} {f : α → KasT β} {Q : β → Prop} : ∀ {t : KasT α}, pw lt n t (fun a => pw lt n (f a) Q) → pw lt n (t.bind f) Q
  | .ret _, h => h
  | .ask _ _ _, ⟨h1, h2, h3⟩ => ⟨h1, h2, pw_bind h3⟩
theorem pw_mono {α : Type} {Q Q' : α → Prop} (hq : ∀ a, Q a → Q' a) : ∀ {t : KasT α}, pw lt n t Q → pw lt n t Q'
  | .ret _, h => hq _ h
  | .ask _ _ _, ⟨h1, h2, h3⟩ => ⟨h1, h2, pw_mono hq h3⟩
theorem pw_wp {α : Type} {cmp : Nat → Nat → (Bool → Shared → Prop) → Shared → Prop} {I : Shared → Prop} (hc : ∀ i j C s, i < n → j < n → I s → (∀ s', I s' → C (lt i j) s') → cmp i j C s) {R : α → Prop} {Q : α → Shared → Prop} (hq : ∀ a s, R a → I s → Q a s) :
    ∀ {t : KasT α} {s : Shared}, pw lt n t R → I s → t.kasWp cmp Q s
  | .ret _, _, h, i => hq _ _ h i
  | .ask _ _ _, _, ⟨h1, h2, h3⟩, i => hc _ _ _ _ h1 h2 i fun s' i' => pw_wp hc hq h3 i'
def at' (p : Array Nat) (k : Nat) : Nat := p.getD k 0
def Le (lt : Nat → Nat → Bool) (a b : Nat) : Prop := lt b a = false
structure Ord (lt : Nat → Nat → Bool) : Prop where
  tr : ∀ {a b c}, Le lt a b → Le lt b c → Le lt a c
  tot : ∀ {a b}, lt a b = true → Le lt a b
theorem Ord.refl (o : Ord lt) (a : Nat) : Le lt a a := by
  cases h : lt a a with
  | false => exact h
  | true => exact o.tot h
def Inv (n : Nat) (p : Array Nat) : Prop := p.Perm (List.range n).toArray
theorem Inv.size {p : Array Nat} (h : Inv n p) : p.size = n := by simpa using h.size_eq
theorem Inv.bd {p : Array Nat} (h : Inv n p) {k : Nat} (hk : k < n) : at' p k < n := by
  have hk' : k < p.size := by rw [h.size]; exact hk
  have : p[k] ∈ (List.range n).toArray := h.mem_iff.mp (Array.getElem_mem hk')
  unfold at'
  simpa [Array.getD, hk'] using this
theorem at_rev {p : Array Nat} {i j : Nat} (hj : j ≤ p.size) (k : Nat) : at' (kas_rev p i j) k = if i ≤ k ∧ k < j then at' p (i + j - 1 - k) else at' p k := by
  have e := getElem?_mirror_all (xs := p) (i := i) hj k
  have g : ∀ (q : Array Nat) (j : Nat), at' q j = (q[j]?).getD 0 := fun q j => Array.getD_eq_getD_getElem? ..
  rw [g, g, g, kas_rev, e]
  split <;> rfl
theorem at_bub {p : Array Nat} {s d : Nat} (hs : s < p.size) (hd : d ≤ s) (k : Nat) : at' (bubble p s d) k = if k = s - d then at' p s else if s - d < k ∧ k ≤ s then at' p (k - 1) else at' p k := by
  have e := (getElem?_bubble hs d hd k)
  have g : ∀ (q : Array Nat) (j : Nat), at' q j = (q[j]?).getD 0 := fun q j => Array.getD_eq_getD_getElem? ..
  rw [g, g, g, g, e]
  split
  · rfl
  · split <;> rfl
theorem Inv.rev {p : Array Nat} (h : Inv n p) (i j : Nat) : Inv n (kas_rev p i j) := (mirror_perm _ _ _ _).trans h
theorem Inv.bub {p : Array Nat} (h : Inv n p) (i j : Nat) : Inv n (bubble p i j) := (bubble_perm _ _ _).trans h
def Up (lt : Nat → Nat → Bool) (p : Array Nat) (m : Nat) : Prop := ∀ i j, i ≤ j → j < m → Le lt (at' p i) (at' p j)
def Dn (lt : Nat → Nat → Bool) (p : Array Nat) (m : Nat) : Prop := ∀ i j, i ≤ j → j < m → Le lt (at' p j) (at' p i)
theorem Up.step (o : Ord lt) {p : Array Nat} {m : Nat} (h : Up lt p m) (hm : 1 ≤ m) (e : Le lt (at' p (m - 1)) (at' p m)) : Up lt p (m + 1) := fun i j hij hj => by
  by_cases h1 : j < m
  · exact h i j hij h1
  · have : j = m := by omega
    subst this
    by_cases h2 : i = j
    · subst h2; exact o.refl _
    · exact o.tr (h i (j - 1) (by omega) (by omega)) e
theorem Dn.step (o : Ord lt) {p : Array Nat} {m : Nat} (h : Dn lt p m) (hm : 1 ≤ m) (e : Le lt (at' p m) (at' p (m - 1))) : Dn lt p (m + 1) := fun i j hij hj => by
  by_cases h1 : j < m
  · exact h i j hij h1
  · have : j = m := by omega
    subst this
    by_cases h2 : i = j
    · subst h2; exact o.refl _
    · exact o.tr e (h i (j - 1) (by omega) (by omega))
theorem pw_asc (o : Ord lt) {p : Array Nat} (ip : Inv n p) : ∀ (f a : Nat), 1 ≤ a → a + f ≤ n → Up lt p a → pw lt n (kas_asc p f a) fun m => a ≤ m ∧ m ≤ a + f ∧ Up lt p m ∧ (m = a + f ∨ lt (at' p m) (at' p (m - 1)) = true)
  | 0, a, h1, h2, u => ⟨Nat.le_refl _, Nat.le_refl _, u, .inl rfl⟩
  | f + 1, a, h1, h2, u => by
    refine ⟨ip.bd (by omega), ip.bd (by omega), ?_⟩
    cases c : lt (p.getD a 0) (p.getD (a - 1) 0) with
    | true => exact ⟨Nat.le_refl _, by omega, u, .inr c⟩
    | false =>
      refine pw_mono ?_ (pw_asc o ip f (a + 1) (by omega) (by omega) (u.step o h1 c))
      rintro m ⟨q1, q2, q3, q4⟩
      exact ⟨by omega, by omega, q3, q4.imp (fun z => by omega) id⟩
def Eqs (lt : Nat → Nat → Bool) (p : Array Nat) (m q : Nat) : Prop := ∀ i j, m - (q + 1) ≤ i → i < m → m - (q + 1) ≤ j → j < m → Le lt (at' p i) (at' p j)
theorem Dn.rev (o : Ord lt) {p : Array Nat} {m q : Nat} (h : Dn lt p m) (e : Eqs lt p m q) (hm : m ≤ p.size) : Dn lt (kas_rev p (m - (q + 1)) m) m := fun i j hij hj => by
  rw [at_rev hm, at_rev hm]
  split
  · split
    · exact e _ _ (by omega) (by omega) (by omega) (by omega)
    · exact h _ _ (by omega) (by omega)
  · split
    · omega
    · exact h _ _ hij hj
theorem pw_desc (o : Ord lt) : ∀ (f : Nat) (p : Array Nat) (m q : Nat), Inv n p → 1 ≤ m → q + 1 ≤ m → m + f ≤ n → Dn lt p m → Eqs lt p m q → pw lt n (kas_desc f p m q) fun r => Inv n r.1 ∧ m ≤ r.2.1 ∧ r.2.1 ≤ m + f ∧ Dn lt r.1 r.2.1 ∧ r.2.2 + 1 ≤ r.2.1 ∧ Eqs lt r.1 r.2.1 r.2.2
  | 0, p, m, q, ip, h1, h2, h3, d, e => ⟨ip, Nat.le_refl _, Nat.le_refl _, d, h2, e⟩
  | f + 1, p, m, q, ip, h1, h2, h3, d, e => by
    have one : ∀ p' : Array Nat, Eqs lt p' (m + 1) 0 := fun p' i j a1 a2 a3 a4 => by
      have : i = j := by omega
      subst this; exact o.refl _
    refine ⟨ip.bd (by omega), ip.bd (by omega), ?_⟩
    cases c : lt (p.getD m 0) (p.getD (m - 1) 0) with
    | true =>
      simp only [if_true]
      have cc : Le lt (at' p m) (at' p (m - 1)) := o.tot c
      by_cases hq : q > 0
      · rw [if_pos hq]
        refine pw_mono ?_ (pw_desc o f (kas_rev p (m - (q + 1)) m) (m + 1) 0 (ip.rev _ _) (by omega) (by omega) (by omega) ?_ (one _))
        · rintro r ⟨q1, q2, q3, q4⟩
          exact ⟨q1, by omega, by omega, q4⟩
        · refine (d.rev o e (by rw [ip.size]; omega)).step o h1 ?_
          rw [at_rev (by rw [ip.size]; omega), at_rev (by rw [ip.size]; omega), if_neg (by omega), if_pos (by omega)]
          exact o.tr cc (e _ _ (by omega) (by omega) (by omega) (by omega))
      · rw [if_neg hq]
        refine pw_mono ?_ (pw_desc o f p (m + 1) 0 ip (by omega) (by omega) (by omega) (d.step o h1 cc) (one _))
        rintro r ⟨q1, q2, q3, q4⟩
        exact ⟨q1, by omega, by omega, q4⟩
    | false =>
      have c1 : Le lt (at' p (m - 1)) (at' p m) := c
      simp only [if_false, Bool.false_eq_true]
      refine ⟨ip.bd (by omega), ip.bd (by omega), ?_⟩
      cases c' : lt (p.getD (m - 1) 0) (p.getD m 0) with
      | true => exact ⟨ip, Nat.le_refl _, Nat.le_add_right _ _, d, h2, e⟩
      | false =>
        have c2 : Le lt (at' p m) (at' p (m - 1)) := c'
        simp only [if_false, Bool.false_eq_true]
        refine pw_mono ?_ (pw_desc o f p (m + 1) (q + 1) ip (by omega) (by omega) (by omega) (d.step o h1 c2) ?_)
        · rintro r ⟨q1, q2, q3, q4⟩
          exact ⟨q1, by omega, by omega, q4⟩
        · intro i j a1 a2 a3 a4
          by_cases hi : i = m
          · by_cases hj : j = m
            · rw [hi, hj]; exact o.refl _
            · rw [hi]; exact o.tr c2 (e _ _ (by omega) (by omega) (by omega) (by omega))
          · by_cases hj : j = m
            · rw [hj]; exact o.tr (e _ (m - 1) (by omega) (by omega) (by omega) (by omega)) c1
            · exact e _ _ (by omega) (by omega) (by omega) (by omega)
def Cnt (lt : Nat → Nat → Bool) (n : Nat) (r : Nat × Array Nat) : Prop := Inv n r.2 ∧ 1 ≤ r.1 ∧ r.1 ≤ n ∧ Up lt r.2 r.1
theorem pw_tail (o : Ord lt) {p : Array Nat} {m : Nat} (ip : Inv n p) (h1 : 1 ≤ m) (h2 : m ≤ n) (d : Dn lt p m) : pw lt n (kas_tail3 m n p) (Cnt lt n) := by
  refine pw_bind (pw_mono ?_ (pw_asc o (ip.rev 0 m) (n - m) m h1 (by omega) fun i j hij hj => ?_))
  · rintro a ⟨q1, q2, q3, _⟩
    exact ⟨ip.rev 0 m, by omega, by omega, q3⟩
  · rw [at_rev (by rw [ip.size]; omega), at_rev (by rw [ip.size]; omega), if_pos (by omega), if_pos (by omega)]
    exact d _ _ (by omega) (by omega)
theorem pw_descPart (o : Ord lt) {p : Array Nat} {m : Nat} (ip : Inv n p) (h1 : 1 ≤ m) (h2 : m + 1 ≤ n) (d : Dn lt p (m + 1)) : pw lt n (kas_descPart m n p) (Cnt lt n) := by
  refine pw_bind (pw_mono ?_ (pw_desc o (n - (m + 1)) p (m + 1) 0 ip (by omega) (by omega) (by omega) d fun i j a1 a2 a3 a4 => ?_))
  · rintro ⟨p', m', q'⟩ ⟨q1, q2, q3, q4, q5, q6⟩
    dsimp only at q1 q2 q3 q4 q5 q6 ⊢
    split
    · exact pw_tail o (q1.rev _ _) (by omega) (by omega) (q4.rev o q6 (by rw [q1.size]; omega))
    · exact pw_tail o q1 (by omega) (by omega) q4
  · have : i = j := by omega
    subst this; exact o.refl _
theorem pw_count (o : Ord lt) {p : Array Nat} (ip : Inv n p) (hn : 1 ≤ n) : pw lt n (kas_count n p) (Cnt lt n) := by
  refine pw_bind (pw_mono ?_ (pw_asc o ip (n - 1) 1 (Nat.le_refl _) (by omega) fun i j hij hj => ?_))
  · rintro m ⟨q1, q2, q3, q4⟩
    by_cases hm : m = n
    · rw [if_pos (by simpa using hm)]
      exact ⟨ip, q1, by omega, q3⟩
    · rw [if_neg (by simpa using hm)]
      have c : Le lt (at' p m) (at' p (m - 1)) := by
        rcases q4 with z | z
        · omega
        · exact o.tot z
      by_cases h1 : m > 1
      · rw [if_pos h1]
        refine ⟨ip.bd (by omega), ip.bd (by omega), ?_⟩
        cases e : lt (p.getD 0 0) (p.getD (m - 1) 0) with
        | true => exact ⟨ip, q1, by omega, q3⟩
        | false =>
          simp only [if_false, Bool.false_eq_true]
          have e' : Le lt (at' p (m - 1)) (at' p 0) := e
          have all : ∀ i j, i < m → j < m → Le lt (at' p i) (at' p j) := fun i j hi hj => o.tr (q3 i (m - 1) (by omega) (by omega)) (o.tr e' (q3 0 j (Nat.zero_le _) hj))
          refine pw_descPart o (ip.rev 0 m) q1 (by omega) fun i j hij hj => ?_
          have hs : m ≤ p.size := by rw [ip.size]; omega
          rw [at_rev hs, at_rev hs]
          by_cases hj' : j < m
          · rw [if_pos (by omega), if_pos (by omega)]
            exact all _ _ (by omega) (by omega)
          · rw [if_neg (by omega)]
            by_cases hi' : i < m
            · rw [if_pos (by omega)]
              have : j = m := by omega
              subst this
              exact o.tr c (all _ _ (by omega) (by omega))
            · rw [if_neg (by omega)]
              have : i = j := by omega
              subst this; exact o.refl _
      · rw [if_neg h1]
        have : m = 1 := by omega
        subst this
        refine pw_descPart o ip q1 (by omega) fun i j hij hj => ?_
        by_cases h : i = j
        · subst h; exact o.refl _
        · have : i = 0 ∧ j = 1 := by omega
          rw [this.1, this.2]; exact c
  · have : i = j := by omega
    subst this; exact o.refl _
theorem pw_place (o : Ord lt) {p : Array Nat} {k : Nat} (ip : Inv n p) (hk : k < n) (u : Up lt p k) : ∀ (f l r : Nat), r ≤ l + f → r ≤ k → l ≤ k → (∀ i, i < l → Le lt (at' p i) (at' p k)) → (∀ i, r ≤ i → i < k → Le lt (at' p k) (at' p i)) →
    pw lt n (kas_place p k f l r) fun m => m ≤ k ∧ (∀ i, i < m → Le lt (at' p i) (at' p k)) ∧ ∀ i, m ≤ i → i < k → Le lt (at' p k) (at' p i)
  | 0, l, r, h1, h2, h3, h4, h5 => ⟨h3, h4, fun i a b => h5 i (by omega) b⟩
  | f + 1, l, r, h1, h2, h3, h4, h5 => by
    unfold kas_place
    split
    · exact ⟨h3, h4, fun i a b => h5 i (by omega) b⟩
    · rename_i hlr
      refine ⟨ip.bd hk, ip.bd (by omega), ?_⟩
      cases c : lt (p.getD k 0) (p.getD ((l + r) / 2) 0) with
      | true =>
        simp only [if_true]
        have cc : Le lt (at' p k) (at' p ((l + r) / 2)) := o.tot c
        exact pw_place o ip hk u f l ((l + r) / 2) (by omega) (by omega) h3 h4 fun i a b => o.tr cc (u _ _ a b)
      | false =>
        simp only [if_false, Bool.false_eq_true]
        have cc : Le lt (at' p ((l + r) / 2)) (at' p k) := c
        exact pw_place o ip hk u f ((l + r) / 2 + 1) r (by omega) h2 (by omega) (fun i a => o.tr (u i ((l + r) / 2) (by omega) (by omega)) cc) h5
theorem pw_bin (o : Ord lt) : ∀ (f : Nat) (p : Array Nat) (k : Nat), Inv n p → k + f ≤ n → Up lt p k → pw lt n (kas_bin f p k) fun p' => Inv n p' ∧ Up lt p' (k + f)
  | 0, p, k, ip, h, u => ⟨ip, u⟩
  | f + 1, p, k, ip, h, u => by
    refine pw_bind (pw_mono ?_ (pw_place o ip (by omega) u k 0 k (by omega) (Nat.le_refl _) (Nat.zero_le _) (fun i z => absurd z (Nat.not_lt_zero _)) fun i a b => by omega))
    rintro m ⟨q1, q2, q3⟩
    refine pw_mono ?_ (pw_bin o f (bubble p k (k - m)) (k + 1) (ip.bub _ _) (by omega) fun i j hij hj => ?_)
    · rintro p' ⟨w1, w2⟩
      exact ⟨w1, by rw [show k + (f + 1) = k + 1 + f by omega]; exact w2⟩
    · have hs : k < p.size := by rw [ip.size]; omega
      rw [at_bub hs (by omega), at_bub hs (by omega)]
      by_cases i1 : i = k - (k - m)
      · rw [if_pos i1]
        by_cases j1 : j = k - (k - m)
        · rw [if_pos j1]; exact o.refl _
        · rw [if_neg j1, if_pos (by omega)]
          exact q3 _ (by omega) (by omega)
      · rw [if_neg i1]
        by_cases j1 : j = k - (k - m)
        · rw [if_pos j1, if_neg (by omega)]
          exact q2 _ (by omega)
        · rw [if_neg j1]
          by_cases i2 : k - (k - m) < i ∧ i ≤ k
          · rw [if_pos i2, if_pos (by omega)]
            exact u _ _ (by omega) (by omega)
          · rw [if_neg i2]
            by_cases j2 : k - (k - m) < j ∧ j ≤ k
            · rw [if_pos j2]; exact u _ _ (by omega) (by omega)
            · rw [if_neg j2]; exact u _ _ (by omega) (by omega)
theorem pw_sort (o : Ord lt) (hn : 1 ≤ n) : pw lt n (kas_sort n) fun p => Inv n p ∧ Up lt p n := by
  refine pw_bind (pw_mono ?_ (pw_count o (show Inv n (List.range n).toArray from Array.Perm.refl _) hn))
  rintro ⟨m, p⟩ ⟨q1, q2, q3, q4⟩
  dsimp only at q1 q2 q3 q4 ⊢
  split
  · refine pw_mono ?_ (pw_bin o (n - max m 1) p (max m 1) q1 (by omega) ?_)
    · rintro p' ⟨w1, w2⟩
      exact ⟨w1, by rw [show n = max m 1 + (n - max m 1) by omega]; exact w2⟩
    · rw [show max m 1 = m by omega]; exact q4
  · exact ⟨q1, by rw [show n = m by omega]; exact q4⟩
end
end Srt
set_option Elab.async false
set_option linter.all false
set_option maxRecDepth 100000
set_option maxHeartbeats 2100000
namespace Srt
open PySem PySem.W PyProof.Rows
def Like (t s : Shared) : Prop := ∃ tk, s = { t with toks := tk }
theorem Like.refl (t : Shared) : Like t t := ⟨t.toks, rfl⟩
section
variable {prog : Program} {w : World} {A : Around} {E : Value → Shared → Prop} {s : Shared} {lt : Nat → Nat → Bool}
def Answers (prog : Program) (w : World) (A : Around) (lt : Nat → Nat → Bool) (vs : List Value) (κ : SortKind) (t : Shared) : Prop :=
  ∀ i j C s1, i < vs.length → j < vs.length → Like t s1 → (∀ s2, Like t s2 → C (lt i j) s2) → kas_ask prog w A κ vs i j C s1
theorem sort_list (o : Ord lt) {a : Addr} {vs : List Value} {n : Nat} {P : PySem.Fin → Shared → Prop} (at0 : s.heap.get? a = some (seqObj "list" vs.toArray n)) (few : vs.length < 64)
    (ask : 2 ≤ vs.length → ∀ t : Shared, (∀ b x, b ≠ a → s.heap.get? b = some x → t.heap.get? b = some x) → wpAny (model prog w) A (keyKind' vs.toArray) (fun κ t' => Like t t' ∧ Answers prog w A lt vs κ t) (fun _ _ => False) t)
    (fin : ∀ (p : Array Nat) (h' : Heap) (tk c : Nat), Inv vs.length p → Up lt p vs.length → (∀ b x, b ≠ a → s.heap.get? b = some x → h'.get? b = some x) → h'.get? a = some (seqObj "list" (List.toArray (p.toList.map fun i => vs.getD i Value.none)) c) → P (.done (.ret .none)) { s with heap := h', toks := tk }) :
    wpAny (model prog w) A (Builtin.«list.sort» (⟨[.ref a], []⟩)) P E s := by
  have lts : a < s.heap.objs.size := Heap.lt_size at0
  have line : vs.length ≤ sizeLine := by rw [sizeLine_eq]; omega
  rw [list_sort_plain]
  refine wpAny_bind (listItems_at at0 rfl ?_)
  refine wpAny_bind (listUpdate_at at0 rfl ?_ (by rw [List.size_toArray]; exact line) (Nat.zero_le _))
  generalize hU : s.heap.update a (Obj.mapSeq fun _ => (#[] : Array Value)) = U
  have sb : Heap.SameBut a s.heap U := hU ▸ Heap.SameBut.update s.heap a _
  obtain ⟨ep, atU⟩ : ∃ ep, U.get? a = some (seqObj "list" #[] ep) := ⟨_, hU ▸ get?_update_seq at0 fun _ => #[]⟩
  refine wpAny_bind (seqEpoch_at atU rfl ?_)
  refine wpAny_bind (wpAny_newTuple ?_ line)
  refine wpAny_bind (wpAny_newList (wpAny_holding ?_) (Nat.zero_le _))
  generalize hV : (U.push (seqObj "tuple" vs.toArray 0)).push (seqObj "list" #[] 0) = Vh
  have up : ∀ b x, U.get? b = some x → Vh.get? b = some x := fun b x q => hV ▸ Heap.get?_push_of_some _ (Heap.get?_push_of_some _ q)
  have kp : ∀ b x, b ≠ a → s.heap.get? b = some x → Vh.get? b = some x := fun b x nb q => up b x ((sb.2 b nb).trans q)
  show wpAny (model prog w) A _ P E { s with heap := Vh }
  dsimp only
  have size : ∀ (p : Array Nat) (out : Array Value), out = List.toArray (p.toList.map fun i => vs.getD i Value.none) → Inv vs.length p → out.size ≤ sizeLine + 1 := fun p out ho ip => by
    rw [ho, List.size_toArray, List.length_map, Array.length_toList, ip.size]; exact Nat.le_succ_of_le line
  have last : ∀ (p : Array Nat) (tk : Nat) (out : Array Value), out = List.toArray (p.toList.map fun i => vs.getD i Value.none) → Inv vs.length p → Up lt p vs.length → P (.done (.ret .none)) { s with heap := Vh.update a (Obj.mapSeq fun _ => out), toks := tk } := fun p tk out ho ip u => by
    have sv := Heap.SameBut.update Vh a (Obj.mapSeq fun _ => out)
    obtain ⟨c, atc⟩ : ∃ c, (Vh.update a (Obj.mapSeq fun _ => out)).get? a = some (seqObj "list" out c) := ⟨_, get?_update_seq (up _ _ atU) fun _ => out⟩
    exact fin p _ tk c ip u (fun b x nb q => (sv.2 b nb).trans (kp b x nb q)) (by rw [← ho]; exact atc)
  by_cases two : vs.toArray.size < 2
  · rw [if_pos two, if_pos two]
    have tw : vs.length < 2 := by simpa using two
    refine wpAny_bind (wpAny_pure ?_)
    rw [StateT.run_pure]
    refine wpAny_bind (wpAny_pure ?_)
    have ident : (arrOf (SortSt.mk' general' (vs.toArray.zip vs.toArray) #[] 7 none)).map (·.2) = List.toArray ((List.range vs.length).toArray.toList.map fun i => vs.getD i Value.none) := by
      show (vs.toArray.zip vs.toArray).map (·.2) = _
      match vs, tw with
      | [], _ => simp
      | [v], _ => simp
    have alone : Up lt (List.range vs.length).toArray vs.length := fun i j hij hj => by
      have : i = j := by omega
      subst this
      exact o.refl _
    dsimp only
    refine wpAny_bind (seqEpoch_at (up _ _ atU) rfl (wpAny_bind (listUpdate_at (up _ _ atU) rfl ?_ (Nat.zero_le _) (size (List.range vs.length).toArray _ ident (show Inv vs.length (List.range vs.length).toArray from Array.Perm.refl _)))))
    simp only [if_false, Bool.false_eq_true, bne_self_eq_false]
    exact wpAny_pure (last (List.range vs.length).toArray s.toks _ ident (show Inv vs.length (List.range vs.length).toArray from Array.Perm.refl _) alone)
  · rw [if_neg two, if_neg two]
    have tw : 2 ≤ vs.length := by simpa using two
    refine wpAny_bind (wpAny_mono (ask tw { s with heap := Vh } kp) (fun κ t' ⟨lk, an⟩ => ?_) fun _ _ z => z.elim)
    obtain ⟨tk0, e0⟩ := lk
    subst e0
    refine wpAny_bind (wpAny_mono (kat_run (ks := vs) (vs := vs) (κ := κ) (Q := fun st' s' => ∃ p : Array Nat, arrOf st' = p.map (kas_item (vs.toArray.zip vs.toArray)) ∧ failedOf st' = none ∧ (Inv vs.length p ∧ Up lt p vs.length) ∧ Like { s with heap := Vh } s')
      (G := fun p s' => (Inv vs.length p ∧ Up lt p vs.length) ∧ Like { s with heap := Vh } s') rfl tw few (fun p st' s' _ a2 a3 a4 => ⟨p, a2, a3, a4.1, a4.2⟩) (pw_wp (I := Like { s with heap := Vh }) (fun i j C s1 hi hj l q => an i j C s1 hi hj l q) (fun p s1 r l => ⟨r, l⟩) (pw_sort o (by omega)) ⟨tk0, rfl⟩)) ?_ fun _ _ z => z)
    rintro ⟨⟨⟩, st'⟩ s' ⟨p, ar, fl, ⟨ip, u⟩, tk1, e1⟩
    subst e1
    dsimp only
    refine wpAny_bind (seqEpoch_at (up _ _ atU) rfl (wpAny_bind (listUpdate_at (up _ _ atU) rfl ?_ (Nat.zero_le _) (size p _ (kat_snds rfl ar) ip))))
    rw [fl]
    simp only [if_false, Bool.false_eq_true, bne_self_eq_false]
    exact wpAny_pure (last p tk1 _ (kat_snds rfl ar) ip u)
end
end Srt
set_option Elab.async false
set_option linter.all false
set_option maxRecDepth 100000
set_option maxHeartbeats 2100000
namespace Srt
open PySem PySem.W PyProof.Rows
abbrev lx := HT.lexLt
theorem lx_irr : ∀ a : List Int, lx a a = false
  | [] => rfl
  | x :: a => by show (if x = x then lx a a else _) = false; rw [if_pos rfl]; exact lx_irr a
theorem lx_asy : ∀ {a b : List Int}, lx a b = true → lx b a = false
  | [], [], _ => rfl
  | [], _ :: _, _ => rfl
  | _ :: _, [], h => by cases h
  | x :: a, y :: b, h => by
    have h' : (if x = y then lx a b else decide (x < y)) = true := h
    show (if y = x then lx b a else decide (y < x)) = false
    by_cases e : x = y
    · rw [if_pos e] at h'; rw [if_pos e.symm]; exact lx_asy h'
    · rw [if_neg e] at h'; rw [if_neg (Ne.symm e)]
      have := of_decide_eq_true h'
      exact decide_eq_false (by omega)
theorem lx_tri : ∀ {a b : List Int}, lx a b = false → lx b a = false → a = b
  | [], [], _, _ => rfl
  | [], (_ :: _), h, _ => (by cases h)
  | (_ :: _), [], _, h => (by cases h)
  | x :: a, y :: b, h, g => by
    have h' : (if x = y then lx a b else decide (x < y)) = false := h
    have g' : (if y = x then lx b a else decide (y < x)) = false := g
    by_cases e : x = y
    · rw [if_pos e] at h'; rw [if_pos e.symm] at g'; rw [e, lx_tri h' g']
    · rw [if_neg e] at h'; rw [if_neg (Ne.symm e)] at g'
      have u := of_decide_eq_false h'
      have v := of_decide_eq_false g'
      omega
theorem lx_trs : ∀ {a b c : List Int}, lx a b = true → lx b c = true → lx a c = true
  | [], [], _, h, _ => by cases h
  | [], _ :: _, [], _, g => by cases g
  | [], (_ :: _), (_ :: _), _, _ => rfl
  | (_ :: _), [], _, h, _ => (by cases h)
  | _ :: _, _ :: _, [], _, g => by cases g
  | x :: a, y :: b, z :: c, h, g => by
    have h' : (if x = y then lx a b else decide (x < y)) = true := h
    have g' : (if y = z then lx b c else decide (y < z)) = true := g
    show (if x = z then lx a c else decide (x < z)) = true
    by_cases e : x = y
    · rw [if_pos e] at h'
      by_cases f : y = z
      · rw [if_pos f] at g'; rw [if_pos (e.trans f)]; exact lx_trs h' g'
      · rw [if_neg f] at g'; rw [if_neg (by omega)]; have := of_decide_eq_true g'; exact decide_eq_true (by omega)
    · rw [if_neg e] at h'
      have u := of_decide_eq_true h'
      by_cases f : y = z
      · rw [if_neg (by omega)]; exact decide_eq_true (by omega)
      · rw [if_neg f] at g'; have v := of_decide_eq_true g'; rw [if_neg (by omega)]; exact decide_eq_true (by omega)
theorem ord_of {α : Type} {r : α → α → Bool} (key : Nat → α) (asy : ∀ {a b}, r a b = true → r b a = false) (tri : ∀ {a b}, r a b = false → r b a = false → a = b) (trs : ∀ {a b c}, r a b = true → r b c = true → r a c = true) : Ord fun i j => r (key i) (key j) := by
  refine ⟨fun {a b c} h g => ?_, fun h => asy h⟩
  have h' : r (key b) (key a) = false := h
  have g' : r (key c) (key b) = false := g
  show r (key c) (key a) = false
  cases q : r (key c) (key a) with
  | false => rfl
  | true =>
    cases ab : r (key a) (key b) with
    | true => have := trs q ab; rw [g'] at this; cases this
    | false => rw [tri ab h'] at q; rw [g'] at q; cases q
def px (a b : List Int × Int) : Bool := if a.1 = b.1 then decide (a.2 < b.2) else lx a.1 b.1
theorem px_asy {a b : List Int × Int} (h : px a b = true) : px b a = false := by
  unfold px at h ⊢
  by_cases e : a.1 = b.1
  · rw [if_pos e] at h; rw [if_pos e.symm]; have := of_decide_eq_true h; exact decide_eq_false (by omega)
  · rw [if_neg e] at h; rw [if_neg (Ne.symm e)]; exact lx_asy h
theorem px_tri {a b : List Int × Int} (h : px a b = false) (g : px b a = false) : a = b := by
  unfold px at h g
  by_cases e : a.1 = b.1
  · rw [if_pos e] at h; rw [if_pos e.symm] at g
    have u := of_decide_eq_false h
    have v := of_decide_eq_false g
    exact Prod.ext e (by omega)
  · rw [if_neg e] at h; rw [if_neg (Ne.symm e)] at g; exact absurd (lx_tri h g) e
theorem px_trs {a b c : List Int × Int} (h : px a b = true) (g : px b c = true) : px a c = true := by
  unfold px at h g ⊢
  by_cases e : a.1 = b.1
  · rw [if_pos e] at h
    by_cases f : b.1 = c.1
    · rw [if_pos f] at g; rw [if_pos (e.trans f)]
      have u := of_decide_eq_true h
      have v := of_decide_eq_true g
      exact (decide_eq_true (by omega))
    · rw [if_neg f] at g; rw [if_neg (by rw [e]; exact f), e]; exact g
  · rw [if_neg e] at h
    by_cases f : b.1 = c.1
    · rw [if_neg (by rw [← f]; exact e), ← f]; exact h
    · rw [if_neg f] at g
      have t := lx_trs h g
      rw [if_neg (fun z => by rw [z, lx_irr] at t; cases t)]; exact t
section
variable {prog : Program} {w : World} {A : Around} {E : Value → Shared → Prop} {s : Shared}
theorem lex_ints {b : Bool} {Q : Bool → Shared → Prop} : ∀ (xs ys : List Value) (ms ns : List Int) (i : Nat), IntsAre xs ms → IntsAre ys ns → Q (lx ms ns) s → KatLex prog w A b (decide (xs.length < ys.length)) Q (xs.zip ys) i s
  | [], [], _, _, _, .nil, .nil, q => q
  | [], _ :: _, _, _, _, .nil, .cons _ _ _, q => q
  | _ :: _, [], _, _, _, .cons _ _ _, .nil, q => q
  | _ :: xs, _ :: ys, _, _, i, .cons m t hm, .cons n u hn, q => by
    have e : decide ((Value.int m t :: xs).length < (Value.int n u :: ys).length) = decide (xs.length < ys.length) := by simp
    rw [e]
    refine kat_cons (wpAny_eqBool_int ?_)
    rename_i ms' ns'
    have q' : Q (if m = n then lx ms' ns' else decide (m < n)) s := q
    by_cases z : m = n
    · rw [if_pos z] at q'
      rw [show (m == n) = true by simpa using z]
      exact kat_yes (lex_ints xs ys _ _ (i + 1) hm hn q')
    · rw [if_neg z] at q'
      rw [show (m == n) = false by simpa using z]
      refine kat_no ?_
      cases hb : (b && i == 0) with
      | true => exact oneLt_int q'
      | false => exact kat_one _ _ (PyProof.Rows.lt_int q')
def TupsAre (h : Heap) (vs : List Value) (ks : List (List Int)) : Prop := vs.length = ks.length ∧ ∀ (i : Nat) (k : List Int), ks[i]? = some k → ∃ a its, vs[i]? = some (.ref a) ∧ IsTup h a its ∧ IntsAre its.toList k
theorem TupsAre.keeps {h h' : Heap} {vs : List Value} {ks : List (List Int)} (t : TupsAre h vs ks) (k : ∀ a, Value.ref a ∈ vs → ∀ o, h.get? a = some o → h'.get? a = some o) : TupsAre h' vs ks :=
  ⟨t.1, fun i q hq => let ⟨a, its, h1, ⟨o, h2, h3⟩, h4⟩ := t.2 i q hq; ⟨a, its, h1, ⟨o, k a (List.mem_of_getElem? h1) o h2, h3⟩, h4⟩⟩
theorem TupsAre.at_ {h : Heap} {vs : List Value} {ks : List (List Int)} (t : TupsAre h vs ks) {i : Nat} (hi : i < vs.length) : ∃ a its, vs.getD i Value.none = .ref a ∧ IsTup h a its ∧ IntsAre its.toList (ks.getD i []) := by
  have hk : i < ks.length := by rw [← t.1]; exact hi
  obtain ⟨a, its, h1, h2, h3⟩ := t.2 i ks[i] (List.getElem?_eq_getElem hk)
  refine ⟨a, its, by rw [List.getD_eq_getElem?_getD, h1]; rfl, h2, ?_⟩
  rw [List.getD_eq_getElem?_getD, List.getElem?_eq_getElem hk]; exact h3
theorem firsts_of {h : Heap} : ∀ {vs : List Value} {ks : List (List Int)}, TupsAre h vs ks → (∀ k ∈ ks, k ≠ []) → ∃ fs, KatTups h vs fs ∧ fs.length = vs.length ∧ ∀ v ∈ fs, ∃ i t, v = Value.int i t
  | [], ks, t, _ => ⟨[], .nil, rfl, fun _ z => nomatch z⟩
  | v :: vs, [], t, _ => by have := t.1; simp at this
  | v :: vs, k :: ks, t, ne => by
    obtain ⟨a, its, h1, ⟨o, h2, h3, n, h4⟩, h5⟩ := t.2 0 k rfl
    have e : v = .ref a := by simpa using h1
    subst e
    obtain ⟨fs, f1, f2, f3⟩ := firsts_of (vs := vs) (ks := ks) ⟨by simpa using t.1, fun i q hq => by
      obtain ⟨a', its', u1, u2⟩ := t.2 (i + 1) q (by simpa using hq)
      exact ⟨a', its', by simpa using u1, u2⟩⟩ fun q hq => ne q (List.mem_cons_of_mem _ hq)
    obtain ⟨f, tf, hf⟩ : ∃ f tf, its[0]? = some (Value.int f tf) := by
      have nk := ne k List.mem_cons_self
      cases k with
      | nil => exact absurd rfl nk
      | cons x r =>
        generalize hl : its.toList = l at h5
        cases h5 with
        | @cons _ t' vs' _ hr => exact ⟨x, t', by rw [← Array.getElem?_toList, hl]; rfl⟩
    exact ⟨.int f tf :: fs, .cons h2 h3 h4 hf f1, by simp [f2], fun u hu => by
      rcases List.mem_cons.mp hu with z | z
      · exact ⟨f, tf, z⟩
      · exact f3 u z⟩
theorem like_heap {t s1 : Shared} (l : Like t s1) : s1.heap = t.heap := by obtain ⟨tk, rfl⟩ := l; rfl
theorem ask_tups {vs : List Value} {ks : List (List Int)} {t : Shared} (T : TupsAre t.heap vs ks) (ne : ∀ k ∈ ks, k ≠ []) (two : 2 ≤ vs.length) :
    wpAny (model prog w) A (keyKind' vs.toArray) (fun κ t' => Like t t' ∧ Answers prog w A (fun i j => lx (ks.getD i []) (ks.getD j [])) vs κ t) (fun _ _ => False) t := by
  obtain ⟨fs, f1, f2, f3⟩ := firsts_of T ne
  refine kat_kind (T := .type "int") f1 (by omega) (fun v hv => ?_) (by decide) ⟨Like.refl t, fun i j C s1 hi hj l q => ?_⟩
  · obtain ⟨i, tk, rfl⟩ := f3 v hv
    exact Looks.of_pure rfl
  · obtain ⟨a, its, e1, ⟨o1, g1, c1, n1, d1⟩, i1⟩ := T.at_ hi
    obtain ⟨b, jts, e2, ⟨o2, g2, c2, n2, d2⟩, i2⟩ := T.at_ hj
    unfold kas_ask
    rw [e1, e2]
    have hp := like_heap l
    refine kat_lt (by rw [hp]; exact g1) d1 (by rw [hp]; exact g2) d2 ?_
    have := lex_ints (prog := prog) (w := w) (A := A) (s := s1) (b := (Value.type "int" != Value.type "tuple")) (Q := C) its.toList jts.toList _ _ 0 i1 i2 (q s1 l)
    simpa using this
end
end Srt
set_option Elab.async false
set_option linter.all false
set_option maxRecDepth 100000
set_option maxHeartbeats 2100000
namespace Srt
open PySem PySem.W PyProof.Rows
section
variable {prog : Program} {w : World} {A : Around} {E : Value → Shared → Prop} {s : Shared} {lt : Nat → Nat → Bool}
theorem key_int {h : Heap} {a : Addr} {its : Array Value} {k : List Int} (t : IsTup h a its) (i : IntsAre its.toList k) : IsTupleKey (PySem.intKind prog w) h k a := by
  obtain ⟨o, h1, h2, n, h3⟩ := t
  refine ⟨o, its, n, h1, h2, h3, ?_⟩
  have go : ∀ {vs : List Value} {ns : List Int}, IntsAre vs ns → ItemsAre (PySem.intKind prog w) ns vs := by
    intro vs ns r
    induction r with
    | nil => exact .nil
    | cons n t _ ih => exact .cons (intKind_is _ _ _ _) ih
  exact go i
def PairsAre (h : Heap) (vs : List Value) (ks : List (List Int × Int)) : Prop := vs.length = ks.length ∧ ∀ (i : Nat) (k : List Int × Int), ks[i]? = some k → ∃ p a its tz, vs[i]? = some (.ref p) ∧ IsTup h p #[.ref a, .int k.2 tz] ∧ IsTup h a its ∧ IntsAre its.toList k.1
theorem PairsAre.at_ {h : Heap} {vs : List Value} {ks : List (List Int × Int)} (t : PairsAre h vs ks) {i : Nat} (hi : i < vs.length) : ∃ p a its tz, vs.getD i Value.none = .ref p ∧ IsTup h p #[.ref a, .int (ks.getD i ([], 0)).2 tz] ∧ IsTup h a its ∧ IntsAre its.toList (ks.getD i ([], 0)).1 := by
  have hk : i < ks.length := by rw [← t.1]; exact hi
  obtain ⟨p, a, its, tz, h1, h2, h3, h4⟩ := t.2 i ks[i] (List.getElem?_eq_getElem hk)
  refine ⟨p, a, its, tz, by rw [List.getD_eq_getElem?_getD, h1]; rfl, ?_⟩
  rw [List.getD_eq_getElem?_getD, List.getElem?_eq_getElem hk]; exact ⟨h2, h3, h4⟩
theorem pair_firsts {h : Heap} : ∀ {vs : List Value} {ks : List (List Int × Int)}, PairsAre h vs ks → ∃ fs, KatTups h vs fs ∧ fs.length = vs.length ∧ ∀ v ∈ fs, ∃ a its, v = Value.ref a ∧ IsTup h a its
  | [], ks, t => ⟨[], .nil, rfl, fun _ z => nomatch z⟩
  | v :: vs, [], t => by have := t.1; simp at this
  | v :: vs, k :: ks, t => by
    obtain ⟨p, a, its, tz, h1, ⟨o, h2, h3, n, h4⟩, h5, h6⟩ := t.2 0 k rfl
    have e : v = .ref p := by simpa using h1
    subst e
    obtain ⟨fs, f1, f2, f3⟩ := pair_firsts (vs := vs) (ks := ks) ⟨by simpa using t.1, fun i q hq => by
      obtain ⟨p', a', its', tz', u1, u2⟩ := t.2 (i + 1) q (by simpa using hq)
      exact ⟨p', a', its', tz', by simpa using u1, u2⟩⟩
    exact ⟨.ref a :: fs, .cons h2 h3 h4 rfl f1, by simp [f2], fun u hu => by
      rcases List.mem_cons.mp hu with z | z
      · exact ⟨a, its, z, h5⟩
      · exact f3 u z⟩
theorem ask_pairs {vs : List Value} {ks : List (List Int × Int)} {t : Shared} (T : PairsAre t.heap vs ks) (hu : A.units < cLine) (two : 2 ≤ vs.length) :
    wpAny (model prog w) A (keyKind' vs.toArray) (fun κ t' => Like t t' ∧ Answers prog w A (fun i j => px (ks.getD i ([], 0)) (ks.getD j ([], 0))) vs κ t) (fun _ _ => False) t := by
  obtain ⟨fs, f1, f2, f3⟩ := pair_firsts T
  refine kat_kind (T := .type "tuple") f1 (by omega) (fun v hv => ?_) (by decide) ⟨Like.refl t, fun i j C s1 hi hj l q => ?_⟩
  · obtain ⟨a, its, rfl, o, h1, h2, _⟩ := f3 v hv
    have lk : Looks (model prog w) t.heap (typeOf (.ref a)) o.cls := (Looks.ld h1).andThen .now
    rw [h2] at lk
    exact lk
  · obtain ⟨p1, a1, its1, tz1, e1, ⟨o1, g1, c1, n1, d1⟩, T1, i1⟩ := T.at_ hi
    obtain ⟨p2, a2, its2, tz2, e2, ⟨o2, g2, c2, n2, d2⟩, T2, i2⟩ := T.at_ hj
    unfold kas_ask
    rw [e1, e2]
    have hp := like_heap l
    refine kat_lt (by rw [hp]; exact g1) d1 (by rw [hp]; exact g2) d2 ?_
    have qq : C (px (ks.getD i ([], 0)) (ks.getD j ([], 0))) s1 := q s1 l
    generalize ks.getD i ([], 0) = x at *
    generalize ks.getD j ([], 0) = y at *
    have T1' : IsTup s1.heap a1 its1 := by rw [hp]; exact T1
    have T2' : IsTup s1.heap a2 its2 := by rw [hp]; exact T2
    show KatLex prog w A _ _ C [(.ref a1, .ref a2), (.int x.2 tz1, .int y.2 tz2)] 0 s1
    refine kat_cons (wpAny_eqBool_tuple hu (key_int T1' i1) (key_int T2' i2) ?_)
    unfold px at qq
    by_cases z : x.1 = y.1
    · rw [if_pos z] at qq
      rw [decide_eq_true z]
      refine kat_yes (kat_cons (wpAny_eqBool_int ?_))
      by_cases u : x.2 = y.2
      · rw [show (x.2 == y.2) = true by simpa using u]
        rw [decide_eq_false (by omega)] at qq
        exact kat_yes (kat_nil (by simpa using qq))
      · rw [show (x.2 == y.2) = false by simpa using u]
        exact kat_no (kat_one _ _ (PyProof.Rows.lt_int qq))
    · rw [if_neg z] at qq
      rw [decide_eq_false z]
      exact kat_no (kat_one _ _ (HT.lt_tupInts T1' T2' i1 i2 hu qq))
theorem sorted_go (o : Ord lt) {x : Value} {vs : List Value} {Q : Value → Shared → Prop} (few : vs.length < 64)
    (col : wpAny (model prog w) A.in1 (collect x) (fun us s1 => us = vs ∧ ∃ h1 tk, s1 = { s with heap := h1, toks := tk } ∧ ∀ b y, s.heap.get? b = some y → h1.get? b = some y) E s)
    (ask : 2 ≤ vs.length → ∀ t : Shared, (∀ b y, s.heap.get? b = some y → t.heap.get? b = some y) → wpAny (model prog w) A.in1.in1 (keyKind' vs.toArray) (fun κ t' => Like t t' ∧ Answers prog w A.in1.in1 lt vs κ t) (fun _ _ => False) t)
    (fin : ∀ (p : Array Nat) (h' : Heap) (tk c : Nat) (D : Addr), Inv vs.length p → Up lt p vs.length → (∀ b y, s.heap.get? b = some y → h'.get? b = some y) → s.heap.get? D = none → h'.get? D = some (seqObj "list" (List.toArray (p.toList.map fun i => vs.getD i Value.none)) c) → Q (.ref D) { s with heap := h', toks := tk }) :
    wpAny (model prog w) A (call (.builtin "sorted") [x]) Q E s := by
  refine Calls.call_function_entry kind_sorted plain_sorted entry_sorted (args_sorted1 _) (show wpAny (model prog w) A.in1 (Builtin.«sorted» ⟨[x], []⟩) _ _ s from ?_)
  unfold Builtin.«sorted»
  refine wpAny_bind (m := checkCount "sorted" 1 1 _) (wpAny_pure (wpAny_bind (wpAny_mono col (fun us s1 ⟨e, h1, tk1, e1, k1⟩ => ?_) fun _ _ z => z)))
  subst e e1
  refine wpAny_bind (wpAny_newList ?_ (by rw [sizeLine_eq] <;> omega))
  have at1 : (h1.push (seqObj "list" us.toArray 0)).get? h1.objs.size = some (seqObj "list" us.toArray 0) := Heap.get?_push_size _ rfl
  have k2 : ∀ b y, s.heap.get? b = some y → (h1.push (seqObj "list" us.toArray 0)).get? b = some y := fun b y q => Heap.get?_push_of_some _ (k1 b y q)
  have nD : ∀ b y, s.heap.get? b = some y → b ≠ h1.objs.size := fun b y q z => absurd (Heap.lt_size (k1 b y q)) (by rw [z]; exact Nat.lt_irrefl _)
  have gone : s.heap.get? h1.objs.size = none := by
    cases q : s.heap.get? h1.objs.size with
    | none => rfl
    | some y => exact absurd rfl (nD _ y q)
  refine wpAny_bind (wpAny_holding (wpAny_call_entry slot_list_sort ⟨_, at1, rfl⟩ entry_list_sort (sort_list (s := { s with heap := h1.push (seqObj "list" us.toArray 0), toks := tk1 }) o at1 few (fun tw t kt => ask tw t fun b y q => kt b y (nD b y q) (k2 b y q)) fun p h' tk c ip u kh hD => ⟨_, rfl, ?_⟩) (args_list_sort _)))
  exact wpAny_pure ⟨_, rfl, fin p h' tk c h1.objs.size ip u (fun b y q => kh b y (nD b y q) (k2 b y q)) gone hD⟩
end
end Srt
set_option Elab.async false
set_option linter.all false
set_option maxRecDepth 100000
set_option maxHeartbeats 1000000
namespace Dk
open PySem Zp
def Ent (h : Heap) (d : Addr) (es : Array DictEntry) (ep : Nat) : Prop := ∃ o, h.get? d = some o ∧ o.ExactDict ∧ o.data = .dict es ep
theorem Ent.ty {s : Shared} {d : Addr} {es : Array DictEntry} {ep : Nat} (x : Ent s.heap d es ep) : s.TypeIs (.ref d) "dict" := by
  obtain ⟨o, h1, h2, h3⟩ := x
  exact ⟨o, h1, h2.1⟩
section
variable {prog : Program} {w : World} {A : Around} {E : Value → Shared → Prop} {s : Shared}
abbrev krc (d : Addr) (i n ep : Nat) : Obj := { cls := .type "dict_keyiterator", data := .fields #[.ref d, .int i 0, .int n 0, .int ep 0] }
theorem iter_d {d : Addr} {es : Array DictEntry} {ep : Nat} {Q : Value → Shared → Prop} (ne : (d == sysModules) = false) (x : Ent s.heap d es ep)
    (q : Q (.ref s.heap.objs.size) { s with heap := s.heap.push (krc d 0 es.size ep) }) : wpAny (model prog w) A (pyIter (.ref d)) Q E s := by
  have ty := x.ty
  obtain ⟨o, h1, h2, h3⟩ := x
  refine wpAny_pyIter_slot ty F.slot_dict_iter (wpAny_call_entry F.slot_dict_iter ty F.entry_dict_iter ?_ (F.args_dict_iter_1 _))
  have ne' : ¬ (d == sysModules) = true := by rw [ne]; exact Bool.false_ne_true
  have kc : ¬ (o.cls != Value.type "dict") = true := by rw [h2.1]; decide
  repeat (first | assumption | (with_reducible refine wpAny_notOrdered_dict ty ?_) | (rw [if_neg kc]) | (rw [if_neg ne']) | (with_reducible refine wpAny_dictEntries h1 h3 ?_) | (with_reducible refine wpAny_dictEpoch h1 h3 ?_) | wp_step)
  exact ⟨.ref s.heap.objs.size, rfl, "dict_keyiterator", _, ⟨krc d 0 es.size ep, Heap.get?_push_size _ rfl, rfl⟩, F.slot_dict_keyiterator_next.lookup, q⟩
theorem Ent.but {h h' : Heap} {it d : Addr} {es : Array DictEntry} {ep : Nat} (x : Ent h d es ep) (u : Heap.ExtBut it h h') (n : d ≠ it) : Ent h' d es ep := by
  obtain ⟨o, h1, h2⟩ := x
  exact ⟨o, u d o n h1, h2⟩
variable {it d : Addr} {es : Array DictEntry} {i ep : Nat}
theorem draw {k : DictEntry} {Q : Fin → Shared → Prop} (ho : s.heap.get? it = some (krc d i es.size ep)) (x : Ent s.heap d es ep) (ek : es[i]? = some k)
    (q : ∀ h', h'.get? it = some (krc d (i + 1) es.size ep) → Heap.SameBut it s.heap h' → Q (.done (.ret k.key)) { s with heap := h' }) :
    wpAny (model prog w) A (Builtin.«dict_keyiterator.__next__» ⟨[.ref it], []⟩) Q E s := by
  obtain ⟨o, h1, h2, h3⟩ := x
  have ty : s.TypeIs (.ref it) "dict_keyiterator" := ⟨_, ho, rfl⟩
  have ek' : (if (i : Int) < 0 then none else es[(i : Int).toNat]?) = some k := by rw [if_neg (by omega), Int.toNat_natCast]; exact ek
  repeat (first | assumption | (rw [ek']) | (with_reducible refine wpAny_isOneOf_keyiter ⟨_, e1, rfl⟩ ?_) | (with_reducible refine wpAny_typeNameOfWhole_keyiter ty ?_) | (with_reducible refine wpAny_isOneOf_keyiter ty ?_) | (with_reducible refine wpAny_dictEntries h1 h3 ?_) | (with_reducible refine wpAny_dictEpoch h1 h3 ?_) | (with_reducible refine wpAny_fieldsOf ho rfl ?_) | (with_reducible refine wpAny_setField_rec ho (by simp; decide) fun h' e1 e2 => ?_) | wp_step)
  exact q h' (e1.trans rfl) e2
theorem dry {Q : Fin → Shared → Prop} (hh : A.handled = none) (ho : s.heap.get? it = some (krc d i es.size ep)) (x : Ent s.heap d es ep) (ek : es.size ≤ i)
    (q : ∀ h' e o, h'.get? e = some o → o.cls = .type "StopIteration" → Heap.ExtBut it s.heap h' → E (.ref e) { s with heap := h' }) :
    wpAny (model prog w) A (Builtin.«dict_keyiterator.__next__» ⟨[.ref it], []⟩) Q E s := by
  obtain ⟨o, h1, h2, h3⟩ := x
  have ty : s.TypeIs (.ref it) "dict_keyiterator" := ⟨_, ho, rfl⟩
  have ek' : (if (i : Int) < 0 then none else es[(i : Int).toNat]?) = none := by rw [if_neg (by omega), Int.toNat_natCast]; exact Array.getElem?_eq_none ek
  repeat (first | assumption | (rw [ek']) | (rw [hh]) | (with_reducible refine wpAny_typeNameOfWhole_keyiter ty ?_) | (with_reducible refine wpAny_isOneOf_keyiter ty ?_) | (with_reducible refine wpAny_dictEntries h1 h3 ?_) | (with_reducible refine wpAny_dictEpoch h1 h3 ?_) | (with_reducible refine wpAny_fieldsOf ho rfl ?_) | (with_reducible refine wpAny_setField_rec ho (by simp; decide) fun h' e1 e2 => ?_) | wp_step)
  unfold raiseNew
  refine wpAny_bind (wpAny_handled ?_); rw [hh]
  refine wpAny_bind (wpAny_pure (wpAny_throw (q _ _ _ (Heap.get?_push_size _ rfl) rfl ((e2.extBut.push _).push _))))
theorem nxt {o : Obj} {Q : Option Value → Shared → Prop} (ho : s.heap.get? it = some o) (hc : o.cls = .type "dict_keyiterator")
    (h : wpAny (model prog w) A.in1 (Builtin.«dict_keyiterator.__next__» ⟨[.ref it], []⟩) (fun r s' => ∃ v, r = .done (.ret v) ∧ Q (some v) s') (fun e s' => ∃ a u, e = .ref a ∧ s'.heap.get? a = some u ∧ u.cls = .type "StopIteration" ∧ Q none s') s) : wpAny (model prog w) A (pyNext (.ref it)) Q E s := by
  have ty : s.TypeIs (.ref it) "dict_keyiterator" := ⟨o, ho, hc⟩
  refine wpAny_bind (wpAny_attempt (wpAny_mono (Q := fun r s' => ∃ v, r = some v ∧ Q (some v) s') (wpAny_callSpecial?_slot ty F.slot_dict_keyiterator_next (wpAny_call_entry F.slot_dict_keyiterator_next ty F.entry_dict_keyiterator_next (wpAny_mono h ?_ fun _ _ e => e) (F.args_dict_keyiterator_next_1 _))) ?_ ?_))
  · rintro _ s' ⟨v, rfl, q⟩
    exact ⟨v, rfl, v, rfl, q⟩
  · rintro _ s' ⟨v, rfl, q⟩
    exact wpAny_pure q
  · rintro _ s' ⟨a, u, rfl, e1, e2, q⟩
    exact wpAny_bind (wpAny_isInstance (T := "StopIteration") (b := true) ⟨u, e1, e2⟩ isSubtype_stop (wpAny_pure q))
theorem feed {S : Addr} {h0 : Heap} (hh : A.handled = none) (n1 : d ≠ it) (n2 : S ≠ it) (n3 : S ≠ d) :
    Feed prog w A it S (fun n vs h => ∃ i, i + n = es.size ∧ vs = (es.toList.take i).map (·.key) ∧ h.get? it = some (krc d i es.size ep) ∧ Ent h d es ep ∧ Out [it, S] h0 h) (fun vs h => vs = es.toList.map (·.key) ∧ Out [it, S] h0 h) where
  more := fun n vs s Q E ⟨i, hi, hv, ho, x, k⟩ q => by
    have lt : i < es.size := by omega
    refine nxt ho rfl (draw ho x (Array.getElem?_eq_getElem lt) fun h' e u => ⟨_, rfl, q _ h' ⟨i + 1, by omega, ?_, e, x.but u.extBut n1, k.then (Out.of u.extBut (by simp))⟩ fun o e => u.extBut S o n2 e⟩)
    rw [hv, List.take_add_one]
    simp [lt]
  over := fun vs s Q E ⟨i, hi, hv, ho, x, k⟩ q => by
    refine nxt ho rfl (dry (show A.in1.handled = none from hh) ho x (by omega) fun h' e o e1 e2 u => ⟨e, o, rfl, e1, e2, q h' ⟨?_, k.then (Out.of u (by simp))⟩ fun o e => u S o n2 e⟩)
    rw [hv, List.take_of_length_le (by simp; omega)]
  blind := fun n vs h h' ⟨i, hi, hv, ho, x, k⟩ u => ⟨i, hi, hv, u.extBut it _ n2.symm ho, x.but u.extBut n3.symm, k.then (Out.of u.extBut (by simp))⟩
end
end Dk
set_option Elab.async false
set_option linter.all false
set_option maxRecDepth 100000
set_option maxHeartbeats 1000000
namespace Dk
open PySem Zp PySem.W
section
variable {prog : Program} {w : World} {A : Around} {E : Value → Shared → Prop} {s : Shared} {d S : Addr} {es : Array DictEntry} {ep : Nat}
theorem extends_d {c : Nat} {r : Value} {R : Result → Shared → Prop} (hh : A.handled = none) (ne : (d == sysModules) = false) (x : Ent s.heap d es ep) (e : s.heap.get? S = some (mk [] c)) (few : es.size ≤ sizeLine) (nS : S ≠ d)
    (q : ∀ h' c', h'.get? S = some (mk (es.toList.map (·.key)) c') → (∀ b o, b ≠ S → s.heap.get? b = some o → h'.get? b = some o) → R (.ok (.ret r)) { s with heap := h' }) :
    wpAny (model prog w) A.in1 (Builtin.List.listExtendWith (.ref S) (.ref d) r) (fun fin s' => match fin with | .done f => R (.ok f) s' | .again c' => c'.quiet = true ∧ codeAny (model prog w) A c' R s') (fun e s' => R (.error e) s') s := by
  have same : Builtin.List.listSameRef (.ref S) (.ref d) = false := by simp [Builtin.List.listSameRef, nS]
  have t1 : (Value.type "dict" == Value.type "list") = false := by decide
  have t2 : (Value.type "dict" == Value.type "tuple") = false := by decide
  have cond : (Builtin.List.listSameRef (.ref S) (.ref d) || Value.type "dict" == Value.type "list" || Value.type "dict" == Value.type "tuple") = false := by rw [same, t1, t2]; rfl
  refine wpAny_bind (wpAny_typeOf x.ty ?_)
  simp only [cond, Bool.false_eq_true, if_false]
  have I : s.heap.objs.size ≠ S := Nat.ne_of_gt (Heap.lt_size e)
  have ld : d < s.heap.objs.size := let ⟨_, h1, _⟩ := x; Heap.lt_size h1
  have x1 : Ent (s.heap.push (krc d 0 es.size ep)) d es ep := let ⟨o, h1, h2⟩ := x; ⟨o, Heap.get?_push_of_some _ h1, h2⟩
  have e1 : (s.heap.push (krc d 0 es.size ep)).get? S = some (mk [] c) := Heap.get?_push_of_some _ e
  refine wpAny_bind (iter_d ne x (wpAny_bind (wpAny_holding (kdl_hint_dict x1.ty ?_))))
  refine wpAny_bind (wpAny_rule (wpAny_bind (wpAny_bind (upd e1 (by decide) (by decide) fun h2 c2 e2 u2 => ?_))))
  refine upd e2 (by decide) (by decide) fun h3 c3 e3 u3 => wpAny_pure ⟨plainId_quiet PySem.F.plain_extend_loop _, ?_⟩
  have u : Heap.SameBut S (s.heap.push (krc d 0 es.size ep)) h3 := ⟨u3.1.trans u2.1, fun b m => (u3.2 b m).trans (u2.2 b m)⟩
  have it3 : h3.get? s.heap.objs.size = some (krc d 0 es.size ep) := u.extBut _ _ I (Heap.get?_push_size _ rfl)
  refine fill (feed (d := d) (es := es) (ep := ep) (h0 := h3) (show A.in1.handled = none from hh) (Nat.ne_of_lt ld) I.symm nS) r es.size [] c3 _ ⟨0, by omega, rfl, it3, x1.but u.extBut nS.symm, fun _ _ _ z => z⟩ e3 (by simpa using few) fun h' us c' l e4 => ?_
  obtain ⟨l1, l2⟩ := l
  subst l1
  refine q h' c' e4 fun b o nb hb => l2 b o ?_ (u.extBut b o nb (Heap.get?_push_of_some _ hb))
  simp only [List.mem_cons, List.not_mem_nil, or_false, not_or]
  exact ⟨Nat.ne_of_lt (Heap.lt_size hb), nb⟩
theorem collect_d {Q : List Value → Shared → Prop} (hh : A.handled = none) (ne : (d == sysModules) = false) (x : Ent s.heap d es ep) (few : es.size ≤ sizeLine)
    (q : ∀ h', (∀ b o, s.heap.get? b = some o → h'.get? b = some o) → Q (es.toList.map (·.key)) { s with heap := h' }) : wpAny (model prog w) A (collect (.ref d)) Q E s := by
  have ld : d < s.heap.objs.size := let ⟨_, h1, _⟩ := x; Heap.lt_size h1
  have e0 : (s.heap.push (mk [] 0)).get? s.heap.objs.size = some (mk [] 0) := Heap.get?_push_size _ rfl
  have x0 : Ent (s.heap.push (mk [] 0)) d es ep := let ⟨o, h1, h2⟩ := x; ⟨o, Heap.get?_push_of_some _ h1, h2⟩
  refine wpAny_bind (wpAny_runValue (codeAny_builtin F.entry_proto_collect (by
    rw [Around.under_plainId F.plain_proto_collect]
    refine wpAny_bind (m := newList []) (wpAny_newObj_type (wpAny_pure ⟨plainId_quiet F.plain_list_iadd _, codeAny_builtin F.entry_list_iadd (by
      rw [Around.under_plainId F.plain_list_iadd]
      refine wpAny_mono (extends_d (R := fun r s' => r = .ok (.ret (.ref s.heap.objs.size)) ∧ ∃ h' c', s' = { s with heap := h' } ∧ h'.get? s.heap.objs.size = some (mk (es.toList.map (·.key)) c') ∧ ∀ b o, b ≠ s.heap.objs.size → (s.heap.push (mk [] 0)).get? b = some o → h'.get? b = some o) (s := { s with heap := s.heap.push (mk [] 0) }) (c := 0) hh ne x0 e0 few (Nat.ne_of_gt ld) fun h' c' e1 k1 => ⟨rfl, h', c', rfl, e1, k1⟩) ?_ fun _ _ z => nomatch z.1
      have fin : ∀ h' c', h'.get? s.heap.objs.size = some (mk (es.toList.map (·.key)) c') → (∀ b o, b ≠ s.heap.objs.size → (s.heap.push (mk [] 0)).get? b = some o → h'.get? b = some o) → wpAny (model prog w) A (load s.heap.objs.size >>= fun ob => match ob.data with | .seq xs _ => pure xs.toList | _ => unsupported "internal:collect") Q E { s with heap := h' } := fun h' c' e1 k1 => by
        refine wpAny_bind (wpAny_load e1 (wpAny_pure ?_))
        have z : (es.toList.map (·.key)).toArray.toList = es.toList.map (·.key) := by simp
        rw [z]
        exact q h' fun b o hb => k1 b o (Nat.ne_of_lt (Heap.lt_size hb)) (Heap.get?_push_of_some _ hb)
      intro f s1 z
      cases f with
      | done f =>
        obtain ⟨z, h', c', rfl, e1, k1⟩ := z
        cases z
        exact fin h' c' e1 k1
      | again c1 => exact ⟨z.1, codeAny_mono z.2 fun r s2 y => by obtain ⟨rfl, h', c', rfl, e1, k1⟩ := y; exact fin h' c' e1 k1⟩)⟩)))))
end
end Dk
set_option Elab.async false
set_option linter.all false
set_option maxRecDepth 100000
set_option maxHeartbeats 1000000
namespace Srt
open PySem PySem.W PyProof.Rows
def ins {α : Type} (r : α → α → Bool) (x : α) : List α → List α
  | [] => [x]
  | y :: l => if r y x then y :: ins r x l else x :: y :: l
def srt {α : Type} (r : α → α → Bool) : List α → List α
  | [] => []
  | x :: l => ins r x (srt r l)
section
variable {α : Type} {r : α → α → Bool}
theorem ins_perm (x : α) : ∀ l : List α, (ins r x l).Perm (x :: l)
  | [] => List.Perm.refl _
  | y :: l => by
    unfold ins
    split
    · exact ((ins_perm x l).cons y).trans (List.Perm.swap x y l)
    · exact List.Perm.refl _
theorem srt_perm : ∀ l : List α, (srt r l).Perm l
  | [] => List.Perm.refl _
  | x :: l => (ins_perm x (srt r l)).trans ((srt_perm l).cons x)
structure Tot (r : α → α → Bool) : Prop where
  asy : ∀ {a b}, r a b = true → r b a = false
  tri : ∀ {a b}, r a b = false → r b a = false → a = b
  trs : ∀ {a b c}, r a b = true → r b c = true → r a c = true
theorem Tot.le (t : Tot r) {a b c : α} (h : r b a = false) (g : r c b = false) : r c a = false := by
  cases q : r c a with
  | false => rfl
  | true =>
    cases ab : r a b with
    | true => have := t.trs q ab; rw [g] at this; cases this
    | false => rw [t.tri ab h] at q; rw [g] at q; cases q
theorem ins_up (t : Tot r) (x : α) : ∀ {l : List α}, l.Pairwise (fun a b => r b a = false) → (ins r x l).Pairwise fun a b => r b a = false
  | [], _ => by simp [ins]
  | y :: l, h => by
    have hc := List.pairwise_cons.mp h; obtain ⟨h1, h2⟩ := hc
    unfold ins
    split
    · rename_i z
      refine List.pairwise_cons.mpr ⟨fun b hb => ?_, ins_up t x h2⟩
      rcases List.mem_cons.mp ((ins_perm x l).mem_iff.mp hb) with e | e
      · rw [e]; exact t.asy z
      · exact h1 b e
    · rename_i z
      have z' : r y x = false := by simpa using z
      refine List.pairwise_cons.mpr ⟨fun b hb => ?_, h⟩
      rcases List.mem_cons.mp hb with e | e
      · rw [e]; exact z'
      · exact t.le z' (h1 b e)
theorem srt_up (t : Tot r) : ∀ l : List α, (srt r l).Pairwise fun a b => r b a = false
  | [] => List.Pairwise.nil
  | x :: l => ins_up t x (srt_up t l)
theorem srt_eq (t : Tot r) {l k : List α} (p : k.Perm l) (u : k.Pairwise fun a b => r b a = false) : k = srt r l :=
  List.Perm.eq_of_pairwise (le := fun a b => r b a = false) (fun a b _ _ h g => t.tri g h) u (srt_up t l) (p.trans (srt_perm l).symm)
theorem srt_len (l : List α) : (srt r l).length = l.length := (srt_perm l).length_eq
theorem range_get (ks : List α) (d0 : α) : (List.range ks.length).map (fun i => ks.getD i d0) = ks := by
  refine List.ext_getElem (by simp) fun i h1 h2 => ?_
  simp [h2]
theorem perm_get {n : Nat} {p : Array Nat} (ip : Inv n p) : p.toList.Perm (List.range n) := by simpa using Array.perm_iff_toList_perm.mp ip
theorem srt_of (t : Tot r) {p : Array Nat} {ks : List α} (d0 : α) (ip : Inv ks.length p) (u : Up (fun i j => r (ks.getD i d0) (ks.getD j d0)) p ks.length) : p.toList.map (fun i => ks.getD i d0) = srt r ks := by
  refine srt_eq t ?_ ?_
  · have := (perm_get ip).map fun i => ks.getD i d0
    rw [range_get] at this
    exact this
  · rw [List.pairwise_map, List.pairwise_iff_getElem]
    intro i j hi hj hij
    have sz := ip.size
    have := u i j (Nat.le_of_lt hij) (by rw [← sz]; simpa using hj)
    unfold at' at this
    have ei : p.getD i 0 = p.toList[i] := by simp [Array.getD, show i < p.size by simpa using hi]
    have ej : p.getD j 0 = p.toList[j] := by simp [Array.getD, show j < p.size by simpa using hj]
    rw [ei, ej] at this
    exact this
end
def ix (a b : Int) : Bool := decide (a < b)
theorem ix_tot : Tot ix := ⟨fun h => decide_eq_false (by have := of_decide_eq_true h; omega), fun h g => by have := of_decide_eq_false h; have := of_decide_eq_false g; omega, fun h g => decide_eq_true (by have := of_decide_eq_true h; have := of_decide_eq_true g; omega)⟩
theorem lx_tot : Tot lx := ⟨lx_asy, lx_tri, lx_trs⟩
theorem px_tot : Tot px := ⟨px_asy, px_tri, px_trs⟩
theorem Tot.ord {α : Type} {r : α → α → Bool} (t : Tot r) (key : Nat → α) : Ord fun i j => r (key i) (key j) := ord_of key t.asy t.tri t.trs
section
variable {prog : Program} {w : World} {A : Around} {E : Value → Shared → Prop} {s : Shared}
theorem ints_at : ∀ {vs : List Value} {ns : List Int} {i : Nat}, IntsAre vs ns → i < vs.length → ∃ t, vs.getD i Value.none = .int (ns.getD i 0) t
  | _, _, _, .nil, h => by simp at h
  | _, _, 0, .cons n t hr, _ => ⟨t, rfl⟩
  | _, _, i + 1, .cons n t hr, h => by
    obtain ⟨u, e⟩ := ints_at (i := i) hr (by simpa using h)
    exact ⟨u, by simpa using e⟩
theorem ask_ints {vs : List Value} {ns : List Int} {t : Shared} (T : IntsAre vs ns) (two : 2 ≤ vs.length) :
    wpAny (model prog w) A (keyKind' vs.toArray) (fun κ t' => Like t t' ∧ Answers prog w A (fun i j => ix (ns.getD i 0) (ns.getD j 0)) vs κ t) (fun _ _ => False) t := by
  match vs, T, two with
  | v1 :: v2 :: vs, T, _ =>
    rw [keyKind_ints T]
    refine wpAny_pure ⟨Like.refl t, fun i j C s1 hi hj l q => ?_⟩
    obtain ⟨t1, e1⟩ := ints_at T hi
    obtain ⟨t2, e2⟩ := ints_at T hj
    unfold kas_ask
    rw [e1, e2]
    exact kat_lt_int (q s1 l)
end
end Srt
set_option Elab.async false
set_option linter.all false
set_option maxRecDepth 100000
set_option maxHeartbeats 1000000
namespace L2
open PySem PySem.Spec PyProof.Rows
section
variable {X : Cx} {pins : List (Addr × Obj)} {σ : St} {H : Hp} {s : Shared} {h' : Heap} {D : Addr} {o : HO}
theorem ObjOk.there {P : Program} {w : World} {h : Heap} {a : Addr} (x : ObjOk P w H h a o) : ∃ u, h.get? a = some u := by
  cases o with
  | lst xs => obtain ⟨_, _, _, _, e⟩ := x; exact ⟨_, e⟩
  | tup xs => obtain ⟨_, _, _, u, e, _⟩ := x; exact ⟨_, e⟩
  | dK kvs => obtain ⟨_, _, _, _, u, _, _, e, _⟩ := x; exact ⟨_, e⟩
  | dT kvs => obtain ⟨_, _, _, _, u, _, _, e, _⟩ := x; exact ⟨_, e⟩
  | set S n => obtain ⟨u, _, _, _, e, _⟩ := x; exact ⟨_, e⟩
  | ins C dx fs => obtain ⟨_, _, _, e, _⟩ := x; exact ⟨_, e⟩
  | own y => exact x
  | xd fs => obtain ⟨_, ⟨u, _, _, e, _⟩, _⟩ := x; exact ⟨_, e⟩
  | rng lo hi => obtain ⟨_, _, _, e⟩ := x; exact ⟨_, e⟩
  | frz ob u => obtain ⟨e, _⟩ := x; exact ⟨_, e⟩
  | tbl ps => exact ⟨_, x⟩
  | met f y => exact ⟨_, x⟩
  | ext φ => obtain ⟨_, e, _⟩ := x; exact e
theorem Inv.laidN {t' : Nat} (I : Inv X pins σ H s) (k : ∀ b u, s.heap.get? b = some u → h'.get? b = some u) (hD : s.heap.get? D = none) (new : ObjOk X.prog X.w (upd H D o) h' D o) :
    H D = none ∧ Inv X pins σ (upd H D o) { s with heap := h', toks := t' } := by
  have hn : H D = none := by
    cases q : H D with
    | none => rfl
    | some u => obtain ⟨v, e⟩ := (I.hok D u q).there; rw [hD] at e; cases e
  have nb : ∀ b u, s.heap.get? b = some u → b ≠ D := fun b u e z => by rw [z, hD] at e; cases e
  refine ⟨hn, I.un ⟨fun b u q _ _ _ => k b u q, fun b u q _ _ _ => ⟨u.slots, k b u q⟩, fun b u q n _ => ?_, fun b u q _ => ⟨u, k b u q⟩, fun b xs q => ?_, fun b u xs q => ?_, fun b ps q => ⟨#[], ?_⟩⟩ fun b u e => ?_⟩
  · rw [upd_ne (nb b u q)]; exact n
  · rw [upd_ne (ne_of_none q hn)]; exact q
  · rw [upd_ne (ne_of_none q hn)]; exact q
  · rw [upd_ne (ne_of_none q hn), q]; simp
  · by_cases hb : b = D
    · subst hb; rw [upd_same] at e; cases e; exact new
    · rw [upd_ne hb] at e
      exact (I.hok b u e).stay (fun c v _ q => k c v q) (fun c q => by rw [upd_ne (ne_of_none q hn)]; exact q) fun c xs q => by rw [upd_ne (ne_of_none q hn)]; exact q
theorem Vals.picks {ys : List V} {its : List Value} (r : Vals ys its) : ∀ {l : List Nat}, (∀ i ∈ l, i < ys.length) → Vals (l.map fun i => ys.getD i .non) (l.map fun i => its.getD i Value.none)
  | [], _ => .nil
  | i :: l, h => by
    refine .cons ?_ (Vals.picks r fun j hj => h j (List.mem_cons_of_mem _ hj))
    have hi := h i List.mem_cons_self
    obtain ⟨u, e, q⟩ := r.get (List.getElem?_eq_getElem hi)
    show RelV (ys.getD i .non) (its.getD i Value.none)
    rw [List.getD_eq_getElem?_getD, List.getElem?_eq_getElem hi, List.getD_eq_getElem?_getD, e]
    exact q
theorem sorted_at {lt : Nat → Nat → Bool} {ys : List V} {its : List Value} {x : Value} {Q : VK} (od : Srt.Ord lt) (I : Inv X pins σ H s) (r : Vals ys its) (few : ys.length < 64)
    (col : ∀ R : List Value → Shared → Prop, (∀ h', (∀ b u, s.heap.get? b = some u → h'.get? b = some u) → R its { s with heap := h' }) → wpAny (model X.prog X.w) X.A.in1 (collect x) R X.xe s)
    (ask : 2 ≤ its.length → ∀ t : Shared, (∀ b y, s.heap.get? b = some y → t.heap.get? b = some y) → wpAny (model X.prog X.w) X.A.in1.in1 (keyKind' its.toArray) (fun κ t' => Srt.Like t t' ∧ Srt.Answers X.prog X.w X.A.in1.in1 lt its κ t) (fun _ _ => False) t)
    (q : ∀ p, Srt.Inv ys.length p → Srt.Up lt p ys.length → ∀ l, H l = none → Q (.ref l) (upd H l (.lst (p.toList.map fun i => ys.getD i .non)))) :
    wpAny (model X.prog X.w) X.A (call (.builtin "sorted") [x]) (EP X pins σ Q) X.xe s := by
  have hl := r.length
  refine Srt.sorted_go od (vs := its) (by rw [← hl]; exact few) (col _ fun h' k => ⟨rfl, h', s.toks, rfl, k⟩) ask fun p h' tk c D ip u k hD e => ?_
  rw [← hl] at ip u
  have bd : ∀ i ∈ p.toList, i < ys.length := fun i hi => by simpa using (Srt.perm_get ip).mem_iff.mp hi
  have ln : (p.toList.map fun i => ys.getD i V.non).length ≤ sizeLine := by
    rw [List.length_map, Array.length_toList, ip.size, sizeLine_eq]; omega
  obtain ⟨h1, h2⟩ := I.laidN (t' := tk) (o := .lst (p.toList.map fun i => ys.getD i .non)) k hD ⟨ln, _, c, r.picks bd, e⟩
  exact ⟨.ref D, _, h2, rfl, q p ip u D h1⟩
end
end L2
set_option Elab.async false
set_option linter.all false
set_option maxRecDepth 100000
set_option maxHeartbeats 1000000
namespace L2
open PySem PySem.Spec PyProof.Rows
abbrev pick (p : Array Nat) (ys : List V) : List V := p.toList.map fun i => ys.getD i .non
section
variable {X : Cx} {pins : List (Addr × Obj)} {σ : St} {H : Hp} {s : Shared}
theorem col_seq {a : Addr} {its : List Value} (hq : PlainL s.heap a its.toArray ∨ IsTup s.heap a its.toArray) (hz : its.length ≤ sizeLine) (R : List Value → Shared → Prop)
    (k : ∀ h', (∀ b u, s.heap.get? b = some u → h'.get? b = some u) → R its { s with heap := h' }) : wpAny (model X.prog X.w) X.A.in1 (collect (.ref a)) R X.xe s := by
  rcases hq with hq | hq
  · obtain ⟨o, ho, hc, n, hd⟩ := hq.isList
    exact wpAny_collect_seq a (.inl rfl) ho hc hd (fun h' kp => k h' kp) (by simpa using hz)
  · obtain ⟨o, ho, hc, n, hd⟩ := hq
    exact wpAny_collect_seq a (.inr rfl) ho hc hd (fun h' kp => k h' kp) (by simpa using hz)
theorem call_srtI : CallR X (.builtin "sorted") (fun xs H Q => ∃ (a : Addr) (ns : List Int), xs = [.ref a] ∧ (SqL X.K H a (ns.map V.int) ∨ SqT X.K H a (ns.map V.int)) ∧ ns.length < 64 ∧
    ∀ p, Srt.Inv ns.length p → Srt.Up (fun i j => Srt.ix (ns.getD i 0) (ns.getD j 0)) p ns.length → ∀ l, H l = none → Q (.ref l) (upd H l (.lst (pick p (ns.map V.int))))) := by
  intro pins s σ H xs us Q I r h
  obtain ⟨a, ns, rfl, hq, few, q⟩ := h
  obtain ⟨u, rfl, rx⟩ := vals1 r
  cases rx
  obtain ⟨its, rv, pl, hz⟩ : ∃ its : List Value, Vals (ns.map V.int) its ∧ (PlainL s.heap a its.toArray ∨ IsTup s.heap a its.toArray) ∧ its.length ≤ sizeLine := by
    rcases hq with hq | hq
    · obtain ⟨its, r, pl, z⟩ := I.list hq; exact ⟨its, r, .inl pl, by rw [← r.length]; exact z⟩
    · obtain ⟨its, r, pl, z⟩ := I.tuple hq; exact ⟨its, r, .inr pl, by rw [← r.length]; exact z⟩
  have hi := ints_vals rv
  refine sorted_at (Srt.ix_tot.ord fun i => ns.getD i 0) I rv (by simpa using few) (fun R k => col_seq pl hz R k) (fun two t k => Srt.ask_ints hi two) fun p ip u l hl => ?_
  rw [List.length_map] at ip u
  exact q p ip u l hl
def PrV (H : Hp) (ys : List V) (ks : List (List Int × Int)) : Prop := ys.length = ks.length ∧ ∀ (i : Nat) (k : List Int × Int), ks[i]? = some k → ∃ p b, ys[i]? = some (.ref p) ∧ H p = some (.tup [.ref b, .int k.2]) ∧ H b = some (.tup (k.1.map V.int))
theorem tup_at (I : Inv X pins σ H s) {b : Addr} {xs : List V} (h : H b = some (.tup xs)) : ∃ its : List Value, Vals xs its ∧ IsTup s.heap b its.toArray := by
  obtain ⟨_, its, r, t⟩ := I.hok b _ h
  exact ⟨its, r, t⟩
theorem IsTup.on {h h' : Heap} {a : Addr} {its : Array Value} (t : IsTup h a its) (k : ∀ b u, h.get? b = some u → h'.get? b = some u) : IsTup h' a its := by
  obtain ⟨o, h1, h2⟩ := t
  exact ⟨o, k a o h1, h2⟩
theorem pairs_are (I : Inv X pins σ H s) {h' : Heap} {ys : List V} {its : List Value} {ks : List (List Int × Int)} (r : Vals ys its) (z : PrV H ys ks) (k : ∀ b u, s.heap.get? b = some u → h'.get? b = some u) : Srt.PairsAre h' its ks := by
  refine ⟨by rw [← r.length]; exact z.1, fun i q hq => ?_⟩
  obtain ⟨p, b, h1, h2, h3⟩ := z.2 i q hq
  obtain ⟨u, e, ru⟩ := r.get h1
  cases (show u = Value.ref p from ru)
  obtain ⟨i2, r2, t2⟩ := tup_at I h2
  obtain ⟨i3, r3, t3⟩ := tup_at I h3
  obtain ⟨v1, v2, rfl, q1, q2⟩ := vals2 r2
  cases (show v1 = Value.ref b from q1)
  obtain ⟨tz, rfl⟩ := (show ∃ t, v2 = Value.int q.2 t from q2)
  exact ⟨p, b, i3.toArray, tz, e, IsTup.on t2 k, IsTup.on t3 k, by simpa using ints_vals r3⟩
theorem call_srtP (hu : X.A.units + 64 < cLine) : CallR X (.builtin "sorted") (fun xs H Q => ∃ (a : Addr) (ys : List V) (ks : List (List Int × Int)), xs = [.ref a] ∧ SqL X.K H a ys ∧ PrV H ys ks ∧ ys.length < 64 ∧
    ∀ p, Srt.Inv ks.length p → Srt.Up (fun i j => Srt.px (ks.getD i ([], 0)) (ks.getD j ([], 0))) p ks.length → ∀ l, H l = none → Q (.ref l) (upd H l (.lst (pick p ys)))) := by
  intro pins s σ H xs us Q I r h
  obtain ⟨a, ys, ks, rfl, hq, hp, few, q⟩ := h
  obtain ⟨u, rfl, rx⟩ := vals1 r
  cases rx
  obtain ⟨its, rv, pl, z⟩ := I.list hq
  refine sorted_at (Srt.px_tot.ord fun i => ks.getD i ([], 0)) I rv few (fun R k => col_seq (.inl pl) (by rw [← rv.length]; exact z) R k) (fun two t k => Srt.ask_pairs (pairs_are I rv hp k) (by show X.A.units + 1 + 1 < cLine; omega) two) fun p ip u l hl => ?_
  rw [hp.1] at ip u
  exact q p ip u l hl
theorem KT.addrs {kvs : List (List Key × V)} {xs : List (List Key × Addr × Value)} (r : KT H kvs xs) : xs.length = kvs.length ∧ ∀ (i : Nat) (q : List Key × Addr × Value), xs[i]? = some q → ∃ p, kvs[i]? = some p ∧ H q.2.1 = some (.tup (p.1.map kV)) := by
  induction r with
  | nil => exact ⟨rfl, fun i q h => by simp at h⟩
  | cons hq t ih =>
    refine ⟨by simp [ih.1], fun i q h => ?_⟩
    cases i with
    | zero => simp at h; subst h; exact ⟨_, rfl, hq.2.1⟩
    | succ j =>
      obtain ⟨p, h1, h2⟩ := ih.2 j q (by simpa using h)
      exact ⟨p, by simpa using h1, h2⟩
def KyV (H : Hp) (bs : List Addr) (js : List (List Int)) : Prop := bs.length = js.length ∧ ∀ (i : Nat) (b : Addr) (k : List Int), bs[i]? = some b → js[i]? = some k → H b = some (.tup (k.map V.int))
theorem vals_adr : ∀ (bs : List Addr), Vals (bs.map V.ref) (bs.map Value.ref)
  | [] => .nil
  | b :: bs => .cons rfl (vals_adr bs)
theorem tups_are (I : Inv X pins σ H s) {h' : Heap} {bs : List Addr} {js : List (List Int)} (z : KyV H bs js) (k : ∀ b u, s.heap.get? b = some u → h'.get? b = some u) : Srt.TupsAre h' (bs.map Value.ref) js := by
  refine ⟨by simpa using z.1, fun i q hq => ?_⟩
  have hi : i < bs.length := by rw [z.1]; exact (List.getElem?_eq_some_iff.mp hq).1
  have hb := List.getElem?_eq_getElem hi
  obtain ⟨i2, r2, t2⟩ := tup_at I (z.2 i bs[i] q hb hq)
  exact ⟨bs[i], i2.toArray, by simp [hb], IsTup.on t2 k, by simpa using ints_vals r2⟩
theorem kV_ints (k : List Int) : (k.map (Sum.inl : Int → Key)).map kV = k.map V.int := by
  rw [List.map_map]; rfl
theorem dict_at (I : Inv X pins σ H s) {a : Addr} {kvs : List (List Key × V)} {js : List (List Int)} (h : Rd H a (.dT kvs)) (hk : kvs.map (·.1) = js.map (·.map Sum.inl)) :
    (a == sysModules) = false ∧ ∃ (es : Array DictEntry) (ep : Nat) (bs : List Addr), Dk.Ent s.heap a es ep ∧ es.size = js.length ∧ js.length ≤ sizeLine ∧ es.toList.map (·.key) = bs.map Value.ref ∧ KyV H bs js := by
  obtain ⟨z, y, xs, r, o, es, ep, h1, h2, h3, h4, h5⟩ := (show ObjOk X.prog X.w H s.heap a (.dT kvs) from rd_of I.hok h)
  obtain ⟨k1, k2⟩ := KT.addrs (show KT H kvs xs from r)
  have ln : kvs.length = js.length := by simpa using congrArg List.length hk
  have el : es.size = xs.length := by rw [← Array.length_toList, h4, List.length_map]
  refine ⟨y, es, ep, xs.map (·.2.1), ⟨o, h1, h2, h3⟩, by omega, by omega, ?_, by simp; omega, fun i b k hb hj => ?_⟩
  · rw [h4, List.map_map, List.map_map]; rfl
  · rw [List.getElem?_map] at hb
    cases e : xs[i]? with
    | none => rw [e] at hb; cases hb
    | some q =>
      rw [e] at hb
      cases hb
      obtain ⟨p, g1, g2⟩ := k2 i q e
      have : (kvs.map (·.1))[i]? = (js.map (·.map Sum.inl))[i]? := by rw [hk]
      rw [List.getElem?_map, List.getElem?_map, g1, hj] at this
      have e2 : p.1 = k.map Sum.inl := by simpa using this
      show H q.2.1 = _
      rw [g2, e2, kV_ints]
theorem call_srtD (hc : X.calm = true) : CallR X (.builtin "sorted") (fun xs H Q => ∃ (a : Addr) (kvs : List (List Key × V)) (js : List (List Int)), xs = [.ref a] ∧ Rd H a (.dT kvs) ∧ kvs.map (·.1) = js.map (·.map Sum.inl) ∧ js.length < 64 ∧ (2 ≤ js.length → ∀ k ∈ js, k ≠ []) ∧
    ∀ bs, KyV H bs js → ∀ p, Srt.Inv js.length p → Srt.Up (fun i j => Srt.lx (js.getD i []) (js.getD j [])) p js.length → ∀ l, H l = none → Q (.ref l) (upd H l (.lst (pick p (bs.map V.ref))))) := by
  intro pins s σ H xs us Q I r h
  obtain ⟨a, kvs, js, rfl, hq, hk, few, ne, q⟩ := h
  obtain ⟨u, rfl, rx⟩ := vals1 r
  cases rx
  obtain ⟨y, es, ep, bs, x, sz, z, ek, kb⟩ := dict_at I hq hk
  have lb : (bs.map V.ref).length = js.length := by simpa using kb.1
  refine sorted_at (Srt.lx_tot.ord fun i => js.getD i []) I (vals_adr bs) (by omega) (fun R k => Dk.collect_d (I.ok.hd hc) y x (by omega) fun h' kp => by rw [ek]; exact k h' kp) (fun two t k => ?_) fun p ip u l hl => ?_
  · have two' : 2 ≤ js.length := by rw [← kb.1]; simpa using two
    exact Srt.ask_tups (tups_are I kb k) (ne two') two
  · rw [lb] at ip u
    exact q bs kb p ip u l hl
end
end L2
set_option Elab.async false
set_option linter.all false
set_option maxRecDepth 100000
set_option maxHeartbeats 1000000
namespace Mir
open PySem L2
variable {X : Cx} {P : XP} {a b c e : Expr} {es : List Expr} {f g : FE} {fs : FEs} {pos p : Pos}
section
variable {K : PySem.W.Frag} {G : Hp}
theorem Reps.map_ints : ∀ (ns : List Int), Reps K G (ns.map D.int) (ns.map V.int)
  | [] => rfl
  | n :: ns => ⟨.int n, _, rfl, rfl, Reps.map_ints ns⟩
theorem Reps.pick {α : Type} (mk : α → D) {ks : List α} {ys : List V} {q : Array Nat} {d0 : α} {r : α → α → Bool} (t : Srt.Tot r) (h : Reps K G (ks.map mk) ys) (ip : Srt.Inv ks.length q) (u : Srt.Up (fun i j => r (ks.getD i d0) (ks.getD j d0)) q ks.length) :
    Reps K G ((Srt.srt r ks).map mk) (L2.pick q ys) := by
  rw [← Srt.srt_of t d0 ip u, List.map_map]
  have bd : ∀ i ∈ q.toList, i < ks.length := fun i hi => by simpa using (Srt.perm_get ip).mem_iff.mp hi
  have ln := h.length
  rw [List.length_map] at ln
  have go : ∀ l : List Nat, (∀ i ∈ l, i < ks.length) → Reps K G (l.map (mk ∘ fun i => ks.getD i d0)) (l.map fun i => ys.getD i .non) := by
    intro l
    induction l with
    | nil => intro _; rfl
    | cons i l ih =>
      intro b
      have hi := b i List.mem_cons_self
      obtain ⟨v, e1, e2⟩ := h.get (i := i) (d := mk (ks.getD i d0)) (by simp [hi])
      exact ⟨_, _, rfl, by show Rep K G (mk (ks.getD i d0)) (ys.getD i .non); rw [show ys.getD i .non = v by simp [e1]]; exact e2, ih fun j hj => b j (List.mem_cons_of_mem _ hj)⟩
  exact go q.toList bd
end
def srtIE (a : FE) : FE := fun ρ => do
  let x ← a ρ
  let ds ← asS x.d
  let ns ← intsR ds
  if ns.length < 64 then .ok ⟨.tmp, true, .lst ((Srt.srt Srt.ix ns).map D.int)⟩ else .stk
theorem boot_srt : bootBuiltins "sorted" = some (.builtin "sorted") := by decide +kernel
theorem m_srtI (hg : Gl X "sorted") (hm : X.mg "sorted" = none) (ha : PE X a (tE X.K P f)) (he : starEach [a] X.env = [(false, eval a X.env)] := by rfl) : PE X (.Call (.Name "sorted" p) [a] [] pos) (tE X.K P (srtIE f)) := by
  refine PE.imp (pe_callB call_srtI hg hm boot_srt (ma_cons ha ma_nil he) (he := he)) ?_
  intro σ H Q h
  refine call1 h ?_
  intro H0 B ρ v H' r d0 d g s h
  cases e : asS r.d with
  | stk => simp [e] at h
  | exc x => exact (asS_exc e).elim
  | ok ds =>
    simp only [e, R.ok_bind] at h
    cases e2 : intsR ds with
    | stk => simp [e2] at h
    | exc x => exact (intsR_exc e2).elim
    | ok ns =>
      simp only [e2, R.ok_bind] at h
      by_cases few : ns.length < 64
      · rw [if_pos few] at h
        obtain ⟨a, xs, h1, h2, h3⟩ := g.seq e
        have hx := Reps.ints e2 h3
        subst hx
        refine ⟨a, ns, by rw [h1], h2.imp .inl fun z => .inl (.inl z), few, fun q iq u l hl => h _ _ (Same.upd_new hl) (new_list d s hl ?_)⟩
        exact Reps.pick D.int Srt.ix_tot (Reps.map_ints ns) iq u
      · rw [if_neg few] at h; exact h.elim
def mkP (k : List Int × Int) : D := .tup [.tup (k.1.map D.int), .int k.2]
def asP : D → R (List Int × Int)
  | .tup [.tup ds, .int n] => do
    let k ← intsR ds
    .ok (k, n)
  | _ => .stk
def pairsR : List D → R (List (List Int × Int))
  | [] => .ok []
  | d :: r => do
    let i ← asP d
    let l ← pairsR r
    .ok (i :: l)
theorem intsR_eq : ∀ {ds : List D} {l : List Int}, intsR ds = .ok l → ds = l.map D.int
  | [], l, h => by simp [intsR] at h; subst h; rfl
  | d :: r, l, h => by
    simp only [intsR] at h
    cases e : asI d with
    | stk => simp [e] at h
    | exc y => exact (asI_exc e).elim
    | ok i =>
      cases e2 : intsR r with
      | stk => simp [e, e2] at h
      | exc y => exact (intsR_exc e2).elim
      | ok l' =>
        simp only [e, e2, R.ok_bind, R.ok.injEq] at h
        subst h
        rw [asI_ok e, intsR_eq e2]; rfl
theorem asP_ok {d : D} {k : List Int × Int} (h : asP d = .ok k) : d = mkP k := by
  unfold asP at h
  split at h
  · rename_i ds n
    cases e : intsR ds with
    | stk => simp [e] at h
    | exc y => exact (intsR_exc e).elim
    | ok l =>
      simp only [e, R.ok_bind, R.ok.injEq] at h
      subst h
      rw [intsR_eq e]; rfl
  · cases h
theorem asP_exc {d : D} {x : Xc} (h : asP d = .exc x) : False := by
  unfold asP at h
  split at h
  · rename_i ds n
    cases e : intsR ds with
    | stk => simp [e] at h
    | exc y => exact (intsR_exc e).elim
    | ok l => simp [e] at h
  · cases h
theorem pairsR_exc {x : Xc} : ∀ {ds : List D}, pairsR ds = .exc x → False
  | [], h => by simp [pairsR] at h
  | d :: r, h => by
    simp only [pairsR] at h
    cases e : asP d with
    | stk => simp [e] at h
    | exc y => exact asP_exc e
    | ok i =>
      cases e2 : pairsR r with
      | stk => simp [e, e2] at h
      | exc y => exact pairsR_exc e2
      | ok l => simp [e, e2] at h
theorem pairsR_eq : ∀ {ds : List D} {l : List (List Int × Int)}, pairsR ds = .ok l → ds = l.map mkP
  | [], l, h => by simp [pairsR] at h; subst h; rfl
  | d :: r, l, h => by
    simp only [pairsR] at h
    cases e : asP d with
    | stk => simp [e] at h
    | exc y => exact (asP_exc e).elim
    | ok i =>
      cases e2 : pairsR r with
      | stk => simp [e, e2] at h
      | exc y => exact (pairsR_exc e2).elim
      | ok l' =>
        simp only [e, e2, R.ok_bind, R.ok.injEq] at h
        subst h
        rw [asP_ok e, pairsR_eq e2]; rfl
theorem imms_ints : ∀ ns : List Int, D.imms (ns.map D.int) = true
  | [] => rfl
  | n :: ns => by simp [D.imms, D.imm, imms_ints ns]
theorem imms_pairs : ∀ ks : List (List Int × Int), D.imms (ks.map mkP) = true
  | [] => rfl
  | k :: ks => by simp [mkP, D.imms, D.imm, imms_ints, imms_pairs ks]
theorem prV_of {K : PySem.W.Frag} {G H : Hp} (sm : Same G H) {ks : List (List Int × Int)} {ys : List V} (h : Reps K G (ks.map mkP) ys) : PrV H ys ks := by
  refine ⟨by rw [← h.length, List.length_map], fun i k hk => ?_⟩
  obtain ⟨v, e1, e2⟩ := h.get (i := i) (d := mkP k) (by simp [hk])
  obtain ⟨q, xs, rfl, e3, x1, xr, rfl, ⟨b, zs, rfl, e4, e5⟩, x2, xr2, rfl, e6, e7⟩ := e2
  have e8 : xr2 = [] := e7
  have e9 : x2 = .int k.2 := e6
  subst e8 e9
  have ez := Reps.ints (show intsR (k.1.map D.int) = .ok k.1 from ?_) e5
  · subst ez
    exact ⟨q, b, e1, sm _ _ e3, sm _ _ e4⟩
  · generalize k.1 = l
    induction l with
    | nil => rfl
    | cons n l ih => simp [intsR, asI, ih]
def srtPE (a : FE) : FE := fun ρ => do
  let x ← a ρ
  let ds ← asL x.d
  let ks ← pairsR ds
  if ks.length < 64 then .ok ⟨.tmp, true, .lst ((Srt.srt Srt.px ks).map mkP)⟩ else .stk
theorem m_srtP (hu : X.A.units + 64 < cLine) (hg : Gl X "sorted") (hm : X.mg "sorted" = none) (ha : PE X a (tE X.K P f)) (he : starEach [a] X.env = [(false, eval a X.env)] := by rfl) : PE X (.Call (.Name "sorted" p) [a] [] pos) (tE X.K P (srtPE f)) := by
  refine PE.imp (pe_callB (call_srtP hu) hg hm boot_srt (ma_cons ha ma_nil he) (he := he)) ?_
  intro σ H Q h
  refine call1 h ?_
  intro H0 B ρ v H' r d0 d g s h
  cases e : asL r.d with
  | stk => simp [e] at h
  | exc x => exact (asL_exc e).elim
  | ok ds =>
    simp only [e, R.ok_bind] at h
    cases e2 : pairsR ds with
    | stk => simp [e2] at h
    | exc x => exact (pairsR_exc e2).elim
    | ok ks =>
      simp only [e2, R.ok_bind] at h
      by_cases few : ks.length < 64
      · rw [if_pos few] at h
        obtain ⟨a, xs, h1, h2, h3⟩ := g.list (asL_ok e)
        have ed := pairsR_eq e2
        subst ed
        have ln := h3.length
        rw [List.length_map] at ln
        refine ⟨a, xs, ks, by rw [h1], .inl h2, prV_of cut_same h3, by omega, fun q iq u l hl => h _ _ (Same.upd_new hl) (new_list d s hl ?_)⟩
        have r1 := Reps.pick mkP Srt.px_tot h3 iq u
        cases hf : r.fr with
        | true => rw [hf] at r1; exact r1
        | false => rw [hf] at r1; exact Reps.imm d.sam (imms_pairs _) r1
      · rw [if_neg few] at h; exact h.elim
def mkT (k : List Int) : D := .tup (k.map D.int)
def srtDE (a : FE) : FE := fun ρ => do
  let x ← a ρ
  match x.d with
  | .dct ks _ => if ks.length < 64 ∧ (2 ≤ ks.length → ∀ k ∈ ks, k ≠ []) then .ok ⟨.tmp, true, .lst ((Srt.srt Srt.lx ks).map mkT)⟩ else .stk
  | _ => .stk
theorem tup_cut {K : PySem.W.Frag} {H0 H' : Hp} {B : Addr → Prop} {σ : St} {ρ : Env} {b : Addr} {xs : List V} (d : DenE K H0 H' B σ ρ) (e : H' b = some (.tup xs)) (fr : Bool) : cutF fr H0 H' B b = some (.tup xs) := by
  refine cut_some.mpr ⟨fun z => ?_, e⟩
  rcases z with z | ⟨_, o, z, q⟩
  · obtain ⟨o, q1, q2⟩ := d.bnd b z; rw [e] at q1; cases q1; cases q2
  · rw [d.sam _ _ z] at e; cases e; cases q
theorem reps_keys {K : PySem.W.Frag} {H0 H' : Hp} {B : Addr → Prop} {σ : St} {ρ : Env} (d : DenE K H0 H' B σ ρ) (fr : Bool) : ∀ {bs : List Addr} {js : List (List Int)}, KyV H' bs js → Reps K (cutF fr H0 H' B) (js.map mkT) (bs.map V.ref)
  | [], [], _ => rfl
  | [], _ :: _, h => by have := h.1; simp at this
  | _ :: _, [], h => by have := h.1; simp at this
  | b :: bs, k :: js, h => ⟨.ref b, _, rfl, ⟨b, _, rfl, tup_cut d (h.2 0 b k rfl rfl) fr, Reps.map_ints k⟩, reps_keys d fr ⟨by simpa using h.1, fun i c q h1 h2 => h.2 (i + 1) c q (by simpa using h1) (by simpa using h2)⟩⟩
theorem m_srtD (hc : X.calm = true) (hg : Gl X "sorted") (hm : X.mg "sorted" = none) (ha : PE X a (tE X.K P f)) (he : starEach [a] X.env = [(false, eval a X.env)] := by rfl) : PE X (.Call (.Name "sorted" p) [a] [] pos) (tE X.K P (srtDE f)) := by
  refine PE.imp (pe_callB (call_srtD hc) hg hm boot_srt (ma_cons ha ma_nil he) (he := he)) ?_
  intro σ H Q h
  refine call1 h ?_
  intro H0 B ρ v H' r d0 d g s h
  cases hd : r.d with
  | dct ks ds =>
    simp only [hd] at h
    by_cases few : ks.length < 64 ∧ (2 ≤ ks.length → ∀ k ∈ ks, k ≠ [])
    · rw [if_pos few] at h
      obtain ⟨a, kvs, h1, h2, h3, h4⟩ := g.dict hd
      refine ⟨a, kvs, ks, by rw [h1], h2, h3, few.1, few.2, fun bs kb q iq u l hl => h _ _ (Same.upd_new hl) (new_list d s hl ?_)⟩
      exact Reps.pick mkT Srt.lx_tot (reps_keys d true kb) iq u
    · rw [if_neg few] at h; exact h.elim
  | _ => simp [hd] at h
end Mir
set_option Elab.async false
set_option linter.all false
set_option maxRecDepth 100000
set_option maxHeartbeats 1000000
namespace Dk
open PySem Zp PySem.W
section
variable {prog : Program} {w : World} {A : Around} {E : Value → Shared → Prop} {s : Shared} {d it v : Addr} {es : Array DictEntry} {i ep : Nat}
theorem items_d {Q : Value → Shared → Prop} (ne : (d == sysModules) = false) (x : Ent s.heap d es ep)
    (q : Q (.ref s.heap.objs.size) { s with heap := s.heap.push { cls := .type "dict_items", data := .fields #[.ref d] } }) : wpAny (model prog w) A (call (.builtin "dict.items") [.ref d]) Q E s := by
  have ty := x.ty
  obtain ⟨o, h1, h2, h3⟩ := x
  have ne' : ¬ (d == sysModules) = true := by rw [ne]; exact Bool.false_ne_true
  have kc : ¬ (o.cls != Value.type "dict") = true := by rw [h2.1]; decide
  refine wpAny_call_entry F.slot_dict_items ty F.entry_dict_items ?_ (F.args_dict_items_1 _)
  repeat (first | assumption | (rw [if_neg kc]) | (rw [if_neg ne']) | (with_reducible refine wpAny_notOrdered_dict ty ?_) | wp_step)
  exact ⟨_, rfl, q⟩
abbrev irc (d : Addr) (i n ep : Nat) (k u : Value) : Obj := { cls := .type "dict_itemiterator", data := .fields #[.none, .bool false, .ref d, .int i 0, .int n 0, .int ep 0, k, u] }
theorem iter_v {Q : Value → Shared → Prop} (hv : s.heap.get? v = some { cls := .type "dict_items", data := .fields #[.ref d] }) (x : Ent s.heap d es ep)
    (q : Q (.ref s.heap.objs.size) { s with heap := s.heap.push (irc d 0 es.size ep .none .none) }) : wpAny (model prog w) A (pyIter (.ref v)) Q E s := by
  have ty : s.TypeIs (.ref v) "dict_items" := ⟨_, hv, rfl⟩
  obtain ⟨o, h1, h2, h3⟩ := x
  refine wpAny_pyIter_slot ty F.slot_dict_items_iter (wpAny_call_entry F.slot_dict_items_iter ty F.entry_dict_items_iter ?_ (F.args_dict_items_iter_1 _))
  repeat (first | assumption | (with_reducible refine wpAny_field hv rfl rfl ?_) | (with_reducible refine wpAny_dictEntries h1 h3 ?_) | (with_reducible refine wpAny_dictEpoch h1 h3 ?_) | wp_step)
  exact ⟨.ref s.heap.objs.size, rfl, "dict_itemiterator", _, ⟨irc d 0 es.size ep .none .none, Heap.get?_push_size _ rfl, rfl⟩, F.slot_dict_itemiterator_next.lookup, q⟩
theorem idraw {k : DictEntry} {ok ov : Value} {Q : Fin → Shared → Prop} (ho : s.heap.get? it = some (irc d i es.size ep ok ov)) (x : Ent s.heap d es ep) (ek : es[i]? = some k)
    (q : ∀ h', IsItemIterOut h' it d (i + 1) es.size ep k.key k.val s.heap.objs.size → h'.get? s.heap.objs.size = some { cls := .type "tuple", data := .seq #[k.key, k.val] } → (∀ b o, b ≠ it → s.heap.get? b = some o → h'.get? b = some o) → Q (.done (.ret (.ref s.heap.objs.size))) { s with heap := h' }) :
    wpAny (model prog w) A (Builtin.«dict_itemiterator.__next__» ⟨[.ref it], []⟩) Q E s := by
  obtain ⟨o, h1, h2, h3⟩ := x
  have ty : s.TypeIs (.ref it) "dict_itemiterator" := ⟨_, ho, rfl⟩
  have ek' : (if (i : Int) < 0 then none else es[(i : Int).toNat]?) = some k := by rw [if_neg (by omega), Int.toNat_natCast]; exact ek
  repeat (first | assumption | (rw [ek']) | (with_reducible refine wpAny_isOneOf_itemiter ⟨_, e1, rfl⟩ ?_) | (with_reducible refine wpAny_typeNameOfWhole_itemiter ty ?_) | (with_reducible refine wpAny_isOneOf_itemiter ty ?_) | (with_reducible refine wpAny_dictEntries h1 h3 ?_) | (with_reducible refine wpAny_dictEpoch h1 h3 ?_) | (with_reducible refine wpAny_fieldsOf ho rfl ?_) | (with_reducible refine wpAny_setField_rec ho (by simp; decide) fun h' e1 e2 => ?_) | wp_step)
  have z : h'.objs.size = s.heap.objs.size := e2.1
  have lt : it < s.heap.objs.size := Heap.lt_size ho
  have g0 : (h'.push { cls := .type "tuple", data := .seq #[k.key, k.val] }).get? it = some (irc d (i + 1) es.size ep ok ov) := Heap.get?_push_of_some _ (e1.trans rfl)
  have p0 : (h'.push { cls := .type "tuple", data := .seq #[k.key, k.val] }).get? s.heap.objs.size = some { cls := .type "tuple", data := .seq #[k.key, k.val] } := z ▸ Heap.get?_push_size _ rfl
  have k0 : ∀ b o, b ≠ it → s.heap.get? b = some o → (h'.push { cls := .type "tuple", data := .seq #[k.key, k.val] }).get? b = some o := fun b o nb e => Heap.get?_push_of_some _ (e2.extBut b o nb e)
  rw [z]
  generalize h'.push { cls := .type "tuple", data := .seq #[k.key, k.val] } = g at g0 p0 k0
  have a1 := Heap.get?_update_self (Obj.mapFields fun x => x.setIfInBounds 6 k.key) g0 rfl
  have a2 := Heap.get?_update_self (Obj.mapFields fun x => x.setIfInBounds (6 + 1) k.val) a1 rfl
  have a3 := Heap.get?_update_self (Obj.mapFields fun x => x.setIfInBounds 0 (rawInt (s.heap.objs.size : Nat))) a2 rfl
  have a4 := Heap.get?_update_self (Obj.mapFields fun x => x.setIfInBounds 1 (Value.bool false)) a3 rfl
  have up : ∀ b o, b ≠ it → g.get? b = some o → ((((g.update it (Obj.mapFields fun x => x.setIfInBounds 6 k.key)).update it (Obj.mapFields fun x => x.setIfInBounds (6 + 1) k.val)).update it (Obj.mapFields fun x => x.setIfInBounds 0 (rawInt (s.heap.objs.size : Nat)))).update it (Obj.mapFields fun x => x.setIfInBounds 1 (Value.bool false))).get? b = some o := fun b o nb e =>
    (Heap.get?_update_other _ _ nb.symm).trans ((Heap.get?_update_other _ _ nb.symm).trans ((Heap.get?_update_other _ _ nb.symm).trans ((Heap.get?_update_other _ _ nb.symm).trans e)))
  exact q _ (a4.trans rfl) (up _ _ (Nat.ne_of_gt lt) p0) fun b o nb e => up b o nb (k0 b o nb e)
theorem idry {ok ov : Value} {Q : Fin → Shared → Prop} (hh : A.handled = none) (ho : s.heap.get? it = some (irc d i es.size ep ok ov)) (x : Ent s.heap d es ep) (ek : es.size ≤ i)
    (q : ∀ h' e o, h'.get? e = some o → o.cls = .type "StopIteration" → Heap.ExtBut it s.heap h' → E (.ref e) { s with heap := h' }) :
    wpAny (model prog w) A (Builtin.«dict_itemiterator.__next__» ⟨[.ref it], []⟩) Q E s := by
  obtain ⟨o, h1, h2, h3⟩ := x
  have ty : s.TypeIs (.ref it) "dict_itemiterator" := ⟨_, ho, rfl⟩
  have ek' : (if (i : Int) < 0 then none else es[(i : Int).toNat]?) = none := by rw [if_neg (by omega), Int.toNat_natCast]; exact Array.getElem?_eq_none ek
  repeat (first | assumption | (rw [ek']) | (rw [hh]) | (with_reducible refine wpAny_typeNameOfWhole_itemiter ty ?_) | (with_reducible refine wpAny_isOneOf_itemiter ty ?_) | (with_reducible refine wpAny_dictEntries h1 h3 ?_) | (with_reducible refine wpAny_dictEpoch h1 h3 ?_) | (with_reducible refine wpAny_fieldsOf ho rfl ?_) | (with_reducible refine wpAny_setField_rec ho (by simp; decide) fun h' e1 e2 => ?_) | wp_step)
  unfold raiseNew
  refine wpAny_bind (wpAny_handled ?_); rw [hh]
  refine wpAny_bind (wpAny_pure (wpAny_throw (q _ _ _ (Heap.get?_push_size _ rfl) rfl ((e2.extBut.push _).push _))))
theorem selfI {n : Nat} {ok ov : Value} {Q : Value → Shared → Prop} (ho : s.heap.get? it = some (irc d i n ep ok ov)) (q : Q (.ref it) s) : wpAny (model prog w) A (pyIter (.ref it)) Q E s := by
  have ty : s.TypeIs (.ref it) "dict_itemiterator" := ⟨_, ho, rfl⟩
  refine wpAny_pyIter_slot ty F.slot_dict_itemiterator_iter (wpAny_call_entry F.slot_dict_itemiterator_iter ty (kcp_entry) ?_ (F.args_dict_itemiterator_iter_1 _))
  exact wpAny_pure ⟨.ref it, rfl, "dict_itemiterator", _, ty, F.slot_dict_itemiterator_next.lookup, q⟩
theorem inxt {o : Obj} {Q : Option Value → Shared → Prop} (ho : s.heap.get? it = some o) (hc : o.cls = .type "dict_itemiterator")
    (h : wpAny (model prog w) A.in1 (Builtin.«dict_itemiterator.__next__» ⟨[.ref it], []⟩) (fun r s' => ∃ v, r = .done (.ret v) ∧ Q (some v) s') (fun e s' => ∃ a u, e = .ref a ∧ s'.heap.get? a = some u ∧ u.cls = .type "StopIteration" ∧ Q none s') s) : wpAny (model prog w) A (pyNext (.ref it)) Q E s := by
  have ty : s.TypeIs (.ref it) "dict_itemiterator" := ⟨o, ho, hc⟩
  refine wpAny_bind (wpAny_attempt (wpAny_mono (Q := fun r s' => ∃ v, r = some v ∧ Q (some v) s') (wpAny_callSpecial?_slot ty F.slot_dict_itemiterator_next (wpAny_call_entry F.slot_dict_itemiterator_next ty F.entry_dict_itemiterator_next (wpAny_mono h ?_ fun _ _ e => e) (F.args_dict_itemiterator_next_1 _))) ?_ ?_))
  · rintro _ s' ⟨v, rfl, q⟩
    exact ⟨v, rfl, v, rfl, q⟩
  · rintro _ s' ⟨v, rfl, q⟩
    exact wpAny_pure q
  · rintro _ s' ⟨a, u, rfl, e1, e2, q⟩
    exact wpAny_bind (wpAny_isInstance (T := "StopIteration") (b := true) ⟨u, e1, e2⟩ isSubtype_stop (wpAny_pure q))
end
end Dk
set_option Elab.async false
set_option linter.all false
set_option maxRecDepth 100000
set_option maxHeartbeats 1000000
namespace L2
open PySem PySem.Spec PyProof.Rows
def ItD (a : Addr) (o : Obj) (kvs : List (List Key × V)) (bs : List Addr) : It :=
  ⟨fun i H => H a = some (.frz o (.dT kvs)) ∧ i < kvs.length, fun i H v H' => ∃ t b p, v = .ref t ∧ H t = none ∧ kvs[i]? = some p ∧ bs[i]? = some b ∧ H' = upd H t (.tup [.ref b, p.2]), fun i H => H a = some (.frz o (.dT kvs)) ∧ kvs.length ≤ i⟩
section
variable {X : Cx} {pins : List (Addr × Obj)} {σ : St} {H : Hp} {s : Shared} {a : Addr} {o : Obj} {kvs : List (List Key × V)}
theorem Inv.ice (I : Inv X pins σ H s) (h : H a = some (.dT kvs)) (ho : s.heap.get? a = some o) : Inv X pins σ (upd H a (.frz o (.dT kvs))) s := by
  have hn : ∀ {b : Addr} {u : HO}, H b = some u → u ≠ .dT kvs → b ≠ a := fun e d z => by rw [z, h] at e; cases e; exact d rfl
  have hz : ∀ {b : Addr}, H b = none → b ≠ a := fun e z => by rw [z, h] at e; cases e
  refine I.un (t' := s.toks) ⟨fun b u q _ _ _ => q, fun b u q _ _ _ => ⟨u.slots, q⟩, fun b u q n _ => by rw [upd_ne (hz n)]; exact n, fun b u q _ => ⟨u, q⟩, fun b xs q => by rw [upd_ne (hn q (by simp))]; exact q, fun b u xs q => by rw [upd_ne (hn q (by simp))]; exact q, fun b ps q => ⟨#[], by rw [upd_ne (hn q (by simp)), q]; simp⟩⟩ fun b u e => ?_
  have st : ∀ u, ObjOk X.prog X.w H s.heap b u → ObjOk X.prog X.w (upd H a (.frz o (.dT kvs))) s.heap b u := fun u q => q.stay (fun c v _ z => z) (fun c z => by rw [upd_ne (hn z (by simp))]; exact z) fun c xs z => by rw [upd_ne (hn z (by simp))]; exact z
  by_cases hb : b = a
  · subst hb; rw [upd_same] at e; cases e
    exact ⟨ho, st _ (I.hok b _ h)⟩
  · rw [upd_ne hb] at e
    exact st u (I.hok b u e)
theorem Inv.melt (I : Inv X pins σ H s) {u : HO} (h : H a = some (.frz o u)) (n0 : ∀ o' u', X.H₀ a ≠ some (.frz o' u')) : Inv X pins σ (upd H a u) s := by
  have hn : ∀ {b : Addr} {u' : HO}, H b = some u' → u' ≠ .frz o u → b ≠ a := fun e d z => by rw [z, h] at e; cases e; exact d rfl
  have hz : ∀ {b : Addr}, H b = none → b ≠ a := fun e z => by rw [z, h] at e; cases e
  have B := I.base
  refine ⟨I.ok, I.os, I.bare, ⟨B.keep, B.slot, fun b ob q n x => ?_, B.there, fun b xs q => ?_, fun b ob v q => ?_, fun b ps q => ?_⟩, I.loc, I.cell, ?_, fun x c e => ?_, fun p hp => ?_, fun b v e => ?_, I.len⟩
  · have := B.free b ob q n x
    rw [upd_ne (hz this)]; exact this
  · have := B.tups b xs q
    rw [upd_ne (hn this (by simp))]; exact this
  · have := B.frzs b ob v q
    rw [upd_ne (fun z => n0 ob v (by rw [← z]; exact q))]; exact this
  · obtain ⟨m, e⟩ := B.tbls b ps q
    exact ⟨m, by rw [upd_ne (hn e (by simp))]; exact e⟩
  · rw [upd_ne (hz I.free)]; exact I.free
  · have := I.freeC x c e
    rw [upd_ne (hz this)]; exact this
  · obtain ⟨e1, e2, e3⟩ := I.pin p hp
    exact ⟨e1, by rw [upd_ne (hz e2)]; exact e2, e3⟩
  · have st : ∀ v, ObjOk X.prog X.w H s.heap b v → ObjOk X.prog X.w (upd H a u) s.heap b v := fun v q => q.stay (fun c v _ z => z) (fun c z => by rw [upd_ne (hn z (by simp))]; exact z) fun c xs z => by rw [upd_ne (hn z (by simp))]; exact z
    by_cases hb : b = a
    · subst hb; rw [upd_same] at e; cases e
      exact st _ (I.hok b _ h).2
    · rw [upd_ne hb] at e
      exact st v (I.hok b v e)
theorem KT.vals {xs : List (List Key × Addr × Value)} (r : KT H kvs xs) : ∀ (i : Nat) (p : List Key × V), kvs[i]? = some p → ∃ q, xs[i]? = some q ∧ H q.2.1 = some (.tup (p.1.map kV)) ∧ RelV p.2 q.2.2 := by
  induction r with
  | nil => exact fun i q h => by simp at h
  | cons hq t ih =>
    intro i q h
    cases i with
    | zero => simp at h; subst h; exact ⟨_, rfl, hq.2⟩
    | succ j =>
      obtain ⟨p, h1, h2⟩ := ih j q (by simpa using h)
      exact ⟨p, by simpa using h1, h2⟩
theorem iced (I : Inv X pins σ H s) (h : H a = some (.frz o (.dT kvs))) {es : Array DictEntry} {ep : Nat} (hd : o.data = .dict es ep) : Dk.Ent s.heap a es ep ∧ es.size = kvs.length ∧ (a == sysModules) = false ∧
    ∀ (i : Nat) (p : List Key × V), kvs[i]? = some p → ∃ k b, es[i]? = some k ∧ k.key = .ref b ∧ H b = some (.tup (p.1.map kV)) ∧ RelV p.2 k.val := by
  obtain ⟨e0, z, y, xs, r, o', es', ep', h1, h2, h3, h4, h5⟩ := I.hok a _ h
  rw [e0] at h1; cases h1
  rw [hd] at h3; cases h3
  have el : es.size = xs.length := by rw [← Array.length_toList, h4, List.length_map]
  refine ⟨⟨o, e0, h2, hd⟩, by rw [el]; exact (KT.addrs (show KT H kvs xs from r)).1, y, fun i p hp => ?_⟩
  obtain ⟨q, q1, q2, q3⟩ := KT.vals (show KT H kvs xs from r) i p hp
  refine ⟨entryOfKey (tupleKind (mixKind X.prog X.w)) q, q.2.1, ?_, rfl, q2, q3⟩
  rw [← Array.getElem?_toList, h4, List.getElem?_map, q1]; rfl
end
def DTn (it a : Addr) (n ep : Nat) (i : Nat) (h : Heap) : Prop := ∃ ok ov, h.get? it = some (Dk.irc a i n ep ok ov)
theorem turn_items {P : Program} {w : World} {K : PySem.W.Frag} {ts : List Expr} {k : Nat} {pos : Pos} {it a : Addr} {o : Obj} {kvs : List (List Key × V)} {es : Array DictEntry} {ep : Nat} {bs : List Addr} (hd : o.data = .dict es ep) (hb : es.toList.map (·.key) = bs.map Value.ref) : Turn P w K (.Tuple ts k pos) (ItD a o kvs bs) [it] it (DTn it a es.size ep) where
  mem := by simp
  obj := fun i h ⟨ok, ov, e⟩ c hc => by
    have z : c = it := by simpa using hc
    subst z
    exact ⟨_, e, fun v z => nomatch z⟩
  keep := fun i h h' ⟨ok, ov, e⟩ kp => ⟨ok, ov, kp _ (by simp) _ e⟩
  item := by
    intro X hP hw hK hc i pins s σ H E I hf st hg
    subst hP hw hK
    obtain ⟨ok, ov, e⟩ := st
    obtain ⟨x, sz, _, get⟩ := iced I hg.1 hd
    have hlt : i < kvs.length := hg.2
    obtain ⟨ky, b, g1, g2, g3, g4⟩ := get i kvs[i] (List.getElem?_eq_getElem hlt)
    have hbi : bs[i]? = some b := by
      have : (es.toList.map (·.key))[i]? = (bs.map Value.ref)[i]? := by rw [hb]
      rw [List.getElem?_map, List.getElem?_map, Array.getElem?_toList, g1] at this
      cases q : bs[i]? with
      | none => rw [q] at this; cases this
      | some c => rw [q] at this; simp [g2] at this; rw [this]
    have li : it < s.heap.objs.size := Heap.lt_size e
    refine Dk.inxt e rfl (Dk.idraw e x g1 fun h' b1 b2 b3 => ⟨_, rfl, _, rfl, ?_⟩)
    refine wpAny_letOwnedTupleGo_items b1 fun hp2 c1 cs => ?_
    have kp : ∀ c u, c ∉ [it] → s.heap.get? c = some u → hp2.get? c = some u := fun c u hc' q => by
      have nc : c ≠ it := by simpa using hc'
      exact cs.extBut c u nc (b3 c u nc q)
    have pr := cs.extBut _ _ (Nat.ne_of_gt li) b2
    rw [g2] at pr
    refine ⟨.ref s.heap.objs.size, upd H s.heap.objs.size (.tup [.ref b, kvs[i].2]), I.turnedNew (t' := s.toks) kp hf (fun c hc' => ?_) (Nat.le_refl _) ⟨by show 2 ≤ sizeLine; decide, [.ref b, ky.val], .cons rfl (.cons g4 .nil), ⟨_, pr, rfl, _, rfl⟩⟩, rfl,
      ⟨_, b, kvs[i], rfl, I.fresh, List.getElem?_eq_getElem hlt, hbi, rfl⟩, ⟨_, _, c1⟩, fun c hc' => ?_⟩
    · have z : c = it := by simpa using hc'
      subst z
      exact ⟨_, c1⟩
    · have z : c = it := by simpa using hc'
      subst z
      rw [upd_ne (Nat.ne_of_lt li)]
      exact (hf c hc').1
  done := by
    intro X hP hw hK hc i pins s σ H E I hf st hg
    subst hP hw hK
    obtain ⟨ok, ov, e⟩ := st
    obtain ⟨x, sz, _, get⟩ := iced I hg.1 hd
    refine Dk.inxt e rfl (Dk.idry (show X.A.in1.handled = none from I.ok.hd hc) e x (by rw [sz]; exact hg.2) fun h' ex u e1 e2 eb => ⟨ex, u, rfl, e1, e2, rfl, I.turnedL (t' := s.toks) (fun c u hc' q => ?_) hf⟩)
    have nc : c ≠ it := by simpa using hc'
    exact eb c u nc q
  self := fun _ _ _ _ _ ⟨ok, ov, e⟩ h => Dk.selfI e h
def KyA (H : Hp) (bs : List Addr) (kvs : List (List Key × V)) : Prop := bs.length = kvs.length ∧ ∀ (i : Nat) (b : Addr) (p : List Key × V), bs[i]? = some b → kvs[i]? = some p → H b = some (.tup (p.1.map kV))
def iItems (td : TE) : TI := fun σ H R => td σ H fun x H1 => ∃ a kvs, x = .ref a ∧ ((H1 a = some (.dT kvs) ∧ ∀ o bs, KyA H1 bs kvs → R (ItD a o kvs bs) (upd H1 a (.frz o (.dT kvs)))) ∨ ∃ o, H1 a = some (.frz o (.dT kvs)) ∧ ∀ bs, KyA H1 bs kvs → R (ItD a o kvs bs) H1)
theorem keys_at {X : Cx} {pins : List (Addr × Obj)} {σ : St} {H : Hp} {s : Shared} {a : Addr} {o : Obj} {kvs : List (List Key × V)} (I : Inv X pins σ H s) (h : Rd H a (.dT kvs)) (ho : s.heap.get? a = some o) :
    ∃ es ep bs, o.ExactDict ∧ o.data = .dict es ep ∧ es.toList.map (·.key) = bs.map Value.ref ∧ KyA H bs kvs ∧ (a == sysModules) = false := by
  obtain ⟨z, y, xs, r, o', es, ep, h1, h2, h3, h4, h5⟩ := (show ObjOk X.prog X.w H s.heap a (.dT kvs) from rd_of I.hok h)
  rw [ho] at h1; cases h1
  obtain ⟨k1, k2⟩ := KT.addrs (show KT H kvs xs from r)
  refine ⟨es, ep, xs.map (·.2.1), h2, h3, by rw [h4, List.map_map, List.map_map]; rfl, ⟨by simp [k1], fun i b p hb hp => ?_⟩, y⟩
  rw [List.getElem?_map] at hb
  cases e : xs[i]? with
  | none => rw [e] at hb; cases hb
  | some q =>
    rw [e] at hb
    cases hb
    obtain ⟨p', g1, g2⟩ := k2 i q e
    rw [hp] at g1; cases g1
    exact g2
theorem pi_items {X : Cx} {ts : List Expr} {k : Nat} {tp : Pos} {e : Expr} {td : TE} {ap cp : Pos} (he : PE X e td) (hbase : attributeBase e "items" X.env (eval e X.env) = eval e X.env := by rfl) (hline : (ap.endLine == cp.line) = true := by rfl) :
    PI X (.Tuple ts k tp) (.Call (.Attribute e "items" ap) [] [] cp) (iItems td) := by
  intro pins s σ H R I h
  refine wpAny_Call_method0_late hbase hline (thn (he pins s σ H _ I h) fun v s1 ⟨x, H1, I1, r1, a, kvs, ex, q1⟩ => ?_)
  subst ex
  obtain rfl : v = Value.ref a := r1
  obtain ⟨o, H2, I2, h2, q2⟩ : ∃ o H2, Inv X pins σ H2 s1 ∧ H2 a = some (.frz o (.dT kvs)) ∧ ∀ bs, KyA H1 bs kvs → R (ItD a o kvs bs) H2 := by
    rcases q1 with ⟨q, f⟩ | ⟨o, q, f⟩
    · obtain ⟨o, ho⟩ := (I1.hok a _ q).there
      exact ⟨o, _, I1.ice q ho, upd_same, f o⟩
    · exact ⟨o, H1, I1, q, f⟩
  have rd : Rd H1 a (.dT kvs) := q1.elim (fun z => .inl z.1) fun ⟨o, z, _⟩ => .inr ⟨o, z⟩
  have ho : s1.heap.get? a = some o := (I2.hok a _ h2).1
  obtain ⟨es, ep, bs, x1, x2, x3, x4, x5⟩ := keys_at I1 rd ho
  have en : Dk.Ent s1.heap a es ep := ⟨o, ho, x1, x2⟩
  refine ⟨"dict", "dict.items", PySem.F.plainAttrs_dict, PySem.F.slot_dict_items, PySem.F.type_dict_items, ⟨o, ho, x1.1⟩, fun a' e' => by cases e'; exact ⟨o, ho, x1.2.1⟩, Calls.callWith_builtin rfl (PySem.evalArgs_none (Dk.items_d x5 en ?_))⟩
  have en1 : Dk.Ent (s1.heap.push { cls := .type "dict_items", data := .fields #[.ref a] }) a es ep := ⟨o, Heap.get?_push_of_some _ ho, x1, x2⟩
  refine Dk.iter_v (Heap.get?_push_size _ rfl) en1 ?_
  have big : s1.heap.objs.size ≤ (s1.heap.push { cls := .type "dict_items", data := .fields #[.ref a] }).objs.size := by rw [Heap.size_push]; exact Nat.le_succ _
  have fr := I2.hok.fresh big
  exact ⟨_, [_], _, _, H2, rfl, I2.kept (t' := s1.toks) fun b u q => Heap.get?_push_of_some _ (Heap.get?_push_of_some _ q), turn_items x2 x3, ⟨_, _, Heap.get?_push_size _ rfl⟩, fun c hc' => by
    rw [List.mem_singleton.mp hc']
    exact I2.fpOk big fr, q2 bs x4⟩
def Melt (H H2 H3 : Hp) : Prop := H3 = H2 ∨ ∃ a o u, H2 a = some (.frz o u) ∧ (∀ o' u', H a ≠ some (.frz o' u')) ∧ H3 = upd H2 a u
theorem pe_melt {X : Cx} {e : Expr} {t : TE} (h : PE X e t) : PE X e (fun σ H Q => t σ H fun v H2 => ∃ H3, Melt H H2 H3 ∧ Q v H3) := by
  intro pins s σ H Q I q
  refine thn (h pins s σ H _ I q) fun v s1 ⟨x, H2, I2, r, H3, m, q⟩ => ?_
  rcases m with m | ⟨a, o, u, m1, m2, m3⟩
  · subst m
    exact ⟨x, H3, I2, r, q⟩
  · subst m3
    exact ⟨x, _, I2.melt m1 fun o' u' z => m2 o' u' (I.base.frzs a o' u' z), r, q⟩
end L2
set_option Elab.async false
set_option linter.all false
set_option maxRecDepth 100000
set_option maxHeartbeats 1000000
namespace Mir
open PySem L2
variable {X : Cx} {P : XP} {a b c e : Expr} {es : List Expr} {f g : FE} {fs : FEs} {pos p : Pos}
def itD (ks : List (List Int)) (ns : List Int) : List D := (ks.zip ns).map mkP
def cmpI (f : FE) (k : Nat) (tg : Tg) (fb : FB) : FE := fun ρ => do
  let x ← f ρ
  match x.d with
  | .dct ks ds => do
    let ns ← intsR ds
    let y ← cmpL tg fb false (List.replicate k none) (itD ks ns)
    if ks.length ≤ sizeLine ∧ y.1 = true then .ok ⟨.tmp, true, .lst y.2⟩ else .stk
  | _ => .stk
theorem den_new {K : PySem.W.Frag} {H : Hp} {σ : St} : DenE K H H (fun _ => False) σ (σ.map fun _ => none) :=
  ⟨by simp, Same.refl _, fun _ h => h.elim, fun i e h => by
    rw [List.getElem?_map] at h
    cases q : σ[i]? <;> rw [q] at h <;> simp at h⟩
theorem walk_items {K : PySem.W.Frag} {Hf : Hp} {a : Addr} {o : Obj} {kvs : List (List Key × V)} {bs : List Addr} {ks : List (List Int)} {ns : List Int} (h : Hf a = some (.frz o (.dT kvs))) (hb : KyA Hf bs kvs) (hk : keysAre ks kvs) (hn : kvs.map (·.2) = ns.map V.int) :
    Walk K Hf Hf (fun _ => False) (ItD a o kvs bs) ⟨true, false, itD ks ns⟩ := by
  refine ⟨fun c => c = a, fun _ c _ z => z, fun H2 B2 j1 j2 j3 j4 j5 i => ?_⟩
  have h2 := j1 a _ rfl h
  have l1 : kvs.length = ks.length := by have := congrArg List.length hk; simpa using this
  have l2 : kvs.length = ns.length := by have := congrArg List.length hn; simpa using this
  have ll : (itD ks ns).length = kvs.length := by simp [itD]; omega
  refine ⟨fun hi => ⟨h2, by show kvs.length ≤ i; have : (itD ks ns).length ≤ i := hi; omega⟩, fun d hd => ?_⟩
  have hlt : i < kvs.length := by rw [← ll]; exact (List.getElem?_eq_some_iff.mp hd).1
  refine ⟨⟨h2, hlt⟩, fun x H3 y => ?_⟩
  obtain ⟨t, b, p, e1, e2, e3, e4, e5⟩ := y
  subst e1 e5
  have hk1 : ks[i]? = some ks[i] := List.getElem?_eq_getElem (by omega)
  have hn1 : ns[i]? = some ns[i] := List.getElem?_eq_getElem (by omega)
  have pk : p.1 = ks[i].map Sum.inl := by
    have : (kvs.map (·.1))[i]? = (ks.map (·.map Sum.inl))[i]? := by rw [show kvs.map (·.1) = _ from hk]
    rw [List.getElem?_map, List.getElem?_map, e3, hk1] at this
    simpa using this
  have pn : p.2 = .int ns[i] := by
    have : (kvs.map (·.2))[i]? = (ns.map V.int)[i]? := by rw [hn]
    rw [List.getElem?_map, List.getElem?_map, e3, hn1] at this
    simpa using this
  have ed : d = mkP (ks[i], ns[i]) := by
    have : (itD ks ns)[i]? = some (mkP (ks[i], ns[i])) := by
      unfold itD
      rw [List.getElem?_map, show (ks.zip ns)[i]? = some (ks[i], ns[i]) from List.getElem?_zip_eq_some.mpr ⟨hk1, hn1⟩]; rfl
    have hd' : (itD ks ns)[i]? = some d := hd
    rw [hd'] at this
    exact Option.some.inj this
  subst ed
  have fb : Hf b = some (.tup (ks[i].map V.int)) := by rw [hb.2 i b p e4 e3, pk, kV_ints]
  have hb2 : H2 b = some (.tup (ks[i].map V.int)) := j2 b _ fb fun z => z
  have nbt : b ≠ t := ne_of_none hb2 e2
  refine ⟨Same.upd_new e2, t, [.ref b, p.2], rfl, cut_some.mpr ⟨fun z => ?_, upd_same⟩, .ref b, [p.2], rfl, ⟨b, _, rfl, cut_some.mpr ⟨fun z => ?_, by rw [upd_ne nbt]; exact hb2⟩, Reps.map_ints _⟩, p.2, [], rfl, pn, rfl⟩
  · rcases z with z | ⟨z, _⟩
    · obtain ⟨o', q⟩ := j4 t z; rw [e2] at q; cases q
    · cases z
  · rcases z with z | ⟨z, _⟩
    · rcases j3 b z with q | q
      · exact q
      · rw [fb] at q; cases q
    · cases z
theorem back {K : PySem.W.Frag} {H0 H1 Hf H2 H3 : Hp} {B : Addr → Prop} {p : Addr} {ds : List D} {vs : List V} (sam : Same H0 H1) (bnd : ∀ b, B b → ∃ o, H1 b = some o ∧ stab o = false)
    (up : ∀ b o, H1 b = some o → stab o = false → ∃ o', Hf b = some o' ∧ stab o' = false) (dn : ∀ b o, H2 b = some o → (∀ o', Hf b = some o' → stab o' = true) → H3 b = some o)
    (r : Reps K (cutF true Hf H2 fun b => False ∨ b = p) ds vs) : Reps K (cutF true H0 H3 fun b => B b ∨ b = p) ds vs := by
  refine Reps.same (fun b o e => ?_) r
  obtain ⟨n, e⟩ := cut_some.mp e
  have st : ∀ o', Hf b = some o' → stab o' = true := fun o' q => by
    cases z : stab o' with
    | true => rfl
    | false => exact (n (.inr ⟨rfl, o', q, z⟩)).elim
  refine cut_some.mpr ⟨fun z => ?_, dn b o e st⟩
  rcases z with (z | z) | ⟨_, o', q, z⟩
  · obtain ⟨o', q1, q2⟩ := bnd b z
    obtain ⟨o2, q3, q4⟩ := up b o' q1 q2
    rw [st o2 q3] at q4; cases q4
  · exact n (.inl (.inr z))
  · obtain ⟨o2, q3, q4⟩ := up b o' (sam _ _ q) z
    rw [st o2 q3] at q4; cases q4
variable {scope : Scope} {N : List Str} {k : Nat} {tg elt : Expr} {ifs : List Expr} {t : Tg} {fb : FB}
theorem m_compI {ts : List Expr} {kk : Nat} {tp ap cp : Pos} (hc : X.calm = true) (C : CompOk X scope N k []) (ha : PE X a (tE X.K P f)) (hg : ∀ fp s H, PG (cxComp X scope N fp s H) (.Tuple ts kk tp) (gOf X.K t)) (gl : GLow k (gOf X.K t)) (hb : ∀ fp s H, PB (cxComp X scope N fp s H) ifs elt (tBm X.K XP0 fb))
    (hbase : attributeBase a "items" X.env (eval a X.env) = eval a X.env := by rfl) (hline : (ap.endLine == cp.line) = true := by rfl)
    (hs : ∀ x, foldedSetIterable (.Call (.Attribute a "items" ap) [] [] cp) X.env x = pure x := by intro _; rfl) : PE X (.ListComp elt [⟨.Tuple ts kk tp, .Call (.Attribute a "items" ap) [] [] cp, ifs, 0⟩] scope pos) (tE X.K P (cmpI f k t fb)) := by
  refine PE.imp (pe_melt (pe_comp hc C (pi_items ha hbase hline) hg gl hb hs)) ?_
  rintro σ H Q ⟨H0, B, ρ, d, h⟩
  unfold cmpI at h
  show tE X.K P f σ H fun x H1 => ∃ a kvs, x = .ref a ∧ _
  cases e1 : f ρ with
  | stk => simp [e1] at h
  | exc x => simp [e1] at h; exact tE_exc d e1 h
  | ok r =>
    simp only [e1, R.ok_bind] at h
    refine tE_of d e1 fun v H1 s1 d1 g1 => ?_
    cases hd : r.d with
    | dct ks ds =>
      simp only [hd] at h
      cases e2 : intsR ds with
      | stk => simp [e2] at h
      | exc x => exact (intsR_exc e2).elim
      | ok ns =>
        simp only [e2, R.ok_bind] at h
        cases e3 : cmpL t fb false (List.replicate k none) (itD ks ns) with
        | stk => simp [e3] at h
        | exc x => exact (cmpL_exc e3).elim
        | ok y =>
          simp only [e3, R.ok_bind] at h
          by_cases hz : ks.length ≤ sizeLine ∧ y.1 = true
          · rw [if_pos hz] at h
            obtain ⟨a', kvs, h1, h2, h3, h4⟩ := g1.dict hd
            have hn := Reps.ints e2 h4
            have ll : (itD ks ns).length ≤ sizeLine := by simp [itD]; omega
            refine ⟨a', kvs, h1, ?_⟩
            have core : ∀ (Hf : Hp) (o : Obj) (bs : List Addr), Hf a' = some (.frz o (.dT kvs)) → KyA Hf bs kvs → ∀ {Qf : Hp → Prop} acc, Hf acc = none → (∀ H2, Same Hf H2 → GoodR X.K Hf Hf H2 (fun _ => False) (.ref acc) ⟨.tmp, true, .lst y.2⟩ → Qf H2) → CompRd (ItD a' o kvs bs) k [] (gOf X.K t) (tBm X.K XP0 fb) σ acc Qf Hf := fun Hf o bs q1 q2 Qf acc q3 q4 => by
              refine cmp_core (w := ⟨true, false, itD ks ns⟩) den_new (Same.refl _) (walk_items q1 q2 h3 hn) (y := y) (by rw [show cmpEnv k [] (σ.map fun _ => none) = List.replicate k none by simp [cmpEnv]]; exact e3) ll q3 fun H2 s2 g2 => q4 H2 s2 ?_
              rw [hz.2] at g2; exact g2
            rcases h2 with h2 | ⟨o, h2⟩
            · refine .inl ⟨h2, fun o bs kb acc hacc => ?_⟩
              have nz : ∀ {b : Addr} {u : HO}, H1 b = some u → b ≠ a' → upd H1 a' (.frz o (.dT kvs)) b = some u := fun e n => by rw [upd_ne n]; exact e
              have kb' : KyA (upd H1 a' (.frz o (.dT kvs))) bs kvs := ⟨kb.1, fun i b p q1 q2 => nz (kb.2 i b p q1 q2) fun z => by have := kb.2 i b p q1 q2; rw [z, h2] at this; cases this⟩
              refine core _ o bs upd_same kb' acc hacc fun H2 s2 g2 => ?_
              have ha2 : H2 a' = some (.frz o (.dT kvs)) := s2 _ _ upd_same
              have na : acc ≠ a' := fun z => by rw [z, upd_same] at hacc; cases hacc
              refine ⟨upd H2 a' (.dT kvs), .inr ⟨a', o, _, ha2, fun o' u' z => ?_, rfl⟩, ?_⟩
              · rw [s1 _ _ z] at h2; cases h2
              · have sm : Same H1 (upd H2 a' (.dT kvs)) := fun b u e => by
                  by_cases z : b = a'
                  · rw [z, h2] at e; cases e; rw [z]; exact upd_same
                  · rw [upd_ne z]; exact s2 _ _ (nz e z)
                obtain ⟨q, w, z1, z2, z3, z4⟩ := g2
                cases z1
                obtain ⟨vs, z5, z6⟩ := z4
                subst z5
                have hacc1 : H1 acc = none := by rw [upd_ne na] at hacc; exact hacc
                refine h _ _ (s1.trans sm) ⟨acc, _, rfl, s1.none hacc1, by rw [upd_ne na]; exact z3, vs, rfl, back d1.sam d1.bnd (fun b u q1 q2 => ?_) (fun b u q1 q2 => ?_) z6⟩
                · by_cases z : b = a'
                  · subst z; exact ⟨_, upd_same, rfl⟩
                  · exact ⟨u, nz q1 z, q2⟩
                · by_cases z : b = a'
                  · subst z; have := q2 _ upd_same; cases this
                  · rw [upd_ne z]; exact q1
            · refine .inr ⟨o, h2, fun bs kb acc hacc => ?_⟩
              refine core _ o bs h2 kb acc hacc fun H2 s2 g2 => ⟨H2, .inl rfl, ?_⟩
              obtain ⟨q, w, z1, z2, z3, z4⟩ := g2
              cases z1
              obtain ⟨vs, z5, z6⟩ := z4
              subst z5
              exact h _ _ (s1.trans s2) ⟨acc, _, rfl, s1.none hacc, z3, vs, rfl, back d1.sam d1.bnd (fun b u q1 q2 => ⟨u, q1, q2⟩) (fun b u q1 q2 => q1) z6⟩
          · rw [if_neg hz] at h; exact h.elim
    | _ => simp [hd] at h
end Mir
set_option Elab.async false
set_option linter.all false
set_option maxRecDepth 100000
set_option maxHeartbeats 1000000
namespace En
open PySem Zp PyProof.Rows
abbrev trc (t : Addr) (i : Nat) : Obj := { cls := .type "tuple_iterator", data := .fields #[.ref t, .int i 0] }
section
variable {prog : Program} {w : World} {A : Around} {E : Value → Shared → Prop} {s : Shared} {it t e : Addr} {i : Nat} {items : Array Value}
theorem nx_t {x : Value} {Q : Value → Shared → Prop} (ho : s.heap.get? it = some (trc t i)) (ht : IsTup s.heap t items) (hx : items[i]? = some x)
    (q : ∀ h', h'.get? it = some (trc t (i + 1)) → Heap.SameBut it s.heap h' → Q x { s with heap := h' }) : wpAny (model prog w) A (Builtin.SmallTypes.nextOf (.ref it)) Q E s := by
  have ty : s.TypeIs (.ref it) "tuple_iterator" := ⟨_, ho, rfl⟩
  obtain ⟨o, h1, h2, n, h3⟩ := ht
  have hx' : items[(i : Int).toNat]? = some x := by rw [Int.toNat_natCast]; exact hx
  refine wpAny_bind (wpAny_callSpecial?_slot (name := Str.ofString "__next__") ty slot_tupleiter_next (wpAny_call_entry slot_tupleiter_next ty entry_tupleiter_next ?_ (args_tupleiter_next _)))
  repeat (first | assumption | (rw [hx']) | (rw [h3]) | (with_reducible refine wpAny_field ho rfl rfl ?_) | (with_reducible refine wpAny_seqItems h1 h3 ?_) | (with_reducible refine wpAny_setField_rec ho (by simp) fun h' e1 e2 => ?_) | wp_step)
  exact ⟨_, rfl, wpAny_pure (q h' (e1.trans rfl) e2)⟩
theorem nx_o {Q : Value → Shared → Prop} (hh : A.handled = none) (ho : s.heap.get? it = some (trc t i)) (ht : IsTup s.heap t items) (hx : items[i]? = none)
    (q : ∀ h' e, Heap.ExtBut it s.heap h' → (∃ o, h'.get? e = some o ∧ o.cls = .type "StopIteration") → E (.ref e) { s with heap := h' }) : wpAny (model prog w) A (Builtin.SmallTypes.nextOf (.ref it)) Q E s := by
  have ty : s.TypeIs (.ref it) "tuple_iterator" := ⟨_, ho, rfl⟩
  obtain ⟨o, h1, h2, n, h3⟩ := ht
  have hx' : items[(i : Int).toNat]? = none := by rw [Int.toNat_natCast]; exact hx
  refine wpAny_bind (wpAny_callSpecial?_slot (name := Str.ofString "__next__") ty slot_tupleiter_next (wpAny_call_entry slot_tupleiter_next ty entry_tupleiter_next ?_ (args_tupleiter_next _)))
  repeat (first | assumption | (rw [hx']) | (rw [h3]) | (with_reducible refine wpAny_field ho rfl rfl ?_) | (with_reducible refine wpAny_seqItems h1 h3 ?_) | (with_reducible refine wpAny_setField_rec ho (by simp) fun h' e1 e2 => ?_) | wp_step)
  unfold raiseNew
  refine wpAny_bind (wpAny_handled ?_); rw [show A.in1.handled = none from hh]
  refine wpAny_bind (wpAny_pure (wpAny_throw (q _ _ ((e2.extBut.push _).push _) ⟨_, Heap.get?_push_size _ rfl, rfl⟩)))
abbrev erc (it : Addr) (i : Int) (old : Value) : Obj := { cls := .type "enumerate", data := .fields #[.none, .bool false, .ref it, rawInt i, .none, old] }
theorem draw {x old : Value} {Q : Fin → Shared → Prop} (he : s.heap.get? e = some (erc it i old)) (ho : s.heap.get? it = some (trc t i)) (ht : IsTup s.heap t items) (hx : items[i]? = some x) (ne : e ≠ it)
    (q : ∀ h', IsEnumOut h' e it ((i : Int) + 1) x s.heap.objs.size → h'.get? it = some (trc t (i + 1)) → h'.get? s.heap.objs.size = some { cls := .type "tuple", data := .seq #[.int i s.toks, x] } → (∀ b o, b ≠ e → b ≠ it → s.heap.get? b = some o → h'.get? b = some o) →
      Q (.done (.ret (.ref s.heap.objs.size))) { s with heap := h', toks := s.toks + 1 }) : wpAny (model prog w) A (Builtin.«enumerate.__next__» ⟨[.ref e], []⟩) Q E s := by
  repeat (first | assumption | (with_reducible refine wpAny_field he rfl rfl ?_) | (refine nx_t ho ht hx ?_) | wp_step)
  intro h1 e1 u1
  have he1 : h1.get? e = some (erc it i old) := u1.extBut e _ ne he
  repeat (first | assumption | (with_reducible refine wpAny_field he1 rfl rfl ?_) | (with_reducible refine wpAny_setField_rec he1 (by simp) fun h2 e2 u2 => ?_) | (with_reducible refine wpAny_setField_rec e2 (by simp) fun h3 e3 u3 => ?_) | wp_step)
  have z : h3.objs.size = s.heap.objs.size := u3.1.trans (u2.1.trans u1.1)
  have lt : e < s.heap.objs.size := Heap.lt_size he
  have li : it < s.heap.objs.size := Heap.lt_size ho
  have g0 : (h3.push { cls := .type "tuple", data := .seq #[.int i s.toks, x] }).get? e = some (erc it ((i : Int) + 1) old) := Heap.get?_push_of_some _ (e3.trans rfl)
  have p0 : (h3.push { cls := .type "tuple", data := .seq #[.int i s.toks, x] }).get? s.heap.objs.size = some { cls := .type "tuple", data := .seq #[.int i s.toks, x] } := z ▸ Heap.get?_push_size _ rfl
  have k0 : ∀ b o, b ≠ e → h1.get? b = some o → (h3.push { cls := .type "tuple", data := .seq #[.int i s.toks, x] }).get? b = some o := fun b o nb q => Heap.get?_push_of_some _ (u3.extBut b o nb (u2.extBut b o nb q))
  rw [z]
  generalize h3.push { cls := .type "tuple", data := .seq #[.int i s.toks, x] } = g at g0 p0 k0
  have a1 := Heap.get?_update_self (Obj.mapFields fun x_1 => x_1.setIfInBounds 5 x) g0 rfl
  have a2 := Heap.get?_update_self (Obj.mapFields fun x => x.setIfInBounds 0 (rawInt (s.heap.objs.size : Nat))) a1 rfl
  have a3 := Heap.get?_update_self (Obj.mapFields fun x => x.setIfInBounds 1 (Value.bool false)) a2 rfl
  have up : ∀ b o, b ≠ e → g.get? b = some o → (((g.update e (Obj.mapFields fun x_1 => x_1.setIfInBounds 5 x)).update e (Obj.mapFields fun x => x.setIfInBounds 0 (rawInt (s.heap.objs.size : Nat)))).update e (Obj.mapFields fun x => x.setIfInBounds 1 (Value.bool false))).get? b = some o := fun b o nb q =>
    (Heap.get?_update_other _ _ nb.symm).trans ((Heap.get?_update_other _ _ nb.symm).trans ((Heap.get?_update_other _ _ nb.symm).trans q))
  exact q _ (a3.trans rfl) (up _ _ ne.symm (k0 _ _ ne.symm e1)) (up _ _ (Nat.ne_of_gt lt) p0) fun b o n1 n2 qq => up b o n1 (k0 b o n1 (u1.extBut b o n2 qq))
theorem dry {old : Value} {Q : Fin → Shared → Prop} (hh : A.handled = none) (he : s.heap.get? e = some (erc it i old)) (ho : s.heap.get? it = some (trc t i)) (ht : IsTup s.heap t items) (hx : items[i]? = none)
    (q : ∀ h' a u, h'.get? a = some u → u.cls = .type "StopIteration" → Heap.ExtBut it s.heap h' → E (.ref a) { s with heap := h' }) : wpAny (model prog w) A (Builtin.«enumerate.__next__» ⟨[.ref e], []⟩) Q E s := by
  repeat (first | assumption | (with_reducible refine wpAny_field he rfl rfl ?_) | (refine nx_o hh ho ht hx ?_) | wp_step)
  rintro h' a k ⟨u, z1, z2⟩
  exact q h' a u z1 z2 k
theorem nxt {o : Obj} {Q : Option Value → Shared → Prop} (ho : s.heap.get? e = some o) (hc : o.cls = .type "enumerate")
    (h : wpAny (model prog w) A.in1 (Builtin.«enumerate.__next__» ⟨[.ref e], []⟩) (fun r s' => ∃ v, r = .done (.ret v) ∧ Q (some v) s') (fun x s' => ∃ a u, x = .ref a ∧ s'.heap.get? a = some u ∧ u.cls = .type "StopIteration" ∧ Q none s') s) : wpAny (model prog w) A (pyNext (.ref e)) Q E s := by
  have ty : s.TypeIs (.ref e) "enumerate" := ⟨o, ho, hc⟩
  refine wpAny_bind (wpAny_attempt (wpAny_mono (Q := fun r s' => ∃ v, r = some v ∧ Q (some v) s') (wpAny_callSpecial?_slot ty F.slot_enumerate_next (wpAny_call_entry F.slot_enumerate_next ty F.entry_enumerate_next (wpAny_mono h ?_ fun _ _ e => e) (F.args_enumerate_next_1 _))) ?_ ?_))
  · rintro _ s' ⟨v, rfl, q⟩
    exact ⟨v, rfl, v, rfl, q⟩
  · rintro _ s' ⟨v, rfl, q⟩
    exact wpAny_pure q
  · rintro _ s' ⟨a, u, rfl, e1, e2, q⟩
    exact wpAny_bind (wpAny_isInstance (T := "StopIteration") (b := true) ⟨u, e1, e2⟩ isSubtype_stop (wpAny_pure q))
end
end En
set_option Elab.async false
set_option linter.all false
set_option maxRecDepth 100000
set_option maxHeartbeats 1000000
namespace En
open PySem Zp PyProof.Rows
theorem meets_new (t : Addr) (items : Array Value) (n : Nat) (dc : Option Addr) (sl : Array (Option Value)) :
    Meets (Builtin.«enumerate.__new__» ⟨[.type "enumerate", .ref t], []⟩) (fun _ R s => s.heap.get? t = some { cls := .type "tuple", dict := dc, data := .seq items n, slots := sl } ∧
      R (.ok (.ret (.ref (s.heap.push (trc t 0)).objs.size))) { s with heap := (s.heap.push (trc t 0)).push (erc s.heap.objs.size 0 .none) }) :=
  .of_wp fun prog w A R s h => by
    obtain ⟨hp, gs, dr, tk, os⟩ := s
    obtain ⟨hl, h⟩ := h
    have hT : IsTup (Shared.heap ⟨hp, gs, dr, tk, os⟩) t items := ⟨_, hl, rfl, n, rfl⟩
    have hsub := sub_enumerate
    wp_walk using AutoSeq1.wpAny_loadPart' hl
    refine wpAny_stack_any fun stk => wpAny_pure ?_
    split
    · rename_i c _ _ _ _ _
      rcases (c == Value.type "enumerate") with _ | _
      all_goals wp_walk using AutoSeq1.wpAny_loadPart' hl, iter_tuple hT
      all_goals exact ⟨_, rfl, h⟩
    · wp_walk using AutoSeq1.wpAny_loadPart' hl, iter_tuple hT
      exact ⟨_, rfl, h⟩
section
variable {prog : Program} {w : World} {A : Around} {E : Value → Shared → Prop} {s : Shared} {t : Addr} {items : Array Value}
theorem make {Q : Value → Shared → Prop} (ht : IsTup s.heap t items)
    (h : ∀ h', h'.get? (s.heap.objs.size + 1) = some (erc s.heap.objs.size 0 .none) → h'.get? s.heap.objs.size = some (trc t 0) → (∀ b o, s.heap.get? b = some o → h'.get? b = some o) → Q (.ref (s.heap.objs.size + 1)) { s with heap := h' }) :
    wpAny (model prog w) A (call (.type "enumerate") [.ref t]) Q E s := by
  obtain ⟨⟨c, dc, dt, sl⟩, hl, hc, n, hd⟩ := ht
  cases (show c = .type "tuple" from hc)
  cases (show dt = .seq items n from hd)
  have z : (s.heap.push (trc t 0)).objs.size = s.heap.objs.size + 1 := Heap.size_push ..
  have e1 : ((s.heap.push (trc t 0)).push (erc s.heap.objs.size 0 .none)).get? (s.heap.objs.size + 1) = some (erc s.heap.objs.size 0 .none) := z ▸ Heap.get?_push_size _ rfl
  refine callType_new F.called_enumerate (by decide) (F.typeCall_enumerate_1 _) (F.newCall_enumerate_1 _) (fun obj => F.args_object_init_2 obj _) F.entry_enumerate_new (meets_new t items n dc sl) ⟨hl, ?_⟩
  rw [z]
  exact ⟨⟨_, e1, rfl⟩, h _ e1 (Heap.get?_push_of_some _ (Heap.get?_push_size _ rfl)) fun b o q => Heap.get?_push_of_some _ (Heap.get?_push_of_some _ q)⟩
end
end En
set_option Elab.async false
set_option linter.all false
set_option maxRecDepth 100000
set_option maxHeartbeats 1000000
namespace L2
open PySem PySem.Spec PyProof.Rows
def Itu (a : Addr) : It :=
  ⟨fun i H => ∃ xs x, H a = some (.tup xs) ∧ xs[i]? = some x, fun i H v H' => ∃ t x xs, v = .ref t ∧ H t = none ∧ H' = upd H t (.tup [.int i, x]) ∧ H a = some (.tup xs) ∧ xs[i]? = some x, fun i H => ∃ xs, H a = some (.tup xs) ∧ xs.length ≤ i⟩
def UTn (e it a : Addr) (i : Nat) (h : Heap) : Prop := (∃ old, h.get? e = some (En.erc it i old)) ∧ h.get? it = some (En.trc a i)
theorem turn_enT {P : Program} {w : World} {K : PySem.W.Frag} {es : List Expr} {k : Nat} {pos : Pos} {e it a : Addr} (n1 : e ≠ it) : Turn P w K (.Tuple es k pos) (Itu a) [e, it] e (UTn e it a) where
  mem := by simp
  obj := fun i h ⟨⟨old, he⟩, q⟩ c hc => by
    simp only [List.mem_cons, List.not_mem_nil, or_false] at hc
    rcases hc with z | z <;> rw [z]
    · exact ⟨_, he, fun v z => nomatch z⟩
    · exact ⟨_, q, fun v z => nomatch z⟩
  keep := fun i h h' st kp => ⟨st.1.imp fun old he => kp _ (by simp) _ he, kp _ (by simp) _ st.2⟩
  item := by
    intro X hP hw hK hc i pins s σ H E I hf st hg
    subst hP hw hK
    obtain ⟨xs, x, ha, hx⟩ := hg
    obtain ⟨us, ru, pu⟩ := tup_at I ha
    obtain ⟨u, eu, rxu⟩ := ru.get hx
    obtain ⟨⟨old, he⟩, hit⟩ := st
    have ee : e < s.heap.objs.size := Heap.lt_size he
    have ei : it < s.heap.objs.size := Heap.lt_size hit
    refine En.nxt he rfl (En.draw he hit pu (x := u) (by simpa using eu) n1 fun h' b1 b2 b3 b5 => ⟨_, rfl, _, rfl, ?_⟩)
    refine wpAny_letOwnedTupleGo_enum b1 fun hp2 c1 cs => ?_
    have kp : ∀ c o, c ∉ [e, it] → s.heap.get? c = some o → hp2.get? c = some o := fun c o hc' q => by
      simp only [List.mem_cons, List.not_mem_nil, or_false, not_or] at hc'
      exact cs.extBut c o hc'.1 (b5 c o hc'.1 hc'.2 q)
    have st' : UTn e it a (i + 1) hp2 := ⟨⟨u, by push_cast; exact c1⟩, cs.extBut _ _ n1.symm b2⟩
    have pr := cs.extBut _ _ (Nat.ne_of_gt ee) b3
    refine ⟨.ref s.heap.objs.size, upd H s.heap.objs.size (.tup [.int i, x]), I.turnedNew (t' := s.toks + 1) kp hf (fun c hc' => ?_) (Nat.le_refl _) ⟨by show 2 ≤ sizeLine; decide, [.int i s.toks, u], .cons ⟨_, rfl⟩ (.cons rxu .nil), ⟨_, pr, rfl, _, rfl⟩⟩, rfl,
      ⟨_, x, xs, rfl, I.fresh, rfl, ha, hx⟩, st', fun c hc' => ?_⟩
    · obtain ⟨⟨_, d1⟩, d2⟩ := st'
      simp only [List.mem_cons, List.not_mem_nil, or_false] at hc'
      rcases hc' with z | z <;> rw [z]
      · exact ⟨_, d1⟩
      · exact ⟨_, d2⟩
    · have lt : c < s.heap.objs.size := by
        simp only [List.mem_cons, List.not_mem_nil, or_false] at hc'
        rcases hc' with z | z <;> rw [z] <;> assumption
      rw [upd_ne (Nat.ne_of_lt lt)]
      exact (hf c hc').1
  done := by
    intro X hP hw hK hc i pins s σ H E I hf st hg
    subst hP hw hK
    obtain ⟨xs, ha, hend⟩ := hg
    obtain ⟨us, ru, pu⟩ := tup_at I ha
    have lu := ru.length
    obtain ⟨⟨old, he⟩, hit⟩ := st
    refine En.nxt he rfl (En.dry (show X.A.in1.handled = none from I.ok.hd hc) he hit pu (Array.getElem?_eq_none (by rw [List.size_toArray]; omega)) fun h' x u e1 e2 kp => ⟨x, u, rfl, e1, e2, rfl, I.turnedL (t' := s.toks) (fun c o hc' q => ?_) hf⟩)
    simp only [List.mem_cons, List.not_mem_nil, or_false, not_or] at hc'
    exact kp c o hc'.2 q
  self := fun _ _ _ _ _ st h => let ⟨⟨_, he⟩, _⟩ := st; wpAny_pyIter_enum he h
def iEnuT (ta : TA) : TI := fun σ H R => ta σ H fun vs H1 => ∃ a, vs = [.ref a] ∧ (∃ xs, H1 a = some (.tup xs)) ∧ R (Itu a) H1
theorem pi_enuT {X : Cx} {es : List Expr} {k : Nat} {tp : Pos} {a : Expr} {t : TA} {p pos : Pos} (hg : Gl X "enumerate") (hm : X.mg "enumerate" = none) (ha : PA X [a] t) (hs : starEach [a] X.env = [(false, eval a X.env)] := by rfl) :
    PI X (.Tuple es k tp) (.Call (.Name "enumerate" p) [a] [] pos) (iEnuT t) := by
  intro pins s σ H R I h
  refine Call_ (ld_blt I hg hm (show bootBuiltins "enumerate" = some (.type "enumerate") by decide +kernel) (PyProof.Rows.callWith_type1 (thn (ha pos pins s σ H _ I h) fun us s1 ⟨vs, H1, I1, r1, x, e, ⟨xs, hx⟩, q⟩ => ?_) (by rw [hs]; rfl) rfl))
  subst e
  obtain ⟨u, rfl, rx⟩ := vals1 r1
  cases rx
  obtain ⟨us', ru, pu⟩ := tup_at I1 hx
  refine En.make pu fun h1 he hit hk => wpAny_pyIter_enum he ?_
  have big : ∀ c ∈ [s1.heap.objs.size + 1, s1.heap.objs.size], s1.heap.objs.size ≤ c := fun c hc' => by
    simp only [List.mem_cons, List.not_mem_nil, or_false] at hc'
    rcases hc' with z | z <;> rw [z]
    · exact Nat.le_add_right _ 1
    · exact Nat.le_refl _
  exact ⟨_, [s1.heap.objs.size + 1, s1.heap.objs.size], _, _, H1, rfl, I1.kept (t' := s1.toks) hk, turn_enT (Nat.succ_ne_self _), ⟨⟨_, he⟩, hit⟩, fun c hc' => I1.fpOk (big c hc') (I1.hok.fresh (big c hc')), q⟩
end L2
namespace Mir
open PySem L2
variable {X : Cx} {P : XP} {a b c e : Expr} {es : List Expr} {f g : FE} {fs : FEs} {pos p : Pos}
def enmT (a : FE) : FI := fun ρ => do
  let x ← a ρ
  match x.d with
  | .tup xs => .ok ⟨true, x.fr, enmD xs⟩
  | _ => .stk
theorem walk_enT {K : PySem.W.Frag} {H0 H' : Hp} {B : Addr → Prop} {σ : St} {ρ : Env} {a : Addr} {xs : List V} {ds : List D} {fr : Bool} (den : DenE K H0 H' B σ ρ) (h2 : H' a = some (.tup xs)) (h3 : Reps K (cutF fr H0 H' B) ds xs) : Walk K H0 H' B (Itu a) ⟨true, fr, enmD ds⟩ := by
  have nB : ¬ B a := fun z => by obtain ⟨o, q1, q2⟩ := den.bnd a z; rw [h2] at q1; cases q1; cases q2
  refine ⟨fun c => c = a, fun h c z => z ▸ nB, fun H2 B2 j1 j2 j3 j4 j5 i => ?_⟩
  have q1 : H2 a = some (.tup xs) := j1 a _ rfl h2
  have l1 := h3.length
  refine ⟨fun hi => ⟨xs, q1, ?_⟩, fun d hd => ?_⟩
  · simp [enmD] at hi; omega
  · cases e1 : ds[i]? with
    | none => simp [enmD, e1] at hd
    | some d1 =>
      have ed : d = .tup [.int i, d1] := by simp [enmD, e1] at hd; exact hd.symm
      subst ed
      obtain ⟨v, hv, rv⟩ := h3.get e1
      refine ⟨⟨xs, v, q1, hv⟩, fun x H3 y => ?_⟩
      obtain ⟨t, x1, ys, e3, e4, e5, y1, y2⟩ := y
      rw [q1] at y1; cases y1
      rw [hv] at y2; cases y2
      subst e3; subst e5
      refine ⟨Same.upd_new e4, t, [.int i, v], rfl, cut_some.mpr ⟨fun z => ?_, upd_same⟩, .int i, [v], rfl, rfl, v, [], rfl, ?_, rfl⟩
      · rcases z with z | ⟨_, o, z, _⟩
        · obtain ⟨o, q⟩ := j4 t z; rw [e4] at q; cases q
        · rw [j5 _ _ z] at e4; cases e4
      · exact Rep.same (cutF_mono (fun b o q n => Same.upd_new e4 b o (j2 b o q n)) j3) rv
theorem mi_enuT {ts : List Expr} {k : Nat} {tp : Pos} (hg : Gl X "enumerate") (hm : X.mg "enumerate" = none) (ha : PE X a (tE X.K P f)) (hs : starEach [a] X.env = [(false, eval a X.env)] := by rfl) :
    PI X (.Tuple ts k tp) (.Call (.Name "enumerate" p) [a] [] pos) (tI X.K P (enmT f)) := by
  refine PI.imp (pi_enuT hg hm (ma_cons ha ma_nil hs) hs) ?_
  intro σ H Rq h
  have e : enmT f = fun ρ => evs [f] ρ >>= fun rs => match rs with | [x] => (match x.d with | .tup xs => .ok ⟨true, x.fr, enmD xs⟩ | _ => .stk) | _ => .stk := by
    funext ρ
    unfold enmT evs
    cases f ρ <;> rfl
  rw [e] at h
  refine tA_I (q := fun vs H1 => ∃ a, vs = [.ref a] ∧ (∃ xs, H1 a = some (.tup xs)) ∧ Rq (Itu a) H1) h ?_
  intro H0 B ρ vs H' rs d0 d gs s h
  match vs, rs, gs with
  | [], rs, gs => rw [show rs = [] from gs] at h; exact h.elim
  | [v], _, ⟨r, rr, e1, g1, g2⟩ =>
    subst e1
    rw [show rr = [] from g2] at h
    cases hd : r.d with
    | tup ds =>
      simp only [hd] at h
      obtain ⟨a, xs, h1, h2, h3⟩ := g1.tuple hd
      exact ⟨a, by rw [h1], ⟨xs, h2⟩, h _ H' (Same.refl _) (walk_enT d h2 h3)⟩
    | _ => simp [hd] at h
  | v :: w :: _, _, ⟨r, rr, e1, g1, r2, rr2, e2, g2⟩ =>
    subst e1; subst e2
    exact h.elim
end Mir
set_option Elab.async false
set_option linter.all false
set_option maxRecDepth 100000
set_option maxHeartbeats 3200000
namespace Ls
open PySem PySem.Spec PyProof.Rows
theorem sub1 : isSubtype (.type "tuple") (.type "set") = pure false := by rw [isSubtype_type]; kernel_rfl
theorem sub2 : isSubtype (.type "tuple") (.type "frozenset") = pure false := by rw [isSubtype_type]; kernel_rfl
abbrev fresh (led : Bool) : Obj := { cls := .type "set", dict := none, data := .set #[] 0 (.fresh 0 0 led) }
section
variable {prog : Program} {w : World} {A : Around} {E : Value → Shared → Prop} {s : Shared} {S t : Addr} {items : Array Value} {ns : List Int}
abbrev met (ns : List Int) (n : Nat) : List Int := firstMet (fun i => ns.getD i 0) n
theorem init {led : Bool} {Q : Fin → Shared → Prop} (hh : A.handled = none) (hS : s.heap.get? S = some (fresh led)) (ht : IsTup s.heap t items) (hi : IntsAre items.toList ns) (hb : items.size + 1 < scanBound) (nt : t ≠ S)
    (q : ∀ h' tk, h'.SetOf (intKind prog w) S (fun k' => (met ns items.size).any (· == k')) (met ns items.size).length → (∀ b o, b ≠ S → s.heap.get? b = some o → h'.get? b = some o) → Q (.done (.ret .none)) { s with heap := h', toks := tk }) :
    wpAny (model prog w) A (Builtin.«set.__init__» ⟨[.ref S, .ref t], []⟩) Q E s := by
  have ty : s.TypeIs (.ref S) "set" := ⟨_, hS, rfl⟩
  have ht0 := ht
  obtain ⟨⟨c, dc, dt, sl⟩, h1, h2, n, h3⟩ := ht
  cases (show c = .type "tuple" from h2)
  cases (show dt = .seq items n from h3)
  have s1 := sub1
  have s2 := sub2
  have ne : (Value.type "tuple" == Value.type "dict") = false := by decide
  repeat (first | assumption | (with_reducible refine iter_tuple ht0 ?_) | (with_reducible refine wpAny_runValue ?_) | wp_step)
  have lt : t < s.heap.objs.size := Heap.lt_size h1
  have lS : S < s.heap.objs.size := Heap.lt_size hS
  have tup : (s.heap.push { cls := .type "tuple_iterator", data := .fields #[.ref t, .int 0 0] }).IsTuple t items := ⟨_, Heap.get?_push_of_some _ h1, rfl, n, rfl⟩
  have nf : S ∉ [s.heap.objs.size, t] := by simp only [List.mem_cons, List.not_mem_nil, or_false, not_or]; exact ⟨Nat.ne_of_lt lS, nt.symm⟩
  have val : ∀ (i : Nat) (v : Value), items[i]? = some v → ∃ k, v = .int (ns.getD i 0) k := fun i v e => IntsAre.int_at hi i v (by rw [Array.getElem?_toList]; exact e)
  have zero : (s.heap.push { cls := .type "tuple_iterator", data := .fields #[.ref t, .int 0 0] }).SetOf (intKind prog w) S (fun k' => (met ns 0).any (· == k')) (met ns 0).length :=
    SetOf_congr ((setObjOf_fresh (knd := intKind prog w) led).setOf (Heap.get?_push_of_some _ hS) (by unfold scanBound; omega)) (fun _ => rfl) rfl
  refine codeAny_set_update_loopS ((Walks.tuple (A := A.in1) hh s.heap.objs.size t (Nat.ne_of_lt lt) items).toS) S nf (fun i => ns.getD i 0) val hb items.size 0 _ rfl (Nat.zero_le _) ⟨⟨_, Heap.get?_push_size _ rfl, rfl, rfl⟩, tup⟩ zero fun s' hm hS' => ?_
  obtain ⟨h', g1, d1, tk', os1⟩ := s'
  cases (show g1 = s.gens from hm.gens); cases (show d1 = s.drawn from hm.drawn); cases (show os1 = s.os from hm.os)
  refine wpAny_pure (wpAny_pure (q h' tk' hS' fun b o nb e => hm.heap b o ?_ (Heap.get?_push_of_some _ e)))
  simp only [List.mem_cons, List.not_mem_nil, or_false, not_or]
  exact ⟨nb, Nat.ne_of_lt (Heap.lt_size e)⟩
theorem made {Q : Value → Shared → Prop} (hh : A.handled = none) (ht : IsTup s.heap t items) (hi : IntsAre items.toList ns) (hb : items.size + 1 < scanBound)
    (q : ∀ h' tk, h'.SetOf (intKind prog w) s.heap.objs.size (fun k' => (met ns items.size).any (· == k')) (met ns items.size).length → (∀ b o, s.heap.get? b = some o → h'.get? b = some o) → Q (.ref s.heap.objs.size) { s with heap := h', toks := tk }) :
    wpAny (model prog w) A (call (.type "set") [.ref t]) Q E s := by
  have lt : t < s.heap.objs.size := by obtain ⟨o, e, _⟩ := ht; exact Heap.lt_size e
  obtain ⟨c, tl, m1⟩ := F.called_set.mro
  have m2 := F.called_set.made
  have m3 := F.called_set.sub
  have m4 := F.called_set.notType
  have m5 := F.called_set.canCreate
  have m6 := F.typeCall_set_1 (.ref t)
  refine wpAny_call (codeAny_of_tree (wpAny_pure ⟨Code.quiet_builtin _ (by decide +kernel), codeAny_builtin F.entry_type_call (by
    rw [Around.under_plain (weight_type_call_type "set" [.ref t] []) rfl]
    repeat any_goals (first | assumption | wp_step)
    refine codeAny_mono (code_set_new_1 (.ref t) (E := E) (Q₁ := fun obj s1 => ∃ led : Bool, obj = .ref s.heap.objs.size ∧ s1 = { s with heap := s.heap.push (fresh led) }) fun led => ⟨led, rfl, rfl⟩) fun r s1 hr => ?_
    match r, hr with
    | .error e, hr => exact hr
    | .ok (.ret obj), ⟨led, e1, e2⟩ =>
      subst e1 e2
      have hS : (s.heap.push (fresh led)).get? s.heap.objs.size = some (fresh led) := Heap.get?_push_size _ rfl
      have ty : Shared.TypeIs { s with heap := s.heap.push (fresh led) } (.ref s.heap.objs.size) "set" := ⟨_, hS, rfl⟩
      have n1 := F.called_set.init.lookup
      have n2 := F.called_set.init.bind (.ref s.heap.objs.size)
      have ht' : IsTup (s.heap.push (fresh led)) t items := by obtain ⟨o, e, r⟩ := ht; exact ⟨o, Heap.get?_push_of_some _ e, r⟩
      repeat any_goals (first | assumption | wp_step)
      refine codeAny_mono (codeAny_call_builtin (R := wants (fun r s2 => r = .none ∧ ∃ h' tk, s2 = { s with heap := h', toks := tk } ∧ h'.SetOf (intKind prog w) s.heap.objs.size (fun k' => (met ns items.size).any (· == k')) (met ns items.size).length ∧ ∀ b o, s.heap.get? b = some o → h'.get? b = some o) E) F.called_set.init.plain F.entry_set_init (check_set_init_1 ty ?_)) ?_
      · exact init (led := led) (s := { s with heap := s.heap.push (fresh led) }) hh hS ht' hi hb (Nat.ne_of_lt lt) fun h' tk z1 z2 => ⟨rfl, h', tk, rfl, z1, fun b o e => z2 b o (Nat.ne_of_lt (Heap.lt_size e)) (Heap.get?_push_of_some _ e)⟩
      · intro r2 s2 hr2
        match r2, hr2 with
        | .error e, hr2 => exact hr2
        | .ok (.ret v), ⟨e1, h', tk, e2, z1, z2⟩ =>
          subst e1 e2
          repeat any_goals (first | assumption | wp_step)
          exact q h' tk z1 z2)⟩))
end
end Ls
set_option Elab.async false
set_option linter.all false
set_option maxRecDepth 100000
set_option maxHeartbeats 1000000
namespace L2
open PySem PySem.Spec PyProof.Rows
section
variable {X : Cx}
def nMet (ns : List Int) : Nat := (ns.foldl step_dedup []).length
theorem met_all (ns : List Int) : Ls.met ns ns.length = ns.foldl step_dedup [] := by
  show ((List.range ns.length).map fun i => ns.getD i 0).foldl step_dedup [] = _
  rw [Srt.range_get]
theorem call_setT (hc : X.calm = true) : CallR X (.type "set") (fun xs H Q => ∃ (a : Addr) (ns : List Int), xs = [.ref a] ∧ H a = some (.tup (ns.map V.int)) ∧ ns.length < 1000 ∧ ∀ l S, H l = none → Q (.ref l) (upd H l (.set S (nMet ns)))) := by
  intro pins s σ H xs us Q I r h
  obtain ⟨a, ns, rfl, hq, few, q⟩ := h
  obtain ⟨u, rfl, rx⟩ := vals1 r
  cases rx
  obtain ⟨its, rv, pl⟩ := tup_at I hq
  have hi := ints_vals rv
  have ln : its.toArray.size = ns.length := by rw [List.size_toArray, ← rv.length, List.length_map]
  refine Ls.made (ns := ns) (I.ok.hd hc) pl (by simpa using hi) (by rw [ln]; unfold scanBound; omega) fun h' tk z1 z2 => ?_
  rw [ln, met_all] at z1
  exact ⟨.ref s.heap.objs.size, _, I.laid (t' := tk) (o := .set _ (nMet ns)) z2 (Nat.le_refl _) z1, rfl, q _ _ I.fresh⟩
theorem call_lenS : CallR X (.builtin "len") (fun xs H Q => ∃ (a : Addr) (S : Int → Bool) (n : Nat), xs = [.ref a] ∧ H a = some (.set S n) ∧ n < 1000 ∧ Q (.int n) H) := by
  intro pins s σ H xs us Q I r h
  obtain ⟨a, S, n, rfl, hq, few, q⟩ := h
  obtain ⟨u, rfl, rx⟩ := vals1 r
  cases rx
  have z := I.hok a _ hq
  obtain ⟨o, es, ep, t, z1, z2, z3, _, _, _, z4, z5⟩ := (show s.heap.SetOf (intKind X.prog X.w) a S n from z)
  refine call_len_set z1 z2 z3 z4 (by rw [z5]; omega) ⟨.int n, H, I.tok _, ⟨_, by rw [z5]⟩, q⟩
theorem nMet_le (ns : List Int) : nMet ns ≤ ns.length := by
  have := firstMet_length_le (fun i => ns.getD i 0) ns.length
  rw [show firstMet (fun i => ns.getD i 0) ns.length = _ from met_all ns] at this
  exact this
end
end L2
namespace Mir
open PySem L2
variable {X : Cx} {P : XP} {a b c e : Expr} {es : List Expr} {f g : FE} {fs : FEs} {pos p pos2 p2 : Pos}
def lsetE (a : FE) : FE := fun ρ => do
  let x ← a ρ
  match x.d with
  | .tup ds => do
    let ns ← intsR ds
    if ns.length < 1000 then .ok (sc (.int (nMet ns))) else .stk
  | _ => .stk
theorem m_lset (hc : X.calm = true) (hg : Gl X "len") (hm : X.mg "len" = none) (hg2 : Gl X "set") (hm2 : X.mg "set" = none) (ha : PE X a (tE X.K P f)) (he : starEach [a] X.env = [(false, eval a X.env)] := by rfl)
    (he2 : starEach [.Call (.Name "set" p2) [a] [] pos2] X.env = [(false, eval (.Call (.Name "set" p2) [a] [] pos2) X.env)] := by rfl) : PE X (.Call (.Name "len" p) [.Call (.Name "set" p2) [a] [] pos2] [] pos) (tE X.K P (lsetE f)) := by
  refine PE.imp (pe_callB call_lenS hg hm PySem.boot_len (pa_cons (pe_callTy (call_setT hc) hg2 hm2 (by decide +kernel) (ma_cons ha ma_nil he) (he := he)) pa_nil he2) (he := he2)) ?_
  intro σ H Q h
  have main : tCB (fun vs H1 Q => ∃ (a : Addr) (ns : List Int), vs = [.ref a] ∧ H1 a = some (.tup (ns.map V.int)) ∧ ns.length < 1000 ∧ ∀ l S, H1 l = none → ∃ (a : Addr) (S' : Int → Bool) (n : Nat), [V.ref l] = [.ref a] ∧ upd H1 l (.set S (nMet ns)) a = some (.set S' n) ∧ n < 1000 ∧ Q (.int n) (upd H1 l (.set S (nMet ns)))) (tAs X.K P [f]) σ H Q := by
    refine call1 h ?_
    intro H0 B ρ v H' r d0 d g s h
    cases hd : r.d with
    | tup ds =>
      simp only [hd] at h
      cases e2 : intsR ds with
      | stk => simp [e2] at h
      | exc x => exact (intsR_exc e2).elim
      | ok ns =>
        simp only [e2, R.ok_bind] at h
        by_cases few : ns.length < 1000
        · rw [if_pos few] at h
          obtain ⟨a, xs, h1, h2, h3⟩ := g.tuple hd
          have hx := Reps.ints e2 h3
          subst hx
          refine ⟨a, ns, by rw [h1], h2, few, fun l S hl => ⟨l, S, nMet ns, rfl, upd_same, Nat.lt_of_le_of_lt (nMet_le ns) few, h _ _ (Same.upd_new hl) (GoodR.sc (show Rep _ _ (.int _) _ from rfl))⟩⟩
        · rw [if_neg few] at h; exact h.elim
    | _ => simp [hd] at h
  exact main
end Mir
set_option Elab.async false
set_option linter.all false
set_option maxRecDepth 100000
set_option maxHeartbeats 1000000
namespace L2
open PySem PySem.Spec PyProof.Rows
section
variable {X : Cx}
theorem call_rng : CallR X (.type "range") (fun xs H Q => ∃ j : Int, xs = [.int j] ∧ 0 ≤ j ∧ j ≤ 1000 ∧ ∀ l, H l = none → Q (.ref l) (upd H l (.rng 0 j))) := by
  intro pins s σ H xs us Q I r h
  obtain ⟨j, rfl, h1, h2, q⟩ := h
  obtain ⟨u, rfl, t, rfl⟩ := vals1 r
  refine call_range_1 ⟨.ref s.heap.objs.size, _, I.laid (o := .rng 0 j) (fun b o e => Heap.get?_push_of_some _ e) (Nat.le_refl _) ⟨_, _, _, Heap.get?_push_size _ rfl⟩, rfl, q _ I.fresh⟩
def rngV (n : Nat) : List V := (List.range n).map fun (i : Nat) => .int ((0 : Int) + (i : Int))
theorem vals_of : ∀ {xs : List V} {us : List Value}, xs.length = us.length → (∀ (i : Nat) (x : V) (u : Value), xs[i]? = some x → us[i]? = some u → RelV x u) → Vals xs us
  | [], [], _, _ => .nil
  | [], (_ :: _), h, _ => (by simp at h)
  | (_ :: _), [], h, _ => (by simp at h)
  | x :: xs, u :: us, h, f => .cons (f 0 x u rfl rfl) (vals_of (by simpa using h) fun i y v a b => f (i + 1) y v (by simpa using a) (by simpa using b))
theorem vals_items {n : Nat} {acc : Array Value} (h : ItemsOf (fun i v => ∃ t, v = .int (0 + i * 1) t) acc n) : Vals (rngV n) acc.toList := by
  refine vals_of (by simp [rngV, h.1]) fun i x u hx hu => ?_
  obtain ⟨t, e⟩ := h.2 i u (by rw [← Array.getElem?_toList]; exact hu)
  have hi : i < n := by have := (List.getElem?_eq_some_iff.mp hx).1; simpa [rngV] using this
  have ex : x = .int ((0 : Int) + (i : Int)) := by simp [rngV, hi] at hx; rw [← hx]; simp
  subst ex
  exact ⟨t, by rw [e, Int.mul_one]⟩
theorem call_lrng (hc : X.calm = true) : CallR X (.type "list") (fun xs H Q => ∃ (a : Addr) (j : Int), xs = [.ref a] ∧ H a = some (.rng 0 j) ∧ 0 ≤ j ∧ j ≤ 1000 ∧ ∀ l, H l = none → Q (.ref l) (upd H l (.lst (rngV j.toNat)))) := by
  intro pins s σ H xs us Q I r h
  obtain ⟨a, j, rfl, hq, h1, h2, q⟩ := h
  obtain ⟨u, rfl, rx⟩ := vals1 r
  cases rx
  obtain ⟨t, u, v, e⟩ := I.hok a _ hq
  refine call_list_range (n := j.toNat) (I.ok.hd hc) e (small_one (by omega) (by omega) (by omega) (by omega)) (by rw [rangeSize_one]; split <;> omega) (by omega) fun h' tk acc c k e1 it => ?_
  have rv := vals_items it
  refine ⟨.ref s.heap.objs.size, _, I.laid (t' := tk) (o := .lst (rngV j.toNat)) k (Nat.le_refl _) ⟨by simp [rngV, sizeLine_eq]; omega, acc.toList, c, rv, by simpa using e1⟩, rfl, q _ I.fresh⟩
end
end L2
namespace Mir
open PySem L2
variable {X : Cx} {P : XP} {a b c e : Expr} {es : List Expr} {f g : FE} {fs : FEs} {pos p pos2 p2 : Pos}
def lrngE (a : FE) : FE := fun ρ => do
  let x ← a ρ
  let j ← asI x.d
  if 0 ≤ j ∧ j ≤ 1000 then .ok ⟨.tmp, true, .lst (rngD 0 j.toNat)⟩ else .stk
theorem reps_rng {K : PySem.W.Frag} {G : Hp} (n : Nat) : Reps K G (rngD 0 n) (rngV n) := by
  refine Reps.of_get (by simp [rngD, rngV]) fun i d v h1 h2 => ?_
  have hi : i < n := by have := (List.getElem?_eq_some_iff.mp h1).1; simpa [rngD] using this
  have e1 : d = .int ((0 : Int) + (i : Int)) := by simp [rngD, hi] at h1; rw [← h1]; simp
  have e2 : v = .int ((0 : Int) + (i : Int)) := by simp [rngV, hi] at h2; rw [← h2]; simp
  subst e1 e2
  rfl
theorem m_lrng (hc : X.calm = true) (hg : Gl X "list") (hm : X.mg "list" = none) (hg2 : Gl X "range") (hm2 : X.mg "range" = none) (ha : PE X a (tE X.K P f)) (he : starEach [a] X.env = [(false, eval a X.env)] := by rfl)
    (he2 : starEach [.Call (.Name "range" p2) [a] [] pos2] X.env = [(false, eval (.Call (.Name "range" p2) [a] [] pos2) X.env)] := by rfl) : PE X (.Call (.Name "list" p) [.Call (.Name "range" p2) [a] [] pos2] [] pos) (tE X.K P (lrngE f)) := by
  refine PE.imp (pe_callTy (call_lrng hc) hg hm (by decide +kernel) (pa_cons (pe_callTy call_rng hg2 hm2 (by decide +kernel) (ma_cons ha ma_nil he) (he := he)) pa_nil he2) (he := he2)) ?_
  intro σ H Q h
  have main : tCB (fun vs H1 Q => ∃ j : Int, vs = [.int j] ∧ 0 ≤ j ∧ j ≤ 1000 ∧ ∀ l, H1 l = none → ∃ (a : Addr) (i : Int), [V.ref l] = [.ref a] ∧ upd H1 l (.rng 0 j) a = some (.rng 0 i) ∧ 0 ≤ i ∧ i ≤ 1000 ∧ ∀ l2, upd H1 l (.rng 0 j) l2 = none → Q (.ref l2) (upd (upd H1 l (.rng 0 j)) l2 (.lst (rngV i.toNat)))) (tAs X.K P [f]) σ H Q := by
    refine call1 h ?_
    intro H0 B ρ v H' r d0 d g s h
    cases e : asI r.d with
    | stk => simp [e] at h
    | exc x => exact (asI_exc e).elim
    | ok j =>
      simp only [e, R.ok_bind] at h
      by_cases hj : 0 ≤ j ∧ j ≤ 1000
      · rw [if_pos hj] at h
        refine ⟨j, by rw [g.int (asI_ok e)], hj.1, hj.2, fun l hl => ⟨l, j, rfl, upd_same, hj.1, hj.2, fun l2 hl2 => ?_⟩⟩
        exact h _ _ ((Same.upd_new hl).trans (Same.upd_new hl2)) (new_list (d.mono (Same.upd_new hl)) (s.trans (Same.upd_new hl)) hl2 (reps_rng _))
      · rw [if_neg hj] at h; exact h.elim
  exact main
end Mir
set_option Elab.async false
set_option linter.all false
set_option maxRecDepth 100000
set_option maxHeartbeats 1000000
namespace L2
open PySem PySem.Spec PyProof.Rows
section
variable {X : Cx}
def rCatU : R2 := fun x y H Q => ∃ a b xs ys, x = .ref a ∧ y = .ref b ∧ H a = some (.tup xs) ∧ H b = some (.tup ys) ∧ xs.length + ys.length ≤ sizeLine ∧
  (xs = [] → Q (.ref b) H) ∧ (xs ≠ [] → ys = [] → Q (.ref a) H) ∧ (xs ≠ [] → ys ≠ [] → ∀ p, H p = none → Q (.ref p) (upd H p (.tup (xs ++ ys))))
theorem op_catU : OpR X (binaryOp .Add) rCatU := by
  intro pins s σ H x y v u Q I rx ry h
  obtain ⟨a, b, xs, ys, rfl, rfl, ha, hb, hz, q0, q1, q2⟩ := h
  by_cases hx : xs = []
  · cases rx
    cases ry
    obtain ⟨its, r1, p1⟩ := tup_at I ha
    obtain ⟨its2, r2, p2⟩ := tup_at I hb
    have e1 : its = [] := r1.nil_iff.mpr hx
    subst e1
    obtain ⟨⟨c1, d1, t1, l1⟩, o1, w1, n1, z1⟩ := p1
    obtain ⟨⟨c2, d2, t2, l2⟩, o2, w2, n2, z2⟩ := p2
    cases (show c1 = .type "tuple" from w1); cases (show c2 = .type "tuple" from w2)
    cases (show t1 = .seq #[] n1 from z1); cases (show t2 = .seq its2.toArray n2 from z2)
    exact concat_meets ⟨_, o1, rfl⟩ ⟨_, o2, rfl⟩ noFill_tuple_add seq_tuple_add PySem.F.slot_tuple_add PySem.F.entry_tuple_add (PySem.F.args_tuple_add_2 _ _) (tuple_addW0 a b #[] its2.toArray n1 n2 d1 d2 l1 l2 rfl) ⟨o1, o2, ⟨.ref b, H, I, rfl, q0 hx⟩⟩
  · exact op_catT pins s σ H _ _ v u Q I rx ry ⟨a, b, xs, ys, rfl, rfl, .inl (.inl ha), .inl (.inl hb), hx, hz, q1 hx, q2 hx⟩
end
end L2
namespace Mir
open PySem L2
variable {X : Cx} {P : XP} {a b c e : Expr} {es : List Expr} {f g : FE} {fs : FEs} {pos p : Pos}
def catUE (a b : FE) : FE := fun ρ => do
  let x ← a ρ
  let y ← b ρ
  let i ← asT x.d
  let j ← asT y.d
  if i.length + j.length ≤ sizeLine then .ok ⟨.shr, x.fr && y.fr, .tup (i ++ j)⟩ else .stk
theorem m_catU (ha : PE X a (tE X.K P f)) (hb : PE X b (tE X.K P g)) : PE X (.BinOp a .Add b pos) (tE X.K P (catUE f g)) := by
  refine PE.imp (pe_op op_catU ha hb) ?_
  intro σ H Q h
  refine t2 (q := fun x y H2 => rCatU x y H2 Q) h ?_
  intro H0 B ρ v w H' r r' d g1 g2 s h
  cases e1 : asT r.d with
  | stk => simp [e1] at h
  | exc x => exact (asT_exc e1).elim
  | ok i =>
    cases e2 : asT r'.d with
    | stk => simp [e1, e2] at h
    | exc x => exact (asT_exc e2).elim
    | ok j =>
      simp only [e1, e2, R.ok_bind] at h
      by_cases hz : i.length + j.length ≤ sizeLine
      · rw [if_pos hz] at h
        have w1 := g1.shr_of (by rw [asT_ok e1]; rfl)
        have w2 := g2.shr_of (by rw [asT_ok e2]; rfl)
        rw [asT_ok e1] at w1
        rw [asT_ok e2] at w2
        obtain ⟨a1, xs, h1, h2, h3⟩ := id w1
        obtain ⟨a2, ys, k1, k2, k3⟩ := id w2
        have lx := h3.length
        have ly := k3.length
        refine ⟨a1, a2, xs, ys, h1, k1, cut_same _ _ h2, cut_same _ _ k2, by omega, fun z => ?_, fun _ z => ?_, fun _ _ p hp => ?_⟩
        · have jn : i = [] := List.length_eq_zero_iff.mp (by rw [lx, z]; rfl)
          refine h _ H' (Same.refl _) ?_
          show Rep X.K (cutF (r.fr && r'.fr) H0 H' B) (.tup (i ++ j)) (.ref a2)
          rw [jn, List.nil_append, ← k1]
          obtain ⟨_, _, z1, z2, _⟩ := (Reps.one w2).andR (fr := r.fr)
          cases z1; exact z2
        · have jn : j = [] := List.length_eq_zero_iff.mp (by rw [ly, z]; rfl)
          refine h _ H' (Same.refl _) ?_
          show Rep X.K (cutF (r.fr && r'.fr) H0 H' B) (.tup (i ++ j)) (.ref a1)
          rw [jn, List.append_nil, ← h1]
          obtain ⟨_, _, z1, z2, _⟩ := (Reps.one w1).andL (fr' := r'.fr)
          cases z1; exact z2
        · exact h _ _ (Same.upd_new hp) (new_tup d hp (h3.andL.append k3.andR))
      · rw [if_neg hz] at h; exact h.elim
end Mir
set_option Elab.async false
set_option linter.all false
set_option maxRecDepth 100000
set_option maxHeartbeats 1000000
namespace Mir
open PySem L2
abbrev li (xs : List Int) : List D := xs.map .int
theorem seq_nx {s t : FS} {ρ ρ1 : Mir.Env} (h : s ρ = .nx ρ1) : seqS s t ρ = t ρ1 := by simp only [seqS, h]
theorem seq_rt {s t : FS} {ρ : Mir.Env} {r : Res} (h : s ρ = .rt r) : seqS s t ρ = .rt r := by simp only [seqS, h]
theorem for_ok {it : FI} {tg : Tg} {b : FS} {ρ : Mir.Env} {fr : Bool} {ds : List D} (h : it ρ = .ok ⟨true, fr, ds⟩) : forS it tg b ρ = forL tg b fr ds ρ := by simp only [forS, h, R.at, if_true]
theorem def_rt {np n : Nat} {s : FS} {ds : List D} {r : Res} (hl : ds.length = np) (h : s (stE n ds) = .rt r) : defR np n s ds = .ok ⟨r.k, r.fr || r.d.imm, r.d⟩ := by simp only [defR, hl, if_true, h]
theorem ret_rt {f : FE} {ρ : Mir.Env} {k : Kd} {fr : Bool} {d : D} (h : f ρ = .ok ⟨k, fr, d⟩) : retS f ρ = .rt ⟨if k = .shr then .shr else .tmp, fr, d⟩ := by simp only [retS, h, R.at]
theorem set_tmp {f : FE} {ρ : Mir.Env} {i : Nat} {fr : Bool} {d : D} (h : f ρ = .ok ⟨.tmp, fr, d⟩) : setS i f ρ = .nx (ρ.set i (some ⟨.own, fr, d⟩)) := by simp only [setS, h, R.at, Res.keep]
theorem set_shr {f : FE} {ρ : Mir.Env} {i : Nat} {fr : Bool} {d : D} (h : f ρ = .ok ⟨.shr, fr, d⟩) : setS i f ρ = .nx (ρ.set i (some ⟨.shr, fr, d⟩)) := by simp only [setS, h, R.at, Res.keep]
theorem if_t {t : FT} {A B : FS} {ρ : Mir.Env} {b : Bool} (h : t ρ = .ok b) : ifS t A B ρ = if b then A ρ else B ρ := by simp only [ifS, h, R.at]
theorem if_bT {f : FE} {A B : FS} {ρ : Mir.Env} {b : Bool} {k : Kd} {fr : Bool} (h : f ρ = .ok ⟨k, fr, .bl b⟩) : ifS (bT f) A B ρ = if b then A ρ else B ρ := by
  simp only [ifS, bT, h, R.ok_bind, asB, R.at]
theorem bT_ok {f : FE} {ρ : Mir.Env} {b : Bool} {k : Kd} {fr : Bool} (h : f ρ = .ok ⟨k, fr, .bl b⟩) : bT f ρ = .ok b := by simp only [bT, h, R.ok_bind, asB]
theorem notT_ok {t : FT} {ρ : Mir.Env} {b : Bool} (h : t ρ = .ok b) : notT t ρ = .ok (!b) := by simp only [notT, h, R.ok_bind]
theorem orT_ok {t u : FT} {ρ : Mir.Env} {b : Bool} {r : R Bool} (h : t ρ = .ok b) (h2 : b = false → u ρ = r) : orT t u ρ = if b then .ok true else r := by
  cases b with
  | true => simp only [orT, h, R.ok_bind, if_true]
  | false => simp only [orT, h, R.ok_bind, h2 rfl, Bool.false_eq_true, if_false]
theorem andE_ok {f g : FE} {ρ : Mir.Env} {b : Bool} {k : Kd} {fr : Bool} {r : R Res} (h : f ρ = .ok ⟨k, fr, .bl b⟩) (h2 : b = true → g ρ = r) : andE f g ρ = if b then r else .ok (sc (.bl false)) := by
  cases b with
  | true => simp only [andE, h, R.ok_bind, asB, h2 rfl, if_true]
  | false => simp only [andE, h, R.ok_bind, asB, Bool.false_eq_true, if_false]
theorem call_ok {φ : Φ} {fs : FEs} {ρ : Mir.Env} {rs : List Res} {k : Kd} {d : D} (h : evs fs ρ = .ok rs) (hφ : φ (rs.map (·.d)) = .ok ⟨k, true, d⟩) : callE φ fs ρ = .ok ⟨if k = .shr then .shr else .tmp, true, d⟩ := by
  simp only [callE, h, R.ok_bind, hφ, if_true]
theorem call_sc {φ : Φ} {fs : FEs} {ρ : Mir.Env} {rs : List Res} {d : D} (h : evs fs ρ = .ok rs) (hφ : φ (rs.map (·.d)) = .ok ⟨.shr, true, d⟩) : callE φ fs ρ = .ok ⟨.shr, true, d⟩ := (call_ok h hφ).trans rfl
theorem call_tmp {φ : Φ} {fs : FEs} {ρ : Mir.Env} {rs : List Res} {d : D} (h : evs fs ρ = .ok rs) (hφ : φ (rs.map (·.d)) = .ok ⟨.tmp, true, d⟩) : callE φ fs ρ = .ok ⟨.tmp, true, d⟩ := (call_ok h hφ).trans rfl
theorem ret_tmp {f : FE} {ρ : Mir.Env} {fr : Bool} {d : D} (h : f ρ = .ok ⟨.tmp, fr, d⟩) : retS f ρ = .rt ⟨.tmp, fr, d⟩ := (ret_rt h).trans rfl
theorem ret_shr {f : FE} {ρ : Mir.Env} {fr : Bool} {d : D} (h : f ρ = .ok ⟨.shr, fr, d⟩) : retS f ρ = .rt ⟨.shr, fr, d⟩ := (ret_rt h).trans rfl
theorem evs_cons {f : FE} {fs : FEs} {ρ : Mir.Env} {r : Res} {rs : List Res} (h : f ρ = .ok r) (h2 : evs fs ρ = .ok rs) : evs (f :: fs) ρ = .ok (r :: rs) := by simp only [evs, h, h2, R.ok_bind]
theorem evs_nil {ρ : Mir.Env} : evs [] ρ = .ok [] := rfl
theorem cmpL_map {α : Type} {tg : Tg} {b : FB} {fr : Bool} {ρ : Mir.Env} {inj out : α → D} : ∀ (xs : List α), (∀ x ∈ xs, ∃ ρ1 k, tg.bind fr (inj x) ρ = .ok ρ1 ∧ b ρ1 = .ok (some ⟨k, true, out x⟩) ∧ k ≠ .own) → cmpL tg b fr ρ (xs.map inj) = .ok (true, xs.map out)
  | [], _ => rfl
  | x :: r, h => by
    obtain ⟨ρ1, k, h1, h2, h3⟩ := h x List.mem_cons_self
    have ih := cmpL_map r fun y hy => h y (List.mem_cons_of_mem _ hy)
    simp only [List.map_cons, cmpL, h1, R.ok_bind, h2, Res.give, if_neg h3, ih]
    rfl
theorem cmp_map {α : Type} {it : FI} {tg : Tg} {b : FB} {fr st : Bool} {ρ : Mir.Env} {k : Nat} {fs : List Nat} {inj out : α → D} {xs : List α} (hi : it ρ = .ok ⟨st, fr, xs.map inj⟩)
    (h : ∀ x ∈ xs, ∃ ρ1 k', tg.bind fr (inj x) (cmpEnv k fs ρ) = .ok ρ1 ∧ b ρ1 = .ok (some ⟨k', true, out x⟩) ∧ k' ≠ .own) (hz : xs.length ≤ sizeLine) : cmpE' it k fs tg b ρ = .ok ⟨.tmp, true, .lst (xs.map out)⟩ := by
  have := cmpL_map xs h
  simp only [cmpE', hi, R.ok_bind, this, List.length_map, if_pos hz]
theorem bE_ok {f : FE} {ρ : Mir.Env} {r : Res} (h : f ρ = .ok r) : bE f ρ = .ok (some r) := by simp only [bE, h, R.ok_bind]
theorem forL_rel {α β : Type} {tg : Tg} {b : FS} {fr : Bool} {inj : α → D} {step : β → α → β} {Q : β → Mir.Env → Prop} : ∀ (xs : List α) (s : β) (ρ : Mir.Env), Q s ρ →
    (∀ x ∈ xs, ∀ s ρ, Q s ρ → ∃ ρ1 ρ2, tg.bind fr (inj x) ρ = .ok ρ1 ∧ b ρ1 = .nx ρ2 ∧ Q (step s x) ρ2) → ∃ ρ', forL tg b fr (xs.map inj) ρ = .nx ρ' ∧ Q (xs.foldl step s) ρ'
  | [], s, ρ, h, _ => ⟨ρ, rfl, h⟩
  | x :: r, s, ρ, h, hs => by
    obtain ⟨ρ1, ρ2, h1, h2, h3⟩ := hs x List.mem_cons_self s ρ h
    obtain ⟨ρ', h4, h5⟩ := forL_rel r (step s x) ρ2 h3 fun y hy => hs y (List.mem_cons_of_mem _ hy)
    refine ⟨ρ', ?_, h5⟩
    simp only [List.map_cons, forL, h1, R.at, h2]
    exact h4
theorem rngD_map (lo : Int) (n : Nat) : rngD lo n = (List.range n).map fun (i : Nat) => .int (lo + (i : Int)) := rfl
theorem rngD0 (n : Nat) : rngD 0 n = (List.range n).map fun (i : Nat) => .int (i : Int) := by
  rw [rngD_map]; simp
theorem lt1000 {n : Nat} (h : n < 2 ^ 250) : n < 2 ^ 1000 := Nat.lt_of_lt_of_le h (Nat.pow_le_pow_right (by decide) (by decide))
theorem CM_of {i j : Int} (h1 : i.natAbs < 2 ^ 1000) (h2 : j.natAbs < 2 ^ 1000) : CM i j = true := by
  have lg : ∀ n : Nat, n < 2 ^ 1000 → n.log2 < 1000000 := fun n h => by
    by_cases z : n = 0
    · subst z; decide
    · exact Nat.lt_trans ((Nat.log2_lt z).mpr h) (by decide)
  unfold CM
  rw [decide_eq_true (lg _ h1), decide_eq_true (lg _ h2)]
  rfl
theorem eqv_int (a b : Int) : eqvR (.int a) (.int b) = .ok (decide (a = b)) := by
  by_cases h : a = b
  · subst h; simp [eqvR, toPy, SeqAt.shaped, PyData.canLay0, PyData.depth, PyData.eqv]
  · simp [eqvR, toPy, SeqAt.shaped, PyData.canLay0, PyData.depth, PyData.eqv, h]
theorem ints_li : ∀ zs : List Int, intsR (li zs) = .ok zs
  | [] => rfl
  | z :: r => by
    have := ints_li r
    simp only [li, List.map_cons, intsR] at this ⊢
    simp [this, asI]
theorem bools_map {α : Type} (f : α → Bool) : ∀ xs : List α, boolsR (xs.map fun x => D.bl (f x)) = .ok (xs.map f)
  | [] => rfl
  | x :: r => by
    have := bools_map f r
    simp only [List.map_cons, boolsR]
    simp [this, asB]
theorem atI_nat {xs : List D} {k : Nat} {d : D} (h : xs[k]? = some d) : atI xs (k : Int) = some d := by
  have hk := (List.getElem?_eq_some_iff.mp h).1
  have hn : ¬ (k : Int) < 0 := by omega
  unfold atI ixN
  rw [if_pos (by omega), if_pos (by omega)]
  simpa using h
theorem len_ok {f : FE} {ρ : Mir.Env} {k : Kd} {fr : Bool} {ds : List D} (h : f ρ = .ok ⟨k, fr, .lst ds⟩) : lenE f ρ = .ok (sc (.int ds.length)) := by simp only [lenE, h, R.ok_bind, asS]
theorem lst_it {f : FE} {ρ : Mir.Env} {k : Kd} {fr : Bool} {ds : List D} (h : f ρ = .ok ⟨k, fr, .lst ds⟩) : lstI f ρ = .ok ⟨k != .own, fr, ds⟩ := by simp only [lstI, h, R.ok_bind, asL]
theorem ne_int {f g : FE} {ρ : Mir.Env} {k k' : Kd} {fr fr' : Bool} {i j : Int} (h1 : f ρ = .ok ⟨k, fr, .int i⟩) (h2 : g ρ = .ok ⟨k', fr', .int j⟩) : neE f g ρ = .ok (sc (.bl (!decide (i = j)))) := by simp only [neE, h1, h2, R.ok_bind, eqv_int]
theorem eq_int {f g : FE} {ρ : Mir.Env} {k k' : Kd} {fr fr' : Bool} {i j : Int} (h1 : f ρ = .ok ⟨k, fr, .int i⟩) (h2 : g ρ = .ok ⟨k', fr', .int j⟩) : eqE f g ρ = .ok (sc (.bl (decide (i = j)))) := by simp only [eqE, h1, h2, R.ok_bind, eqv_int]
theorem eq_ok {f g : FE} {ρ : Mir.Env} {r r' : Res} {b : Bool} (h1 : f ρ = .ok r) (h2 : g ρ = .ok r') (h : eqvR r.d r'.d = .ok b) : eqE f g ρ = .ok (sc (.bl b)) := by simp only [eqE, h1, h2, R.ok_bind, h]
theorem ne_ok {f g : FE} {ρ : Mir.Env} {r r' : Res} {b : Bool} (h1 : f ρ = .ok r) (h2 : g ρ = .ok r') (h : eqvR r.d r'.d = .ok b) : neE f g ρ = .ok (sc (.bl (!b))) := by simp only [neE, h1, h2, R.ok_bind, h]
theorem cmp_int {G : Int → Int → Bool} {f g : FE} {ρ : Mir.Env} {k k' : Kd} {fr fr' : Bool} {i j : Int} (h1 : f ρ = .ok ⟨k, fr, .int i⟩) (h2 : g ρ = .ok ⟨k', fr', .int j⟩) : cmpE G f g ρ = .ok (sc (.bl (G i j))) := by simp only [cmpE, h1, h2, R.ok_bind, asI]
theorem i2_ok {C : Int → Int → Bool} {G : Int → Int → Int} {f g : FE} {ρ : Mir.Env} {k k' : Kd} {fr fr' : Bool} {i j : Int} (h1 : f ρ = .ok ⟨k, fr, .int i⟩) (h2 : g ρ = .ok ⟨k', fr', .int j⟩) (hc : C i j = true) : i2E C G f g ρ = .ok (sc (.int (G i j))) := by
  simp only [i2E, h1, h2, R.ok_bind, asI, hc, if_true]
theorem rng1_gen {f : FE} {ρ : Mir.Env} {x : Res} {j : Int} (h : f ρ = .ok x) (hx : x.d = .int j) (c : -(2 ^ 62) ≤ j ∧ j < 2 ^ 62) : rng1I f ρ = .ok ⟨true, true, rngD 0 j.toNat⟩ := by
  simp only [rng1I, h, hx, asI, R.ok_bind]
  rw [if_pos c]
theorem rng1_ok {f : FE} {ρ : Mir.Env} {k : Kd} {fr : Bool} {n : Nat} (h : f ρ = .ok ⟨k, fr, .int n⟩) (hn : (n : Int) < 2 ^ 62) : rng1I f ρ = .ok ⟨true, true, (List.range n).map fun (i : Nat) => .int (i : Int)⟩ :=
  (rng1_gen h rfl ⟨by omega, hn⟩).trans (by rw [Int.toNat_natCast, rngD0])
theorem idx_nat {f g : FE} {ρ : Mir.Env} {k k' : Kd} {fr fr' : Bool} {ds : List D} {i : Nat} {d : D} (h1 : f ρ = .ok ⟨k, fr, .lst ds⟩) (h2 : g ρ = .ok ⟨k', fr', .int i⟩) (h : ds[i]? = some d) : idxE f g ρ = .ok ⟨.shr, fr || d.imm, d⟩ := by
  simp only [idxE, h1, h2, R.ok_bind, asS, asI, atI_nat h]
theorem idx_int {f g : FE} {ρ : Mir.Env} {k k' : Kd} {fr fr' : Bool} {ds : List D} {i : Nat} {z : Int} (h1 : f ρ = .ok ⟨k, fr, .lst ds⟩) (h2 : g ρ = .ok ⟨k', fr', .int i⟩) (h : ds[i]? = some (.int z)) : idxE f g ρ = .ok ⟨.shr, true, .int z⟩ :=
  (idx_nat h1 h2 h).trans (by simp [D.imm])
end Mir
namespace Mir
open PySem L2
theorem app_ok {i : Nat} {f : FE} {ρ : Mir.Env} {fr fr' : Bool} {ds : List D} {k : Kd} {d : D} (ho : ρ[i]? = some (some ⟨.own, fr, .lst ds⟩)) (h : f ρ = .ok ⟨k, fr', d⟩) (hk : k ≠ .own) (hz : ds.length < sizeLine) : appS i f ρ = .nx (ρ.set i (some ⟨.own, fr && fr', .lst (ds ++ [d])⟩)) := by
  simp only [appS, ownL, ho, R.at, h, Res.give, if_neg hk, if_pos hz]
end Mir
namespace Mir
open PySem L2
mutual
def D.pl : D → Nat → Bool
  | .non, _ => true
  | .bl _, _ => true
  | .int _, _ => true
  | .lst ds, n => decide (0 < n) && D.pls ds (n - 1)
  | .tup ds, n => decide (0 < n) && D.pls ds (n - 1)
  | _, _ => false
def D.pls : List D → Nat → Bool
  | [], _ => true
  | d :: r, n => D.pl d n && D.pls r n
end
mutual
theorem pl_py : ∀ (d : D) (n : Nat), d.pl n = true → ∃ p, toPy d = some p ∧ p.depth ≤ n ∧ p.canLay0 = true ∧ PyData.eqv p p = true
  | .non, n, _ => ⟨.none, rfl, by simp [PyData.depth], by simp [PyData.canLay0], by simp [PyData.eqv]⟩
  | .bl b, n, _ => ⟨.bool b, rfl, by simp [PyData.depth], by simp [PyData.canLay0], by simp [PyData.eqv]⟩
  | .int i, n, _ => ⟨.int i, rfl, by simp [PyData.depth], by simp [PyData.canLay0], by simp [PyData.eqv]⟩
  | .str _, _, h => by simp [D.pl] at h
  | .obj _ _, _, h => by simp [D.pl] at h
  | .dct _ _, _, h => by simp [D.pl] at h
  | .any, _, h => by simp [D.pl] at h
  | .exc _ _, _, h => by simp [D.pl] at h
  | .lst ds, n, h => by
    simp only [D.pl, Bool.and_eq_true, decide_eq_true_eq] at h
    obtain ⟨ps, h1, h2, h3, h4⟩ := pls_py ds (n - 1) h.2
    refine ⟨.list ps, by simp only [toPy, h1, Option.map_some], ?_, by simpa only [PyData.canLay0] using h3, by simpa only [PyData.eqv] using h4⟩
    simp only [PyData.depth]; omega
  | .tup ds, n, h => by
    simp only [D.pl, Bool.and_eq_true, decide_eq_true_eq] at h
    obtain ⟨ps, h1, h2, h3, h4⟩ := pls_py ds (n - 1) h.2
    refine ⟨.tuple ps, by simp only [toPy, h1, Option.map_some], ?_, by simpa only [PyData.canLay0] using h3, by simpa only [PyData.eqv] using h4⟩
    simp only [PyData.depth]; omega
theorem pls_py : ∀ (ds : List D) (n : Nat), D.pls ds n = true → ∃ ps, toPys ds = some ps ∧ PyData.depthAll ps ≤ n ∧ PyData.canLayAll0 ps = true ∧ PyData.eqvAll ps ps = true
  | [], n, _ => ⟨[], rfl, by simp [PyData.depthAll], by simp [PyData.canLayAll0], by simp [PyData.eqvAll]⟩
  | d :: r, n, h => by
    simp only [D.pls, Bool.and_eq_true] at h
    obtain ⟨p, a1, a2, a3, a4⟩ := pl_py d n h.1
    obtain ⟨ps, h1, h2, h3, h4⟩ := pls_py r n h.2
    refine ⟨p :: ps, by simp only [toPys, a1, h1, Option.bind_some, Option.map_some], ?_, by simp only [PyData.canLayAll0, a3, h3, Bool.and_self], by simp only [PyData.eqvAll, a4, h4, Bool.and_self]⟩
    simp only [PyData.depthAll]; omega
end
theorem eqv_self {d : D} (n : Nat) (h : d.pl n = true) (hn : n ≤ 64) : eqvR d d = .ok true := by
  obtain ⟨p, h1, h2, h3, h4⟩ := pl_py d n h
  have s : SeqAt.shaped p = true := by
    unfold SeqAt.shaped
    rw [h3, decide_eq_true (Nat.le_trans h2 hn)]; rfl
  unfold eqvR
  rw [h1]
  simp only [s, Bool.and_self, if_true, h4]
theorem pls_all {n : Nat} : ∀ {ds : List D}, (∀ d ∈ ds, d.pl n = true) → D.pls ds n = true
  | [], _ => rfl
  | d :: r, h => by
    simp only [D.pls, h d List.mem_cons_self, pls_all fun x hx => h x (List.mem_cons_of_mem _ hx), Bool.and_self]
theorem pls_li (xs : List Int) (n : Nat) : D.pls (li xs) n = true := pls_all fun d hd => by
  obtain ⟨i, _, rfl⟩ := List.mem_map.mp hd; rfl
theorem enm_map {α : Type} (f : α → D) (xs : List α) : enmD (xs.map f) = xs.zipIdx.map fun p => .tup [.int p.2, f p.1] := by
  unfold enmD
  rw [List.zipIdx_map, List.map_map]
  rfl
theorem zipD_self {α : Type} (f : α → D) (xs : List α) : zipD (xs.map f) (xs.map f) = xs.map fun x => .tup [f x, f x] := by
  unfold zipD
  rw [List.zipWith_self, List.map_map]
  rfl
theorem so_ok {f : FE} {ρ : Mir.Env} {k : Kd} {fr : Bool} {i : Int} (h : f ρ = .ok ⟨k, fr, .int i⟩) : soO f ρ = .ok (some i) := by simp only [soO, h, R.ok_bind, asI]
theorem slc_ok {f : FE} {lo hi : FO} {ρ : Mir.Env} {k : Kd} {fr : Bool} {ds : List D} {a b : Option Int} (h : f ρ = .ok ⟨k, fr, .lst ds⟩) (hl : lo ρ = .ok a) (hh : hi ρ = .ok b) : slcE f lo hi ρ = .ok ⟨.tmp, fr, .lst (cutD ds a b)⟩ := by
  simp only [slcE, h, hl, hh, R.ok_bind, asL]
end Mir
set_option Elab.async false
set_option linter.all false
set_option maxRecDepth 100000
set_option maxHeartbeats 1000000
namespace Mir
open PySem L2
theorem small {M : Nat} (hM : M < 2 ^ 1000) {x : Int} (h : x.natAbs ≤ M) : x.natAbs < 2 ^ 1000 := Nat.lt_of_le_of_lt h hM
theorem getD_mem {α : Type} {xs : List α} {k : Nat} {d : α} (h : k < xs.length) : xs.getD k d ∈ xs := by
  rw [List.getD_eq_getElem?_getD, List.getElem?_eq_getElem h]; exact List.getElem_mem h
theorem row_at {r : List Int} {w : Nat} (h : w < r.length) : (li r)[w]? = some (.int (r.getD w 0)) := by
  simp [li, h, List.getD_eq_getElem?_getD]
abbrev E_row (φ : Φ) (C : Int → Int → Bool) (G : Int → Int → Int) : FE := cmpE' (lstI (callE φ [vE 0, vE 1])) 2 [] (.tp [.nm 0, .nm 1]) (bE (i2E C G (vE 0) (vE 1)))
theorem isl_ok {f g : FE} {ρ : Mir.Env} {k k' : Kd} {fr fr' : Bool} {ds es : List D} (h1 : f ρ = .ok ⟨k, fr, .lst ds⟩) (h2 : g ρ = .ok ⟨k', fr', .lst es⟩) (h : ds.length = es.length) : orT (notT (bT (isiE .list f))) (bT (neE (lenE f) (lenE g))) ρ = .ok false := by
  have a : isiE .list f ρ = .ok (sc (.bl true)) := by simp only [isiE, h1, R.ok_bind, isTy]
  refine (orT_ok (notT_ok (bT_ok a)) fun _ => bT_ok (ne_int (len_ok h1) (len_ok h2))).trans ?_
  simp [h]
theorem CP_of {i j : Int} (h : 0 < j) : CP i j = true := decide_eq_true h
theorem CD_of {i j : Int} (h : 0 < j) (h2 : j.natAbs < 2 ^ 250) : CD i j = true := by
  have : j.natAbs.log2 < 9000 := by
    by_cases z : j.natAbs = 0
    · rw [z]; decide
    · exact Nat.lt_trans ((Nat.log2_lt z).mpr h2) (by decide)
  unfold CD
  rw [decide_eq_true h, decide_eq_true this]; rfl
theorem appT_ok {f g : FE} {ρ : Mir.Env} {fr : Bool} {ds : List D} {r : Res} (h : f ρ = .ok ⟨.tmp, fr, .lst ds⟩) (h2 : g ρ = .ok r) (hz : ds.length < sizeLine) : appT f g ρ = .nx ρ := by
  simp only [appT, h, R.at, h2, if_pos hz]
theorem frz_go {i : Nat} {s : FS} {ρ : Mir.Env} {e : Res} (h : ρ[i]? = some (some e)) : frzS i s ρ = s (ρ.set i (some ⟨.shr, e.fr, e.d⟩)) := by simp only [frzS, frz, h]
end Mir
set_option Elab.async false
set_option linter.all false
set_option maxRecDepth 100000
set_option maxHeartbeats 3900000
namespace N32
open PySem L2 Mir
def top (i : Nat) : Stmt := PySem.Challenge.pw_flatmeet_k32_sums_and_products.main.body.getD i (.Pass ⟨0, 0, 0, 0⟩)
structure Blt (mg : Str → Option Value) : Prop where
  len_ : mg "len" = none
  set_ : mg "set" = none
  enumerate_ : mg "enumerate" = none
  sorted_ : mg "sorted" = none
  tuple_ : mg "tuple" = none
  isinstance_ : mg "isinstance" = none
  bool_ : mg "bool" = none
  int_ : mg "int" = none
  list_ : mg "list" = none
  zip_ : mg "zip" = none
  all_ : mg "all" = none
  range_ : mg "range" = none
  min_ : mg "min" = none
section
variable {Pg : Program} {w : World} {K : PySem.W.Frag} {mg : Str → Option Value} {base : Heap} {k : Nat} {T : Addr}
abbrev s_turn_of : Stmt := top 1
theorem sc_turn_of : FnScope ["places", "exchanges", "place", "number"] ["places"] (defScope s_turn_of) := ⟨rfl, rfl, rfl, by decide +kernel, rfl, by decide +kernel, by decide +kernel⟩
def f_turn_of : FS :=
    (seqS (ifS (bT (ltE (lsetE (vE 0)) (lenE (vE 0))))
      (retS (cE (.int 0)))
      nilS)
    (seqS (setS 1 (cE (.int 0)))
    (seqS (forS (enmT (vE 0)) (.tp [.nm 2, .nm 3])
      (augS 1 (fun m n => m + n) (lenE (cmpE' (tupI (slcTE (vE 0) (noO) (soO (vE 2)))) 1 [3] (.nm 0) (Mir.bIf (bT (gtE (vE 0) (vE 1))) (vE 0))))))
    (retS (subE (cE (.int 1)) (mulE (cE (.int 2)) (modE (vE 1) (cE (.int 2)))))))))
def w_turn_of : Φ := defR 1 4 f_turn_of
theorem c_turn_of (B : Blt mg)  (F : FunAt K mg "turn_of" s_turn_of ["places"]) : Callee Pg w K mg base (CXM Pg w) (k + 1) "turn_of" ["places"] (spM K (clK K) w_turn_of) := by
  have nd := sc_turn_of.nd
  refine m_defX F sc_turn_of fun f cdv A outer s H E hr => ?_
  have hu := hr.units
  exact (ms_cons (m_ifS (mt_lt (m_lset rfl rfl B.len_ rfl B.set_ (m_v 0)) (m_len rfl B.len_ (m_v 0)))
      (ms_one (m_ret m_int))
      ms_nil)
    (ms_cons (m_set (i := 1) nd rfl (Or.inl rfl) m_int)
    (ms_cons (m_for passX rfl (mi_enuT rfl B.enumerate_ (m_v 0)) (mg_tp rfl (mgs_cons (mg_nm nd rfl (Or.inl rfl)) (mgs_cons (mg_nm nd rfl (Or.inr rfl)) mgs_nil)))
      (ms_one (m_augA (i := 1) nd rfl (Or.inl rfl) (m_len rfl B.len_ (m_comp rfl (compOk_def (XN := ["places", "exchanges", "place", "number"]) (N := ["before", "number"]) (k := 1) (fs := [3]) rfl rfl rfl (by decide +kernel)) (mi_tup (m_slcT (m_v 0) mo_no (mo_so (m_v 2)))) (fun _ _ _ => (mg_nm (show (["before", "number"] : List Str).Nodup by decide +kernel) rfl (Or.inl rfl))) (glow rfl) (fun _ _ _ => mb_if (mt_gt (m_v 0) (m_v 1)) (m_v 0)))))))
    (ms_one (m_ret (m_sub m_int (m_mul m_int (m_mod (m_v 1) m_int))))))))
abbrev s_summed : Stmt := top 2
theorem sc_summed : FnScope ["terms", "numbers", "places", "number", "key"] ["terms"] (defScope s_summed) := ⟨rfl, rfl, rfl, by decide +kernel, rfl, by decide +kernel, by decide +kernel⟩
def f_summed : FS :=
    (seqS (setS 1 (dnewE))
    (seqS (frzS 0 (forS (lstI (vE 0)) (.tp [.nm 2, .nm 3])
      (seqS (setS 4 (tofE (srtIE (vE 2))))
      (dputS 1 (vE 4) (addE (dgtE (vE 1) (vE 4) (cE (.int 0))) (mulE (callE w_turn_of [vE 2]) (vE 3)))))))
    (retS (cmpE' (lstI (srtDE (vE 1))) 1 [1] (.nm 0) (Mir.bIf (bT (neE (dgetE (vE 1) (vE 0)) (cE (.int 0)))) (tupE [vE 0, dgetE (vE 1) (vE 0)]))))))
def w_summed : Φ := defR 1 5 f_summed
theorem c_summed (B : Blt mg) (c_turn_of : Callee Pg w K mg base (CXM Pg w) k "turn_of" ["places"] (spM K (clK K) w_turn_of)) (F : FunAt K mg "summed" s_summed ["terms"]) : Callee Pg w K mg base (CXM Pg w) (k + 1) "summed" ["terms"] (spM K (clK K) w_summed) := by
  have nd := sc_summed.nd
  refine m_defX F sc_summed fun f cdv A outer s H E hr => ?_
  have hu := hr.units
  exact (ms_cons (m_set (i := 1) nd rfl (Or.inr rfl) m_dnew)
    (ms_cons (m_frz (i := 0) (m_for passX rfl (mi_lst (m_v 0)) (mg_tp rfl (mgs_cons (mg_nm nd rfl (Or.inl rfl)) (mgs_cons (mg_nm nd rfl (Or.inl rfl)) mgs_nil)))
      (ms_cons (m_set (i := 4) nd rfl (Or.inl rfl) (m_tof rfl B.tuple_ (m_srtI rfl B.sorted_ (m_v 2))))
      (ms_one (m_dput (i := 1) hu rfl (Or.inr (Or.inl rfl)) (m_v 4) (m_add (m_dgt hu (m_v 1) (m_v 4) m_int) (m_mul (m_call c_turn_of hr rfl thrX (ma_cons (m_v 2) ma_nil)) (m_v 3))))))))
    (ms_one (m_ret (m_comp rfl (compOk_def (XN := ["terms", "numbers", "places", "number", "key"]) (N := ["key", "numbers"]) (k := 1) (fs := [1]) rfl rfl rfl (by decide +kernel)) (mi_lst (m_srtD rfl rfl B.sorted_ (m_v 1))) (fun _ _ _ => (mg_nm (show (["key", "numbers"] : List Str).Nodup by decide +kernel) rfl (Or.inl rfl))) (glow rfl) (fun _ _ _ => mb_if (mt_ne hu (m_dget hu (m_v 1) (m_v 0)) m_int) (m_tup (ma_cons (m_v 0) (ma_cons (m_dget hu (m_v 1) (m_v 0)) ma_nil)))))))))
abbrev s_added : Stmt := top 3
theorem sc_added : FnScope ["one", "other"] ["one", "other"] (defScope s_added) := ⟨rfl, rfl, rfl, by decide +kernel, rfl, by decide +kernel, by decide +kernel⟩
def f_added : FS :=
    (retS (callE w_summed [catE (vE 0) (vE 1)]))
def w_added : Φ := defR 2 2 f_added
theorem c_added (B : Blt mg) (c_summed : Callee Pg w K mg base (CXM Pg w) k "summed" ["terms"] (spM K (clK K) w_summed)) (F : FunAt K mg "added" s_added ["one", "other"]) : Callee Pg w K mg base (CXM Pg w) (k + 1) "added" ["one", "other"] (spM K (clK K) w_added) := by
  have nd := sc_added.nd
  refine m_defX F sc_added fun f cdv A outer s H E hr => ?_
  have hu := hr.units
  exact (ms_one (m_ret (m_call c_summed hr rfl thrX (ma_cons (m_cat (m_v 0) (m_v 1)) ma_nil))))
abbrev s_taken : Stmt := top 4
theorem sc_taken : FnScope ["some", "many"] ["some", "many"] (defScope s_taken) := ⟨rfl, rfl, rfl, by decide +kernel, rfl, by decide +kernel, by decide +kernel⟩
def f_taken : FS :=
    (retS (callE w_summed [cmpE' (lstI (vE 0)) 2 [1] (.tp [.nm 0, .nm 1]) (bE (tupE [vE 0, mulE (vE 1) (vE 2)]))]))
def w_taken : Φ := defR 2 2 f_taken
theorem c_taken (B : Blt mg) (c_summed : Callee Pg w K mg base (CXM Pg w) k "summed" ["terms"] (spM K (clK K) w_summed)) (F : FunAt K mg "taken" s_taken ["some", "many"]) : Callee Pg w K mg base (CXM Pg w) (k + 1) "taken" ["some", "many"] (spM K (clK K) w_taken) := by
  have nd := sc_taken.nd
  refine m_defX F sc_taken fun f cdv A outer s H E hr => ?_
  have hu := hr.units
  exact (ms_one (m_ret (m_call c_summed hr rfl thrX (ma_cons (m_comp rfl (compOk_def (XN := ["some", "many"]) (N := ["places", "number", "many"]) (k := 2) (fs := [1]) rfl rfl rfl (by decide +kernel)) (mi_lst (m_v 0)) (fun _ _ _ => (mg_tp rfl (mgs_cons (mg_nm (show (["places", "number", "many"] : List Str).Nodup by decide +kernel) rfl (Or.inl rfl)) (mgs_cons (mg_nm (show (["places", "number", "many"] : List Str).Nodup by decide +kernel) rfl (Or.inl rfl)) mgs_nil)))) (glow rfl) (fun _ _ _ => mb_elt (m_tup (ma_cons (m_v 0) (ma_cons (m_mul (m_v 1) (m_v 2)) ma_nil))))) ma_nil))))
abbrev s_product : Stmt := top 5
theorem sc_product : FnScope ["one", "other", "terms", "front", "left"] ["one", "other"] (defScope s_product) := ⟨rfl, rfl, rfl, by decide +kernel, rfl, by decide +kernel, by decide +kernel⟩
def f_product : FS :=
    (seqS (setS 2 (lstE []))
    (seqS (forS (lstI (vE 0)) (.tp [.nm 3, .nm 4])
      (extS 2 (cmpE' (lstI (vE 1)) 2 [3, 4] (.tp [.nm 0, .nm 1]) (bE (tupE [catUE (vE 2) (vE 0), mulE (vE 3) (vE 1)])))))
    (retS (callE w_summed [vE 2]))))
def w_product : Φ := defR 2 5 f_product
theorem c_product (B : Blt mg) (c_summed : Callee Pg w K mg base (CXM Pg w) k "summed" ["terms"] (spM K (clK K) w_summed)) (F : FunAt K mg "product" s_product ["one", "other"]) : Callee Pg w K mg base (CXM Pg w) (k + 1) "product" ["one", "other"] (spM K (clK K) w_product) := by
  have nd := sc_product.nd
  refine m_defX F sc_product fun f cdv A outer s H E hr => ?_
  have hu := hr.units
  exact (ms_cons (m_set (i := 2) nd rfl (Or.inl rfl) (m_lst ma_nil))
    (ms_cons (m_for passX rfl (mi_lst (m_v 0)) (mg_tp rfl (mgs_cons (mg_nm nd rfl (Or.inr rfl)) (mgs_cons (mg_nm nd rfl (Or.inr rfl)) mgs_nil)))
      (ms_one (m_ext (i := 2) rfl (Or.inl rfl) (m_comp rfl (compOk_def (XN := ["one", "other", "terms", "front", "left"]) (N := ["back", "right", "front", "left"]) (k := 2) (fs := [3, 4]) rfl rfl rfl (by decide +kernel)) (mi_lst (m_v 1)) (fun _ _ _ => (mg_tp rfl (mgs_cons (mg_nm (show (["back", "right", "front", "left"] : List Str).Nodup by decide +kernel) rfl (Or.inl rfl)) (mgs_cons (mg_nm (show (["back", "right", "front", "left"] : List Str).Nodup by decide +kernel) rfl (Or.inl rfl)) mgs_nil)))) (glow rfl) (fun _ _ _ => mb_elt (m_tup (ma_cons (m_catU (m_v 2) (m_v 0)) (ma_cons (m_mul (m_v 3) (m_v 1)) ma_nil))))))))
    (ms_one (m_ret (m_call c_summed hr rfl thrX (ma_cons (m_v 2) ma_nil))))))
abbrev s__law_whole : Stmt := top 7
theorem sc__law_whole : FnScope ["_law_found"] ["_law_found"] (defScope s__law_whole) := ⟨rfl, rfl, rfl, by decide +kernel, rfl, by decide +kernel, by decide +kernel⟩
def f__law_whole : FS :=
    (retS (andE (isiE .int (vE 0)) (notE (isiE .bool (vE 0)))))
def w__law_whole : Φ := defR 1 1 f__law_whole
theorem c__law_whole (B : Blt mg)  (F : FunAt K mg "_law_whole" s__law_whole ["_law_found"]) : Callee Pg w K mg base (CXM Pg w) (k + 1) "_law_whole" ["_law_found"] (spM K (clK K) w__law_whole) := by
  have nd := sc__law_whole.nd
  refine m_defX F sc__law_whole fun f cdv A outer s H E hr => ?_
  have hu := hr.units
  exact (ms_one (m_ret (m_and (m_isi (t := .int) rfl B.isinstance_ (m_v 0) (pe_bltn (v := .ty "int") rfl B.int_ (by decide +kernel) rfl)) (m_one (m_not (m_isi (t := .bool) rfl B.isinstance_ (m_v 0) (pe_bltn (v := .ty "bool") rfl B.bool_ (by decide +kernel) rfl)))))))
abbrev s__law_cell : Stmt := top 8
theorem sc__law_cell : FnScope ["_law_script", "_law_k"] ["_law_script", "_law_k"] (defScope s__law_cell) := ⟨rfl, rfl, rfl, by decide +kernel, rfl, by decide +kernel, by decide +kernel⟩
def f__law_cell : FS :=
    (seqS (ifS (bT (ltE (vE 1) (lenE (vE 0))))
      (retS (modE (idxE (vE 0) (vE 1)) (cE (.int 2147483647))))
      nilS)
    (retS (cE (.int 0))))
def w__law_cell : Φ := defR 2 2 f__law_cell
theorem c__law_cell (B : Blt mg)  (F : FunAt K mg "_law_cell" s__law_cell ["_law_script", "_law_k"]) : Callee Pg w K mg base (CXM Pg w) (k + 1) "_law_cell" ["_law_script", "_law_k"] (spM K (clK K) w__law_cell) := by
  have nd := sc__law_cell.nd
  refine m_defX F sc__law_cell fun f cdv A outer s H E hr => ?_
  have hu := hr.units
  exact (ms_cons (m_ifS (mt_lt (m_v 1) (m_len rfl B.len_ (m_v 0)))
      (ms_one (m_ret (m_mod (m_idx (m_v 0) (m_v 1)) m_int)))
      ms_nil)
    (ms_one (m_ret m_int)))
abbrev s__law_thing : Stmt := top 9
theorem sc__law_thing : FnScope ["_law_cell_here", "_law_k", "_law_many", "_law_number"] ["_law_cell_here", "_law_k", "_law_many"] (defScope s__law_thing) := ⟨rfl, rfl, rfl, by decide +kernel, rfl, by decide +kernel, by decide +kernel⟩
def f__law_thing : FS :=
    (seqS (setS 3 (modE (addE (addE (mulE (modE (vE 0) (cE (.int 2147483647))) (cE (.int 48271))) (mulE (mulE (cE (.int 69621)) (vE 1)) (vE 1))) (mulE (cE (.int 7)) (vE 1))) (cE (.int 2147483629))))
    (seqS (setS 3 (modE (mulE (vE 3) (vE 3)) (cE (.int 2147483587))))
    (retS (modE (modE (mulE (vE 3) (addE (vE 3) (cE (.int 48271)))) (cE (.int 2147483563))) (vE 2)))))
def w__law_thing : Φ := defR 3 4 f__law_thing
theorem c__law_thing (B : Blt mg)  (F : FunAt K mg "_law_thing" s__law_thing ["_law_cell_here", "_law_k", "_law_many"]) : Callee Pg w K mg base (CXM Pg w) (k + 1) "_law_thing" ["_law_cell_here", "_law_k", "_law_many"] (spM K (clK K) w__law_thing) := by
  have nd := sc__law_thing.nd
  refine m_defX F sc__law_thing fun f cdv A outer s H E hr => ?_
  have hu := hr.units
  exact (ms_cons (m_set (i := 3) nd rfl (Or.inl rfl) (m_mod (m_add (m_add (m_mul (m_mod (m_v 0) m_int) m_int) (m_mul (m_mul m_int (m_v 1)) (m_v 1))) (m_mul m_int (m_v 1))) m_int))
    (ms_cons (m_set (i := 3) nd rfl (Or.inl rfl) (m_mod (m_mul (m_v 3) (m_v 3)) m_int))
    (ms_one (m_ret (m_mod (m_mod (m_mul (m_v 3) (m_add (m_v 3) m_int)) m_int) (m_v 2))))))
abbrev s__law_same_sum : Stmt := top 10
theorem sc__law_same_sum : FnScope ["_law_found", "_law_due", "_law_one", "_law_other"] ["_law_found", "_law_due"] (defScope s__law_same_sum) := ⟨rfl, rfl, rfl, by decide +kernel, rfl, by decide +kernel, by decide +kernel⟩
def f__law_same_sum : FS :=
    (seqS (ifS (orT (notT (bT (isiE .list (vE 0)))) (bT (neE (lenE (vE 0)) (lenE (vE 1)))))
      (retS (cE (.bl false)))
      nilS)
    (seqS (forS (zipI (vE 0) (vE 1)) (.tp [.nm 2, .nm 3])
      (seqS (ifS (orT (notT (bT (isiE .tuple (vE 2)))) (orT (bT (neE (lenE (vE 2)) (cE (.int 2)))) (notT (bT (isiE .tuple (idxE (vE 2) (cE (.int 0))))))))
        (retS (cE (.bl false)))
        nilS)
      (ifS (orT (notT (bT (callE w__law_whole [idxE (vE 2) (cE (.int 1))]))) (orT (notT (bT (allE (cmpE' (tupI (idxE (vE 2) (cE (.int 0)))) 1 [] (.nm 0) (bE (callE w__law_whole [vE 0])))))) (bT (neE (vE 2) (vE 3)))))
        (retS (cE (.bl false)))
        nilS)))
    (retS (cE (.bl true)))))
def w__law_same_sum : Φ := defR 2 4 f__law_same_sum
theorem c__law_same_sum (B : Blt mg) (c__law_whole : Callee Pg w K mg base (CXM Pg w) k "_law_whole" ["_law_found"] (spM K (clK K) w__law_whole)) (F : FunAt K mg "_law_same_sum" s__law_same_sum ["_law_found", "_law_due"]) : Callee Pg w K mg base (CXM Pg w) (k + 1) "_law_same_sum" ["_law_found", "_law_due"] (spM K (clK K) w__law_same_sum) := by
  have nd := sc__law_same_sum.nd
  refine m_defX F sc__law_same_sum fun f cdv A outer s H E hr => ?_
  have hu := hr.units
  exact (ms_cons (m_ifS (PW.pt (mw_or (mt_not (mt_val (m_isi (t := .list) rfl B.isinstance_ (m_v 0) (pe_bltn (v := .ty "list") rfl B.list_ (by decide +kernel) rfl)))) (mw_or1 (mt_ne hu (m_len rfl B.len_ (m_v 0)) (m_len rfl B.len_ (m_v 1))))))
      (ms_one (m_ret m_bl))
      ms_nil)
    (ms_cons (m_for passX rfl (mi_zip rfl rfl B.zip_ (m_v 0) (m_v 1)) (mg_tp rfl (mgs_cons (mg_nm nd rfl (Or.inl rfl)) (mgs_cons (mg_nm nd rfl (Or.inl rfl)) mgs_nil)))
      (ms_cons (m_ifS (PW.pt (mw_or (mt_not (mt_val (m_isi (t := .tuple) rfl B.isinstance_ (m_v 2) (pe_bltn (v := .ty "tuple") rfl B.tuple_ (by decide +kernel) rfl)))) (mw_or (mt_ne hu (m_len rfl B.len_ (m_v 2)) m_int) (mw_or1 (mt_not (mt_val (m_isi (t := .tuple) rfl B.isinstance_ (m_idx (m_v 2) m_int) (pe_bltn (v := .ty "tuple") rfl B.tuple_ (by decide +kernel) rfl))))))))
        (ms_one (m_ret m_bl))
        ms_nil)
      (ms_one (m_ifS (PW.pt (mw_or (mt_not (mt_val (m_call c__law_whole hr rfl thrX (ma_cons (m_idx (m_v 2) m_int) ma_nil)))) (mw_or (mt_not (mt_val (m_all rfl rfl B.all_ (m_comp rfl (compOk_def (XN := ["_law_found", "_law_due", "_law_one", "_law_other"]) (N := ["_law_way"]) (k := 1) (fs := []) rfl rfl rfl (by decide +kernel)) (mi_tup (m_idx (m_v 2) m_int)) (fun _ _ _ => (mg_nm (show (["_law_way"] : List Str).Nodup by decide +kernel) rfl (Or.inl rfl))) (glow rfl) (fun _ _ _ => mb_elt (m_call c__law_whole hr rfl thrC (ma_cons (m_v 0) ma_nil))))))) (mw_or1 (mt_ne hu (m_v 2) (m_v 3))))))
        (ms_one (m_ret m_bl))
        ms_nil))))
    (ms_one (m_ret m_bl))))
abbrev s__law_gathered : Stmt := top 11
theorem sc__law_gathered : FnScope ["_law_terms", "_law_counts", "_law_places", "_law_number", "_law_sign", "_law_j", "_law_k", "_law_rising"] ["_law_terms"] (defScope s__law_gathered) := ⟨rfl, rfl, rfl, by decide +kernel, rfl, by decide +kernel, by decide +kernel⟩
def f__law_gathered : FS :=
    (seqS (setS 1 (dnewE))
    (seqS (forS (lstI (vE 0)) (.tp [.nm 2, .nm 3])
      (seqS (setS 4 (cE (.int 1)))
      (seqS (forS (rng1I (lenE (vE 2))) (.nm 5)
        (forS (rng1I (vE 5)) (.nm 6)
          (seqS (ifS (bT (gtE (idxE (vE 2) (vE 6)) (idxE (vE 2) (vE 5))))
            (setS 4 (subE (cE (.int 0)) (vE 4)))
            nilS)
          (ifS (bT (eqE (idxE (vE 2) (vE 6)) (idxE (vE 2) (vE 5))))
            (setS 3 (cE (.int 0)))
            nilS))))
      (seqS (setS 7 (tofE (srtIE (vE 2))))
      (dputS 1 (vE 7) (addE (dgtE (vE 1) (vE 7) (cE (.int 0))) (mulE (vE 4) (vE 3))))))))
    (retS (srtPE (cmpI (vE 1) 2 (.tp [.nm 0, .nm 1]) (Mir.bIf (bT (neE (vE 1) (cE (.int 0)))) (tupE [vE 0, vE 1])))))))
def w__law_gathered : Φ := defR 1 8 f__law_gathered
theorem c__law_gathered (B : Blt mg)  (F : FunAt K mg "_law_gathered" s__law_gathered ["_law_terms"]) : Callee Pg w K mg base (CXM Pg w) (k + 1) "_law_gathered" ["_law_terms"] (spM K (clK K) w__law_gathered) := by
  have nd := sc__law_gathered.nd
  refine m_defX F sc__law_gathered fun f cdv A outer s H E hr => ?_
  have hu := hr.units
  exact (ms_cons (m_set (i := 1) nd rfl (Or.inl rfl) m_dnew)
    (ms_cons (m_for passX rfl (mi_lst (m_v 0)) (mg_tp rfl (mgs_cons (mg_nm nd rfl (Or.inl rfl)) (mgs_cons (mg_nm nd rfl (Or.inl rfl)) mgs_nil)))
      (ms_cons (m_set (i := 4) nd rfl (Or.inl rfl) m_int)
      (ms_cons (m_for passX rfl (mi_rng1 rfl B.range_ (m_len rfl B.len_ (m_v 2))) (mg_nm nd rfl (Or.inl rfl))
        (ms_one (m_for passX rfl (mi_rng1 rfl B.range_ (m_v 5)) (mg_nm nd rfl (Or.inl rfl))
          (ms_cons (m_ifS (mt_gt (m_idx (m_v 2) (m_v 6)) (m_idx (m_v 2) (m_v 5)))
            (ms_one (m_set (i := 4) nd rfl (Or.inl rfl) (m_sub m_int (m_v 4))))
            ms_nil)
          (ms_one (m_ifS (mt_eq hu (m_idx (m_v 2) (m_v 6)) (m_idx (m_v 2) (m_v 5)))
            (ms_one (m_set (i := 3) nd rfl (Or.inl rfl) m_int))
            ms_nil))))))
      (ms_cons (m_set (i := 7) nd rfl (Or.inl rfl) (m_tof rfl B.tuple_ (m_srtI rfl B.sorted_ (m_v 2))))
      (ms_one (m_dput (i := 1) hu rfl (Or.inl rfl) (m_v 7) (m_add (m_dgt hu (m_v 1) (m_v 7) m_int) (m_mul (m_v 4) (m_v 3)))))))))
    (ms_one (m_ret (m_srtP hu rfl B.sorted_ (m_compI rfl (compOk_def (XN := ["_law_terms", "_law_counts", "_law_places", "_law_number", "_law_sign", "_law_j", "_law_k", "_law_rising"]) (N := ["_law_places", "_law_number"]) (k := 2) (fs := []) rfl rfl rfl (by decide +kernel)) (m_v 1) (fun _ _ _ => (mg_tp rfl (mgs_cons (mg_nm (show (["_law_places", "_law_number"] : List Str).Nodup by decide +kernel) rfl (Or.inl rfl)) (mgs_cons (mg_nm (show (["_law_places", "_law_number"] : List Str).Nodup by decide +kernel) rfl (Or.inl rfl)) mgs_nil)))) (glow rfl) (fun _ _ _ => mb_if (mt_ne hu (m_v 1) m_int) (m_tup (ma_cons (m_v 0) (ma_cons (m_v 1) ma_nil))))))))))
abbrev s__law_product : Stmt := top 12
theorem sc__law_product : FnScope ["_law_one", "_law_other", "_law_terms", "_law_left", "_law_first", "_law_right", "_law_second"] ["_law_one", "_law_other"] (defScope s__law_product) := ⟨rfl, rfl, rfl, by decide +kernel, rfl, by decide +kernel, by decide +kernel⟩
def f__law_product : FS :=
    (seqS (setS 2 (lstE []))
    (seqS (forS (lstI (vE 0)) (.tp [.nm 3, .nm 4])
      (forS (lstI (vE 1)) (.tp [.nm 5, .nm 6])
        (appS 2 (tupE [catUE (vE 3) (vE 5), mulE (vE 4) (vE 6)]))))
    (retS (callE w__law_gathered [vE 2]))))
def w__law_product : Φ := defR 2 7 f__law_product
theorem c__law_product (B : Blt mg) (c__law_gathered : Callee Pg w K mg base (CXM Pg w) k "_law_gathered" ["_law_terms"] (spM K (clK K) w__law_gathered)) (F : FunAt K mg "_law_product" s__law_product ["_law_one", "_law_other"]) : Callee Pg w K mg base (CXM Pg w) (k + 1) "_law_product" ["_law_one", "_law_other"] (spM K (clK K) w__law_product) := by
  have nd := sc__law_product.nd
  refine m_defX F sc__law_product fun f cdv A outer s H E hr => ?_
  have hu := hr.units
  exact (ms_cons (m_set (i := 2) nd rfl (Or.inl rfl) (m_lst ma_nil))
    (ms_cons (m_for passX rfl (mi_lst (m_v 0)) (mg_tp rfl (mgs_cons (mg_nm nd rfl (Or.inl rfl)) (mgs_cons (mg_nm nd rfl (Or.inl rfl)) mgs_nil)))
      (ms_one (m_for passX rfl (mi_lst (m_v 1)) (mg_tp rfl (mgs_cons (mg_nm nd rfl (Or.inl rfl)) (mgs_cons (mg_nm nd rfl (Or.inl rfl)) mgs_nil)))
        (ms_one (m_app (i := 2) rfl (Or.inl rfl) (m_tup (ma_cons (m_catU (m_v 3) (m_v 5)) (ma_cons (m_mul (m_v 4) (m_v 6)) ma_nil))))))))
    (ms_one (m_ret (m_call c__law_gathered hr rfl thrX (ma_cons (m_v 2) ma_nil))))))
abbrev s__law_chosen : Stmt := top 13
theorem sc__law_chosen : FnScope ["_law_cell_here", "_law_far", "_law_many", "_law_size", "_law_left", "_law_found", "_law_k"] ["_law_cell_here", "_law_far", "_law_many", "_law_size"] (defScope s__law_chosen) := ⟨rfl, rfl, rfl, by decide +kernel, rfl, by decide +kernel, by decide +kernel⟩
def f__law_chosen : FS :=
    (seqS (setS 4 (lrngE (vE 2)))
    (seqS (setS 5 (lstE []))
    (seqS (forS (rng1I (vE 3)) (.nm 6)
      (popApp 5 4 (callE w__law_thing [vE 0, addE (vE 1) (vE 6), lenE (vE 4)])))
    (retS (tofE (vE 5))))))
def w__law_chosen : Φ := defR 4 7 f__law_chosen
theorem c__law_chosen (B : Blt mg) (c__law_thing : Callee Pg w K mg base (CXM Pg w) k "_law_thing" ["_law_cell_here", "_law_k", "_law_many"] (spM K (clK K) w__law_thing)) (F : FunAt K mg "_law_chosen" s__law_chosen ["_law_cell_here", "_law_far", "_law_many", "_law_size"]) : Callee Pg w K mg base (CXM Pg w) (k + 1) "_law_chosen" ["_law_cell_here", "_law_far", "_law_many", "_law_size"] (spM K (clK K) w__law_chosen) := by
  have nd := sc__law_chosen.nd
  refine m_defX F sc__law_chosen fun f cdv A outer s H E hr => ?_
  have hu := hr.units
  exact (ms_cons (m_set (i := 4) nd rfl (Or.inl rfl) (m_lrng rfl rfl B.list_ rfl B.range_ (m_v 2)))
    (ms_cons (m_set (i := 5) nd rfl (Or.inl rfl) (m_lst ma_nil))
    (ms_cons (m_for passX rfl (mi_rng1 rfl B.range_ (m_v 3)) (mg_nm nd rfl (Or.inl rfl))
      (ms_one (m_popApp (j := 5) (i := 4) rfl rfl (Or.inl rfl) (Or.inl rfl) (m_call c__law_thing hr rfl thrX (ma_cons (m_v 0) (ma_cons (m_add (m_v 1) (m_v 6)) (ma_cons (m_len rfl B.len_ (m_v 4)) ma_nil)))))))
    (ms_one (m_ret (m_tof rfl B.tuple_ (m_v 5)))))))
abbrev s__law_digit_term : Stmt := top 14
theorem sc__law_digit_term : FnScope ["_law_cell_here", "_law_many", "_law_size", "_law_left", "_law_found", "_law_k", "_law_place"] ["_law_cell_here", "_law_many", "_law_size"] (defScope s__law_digit_term) := ⟨rfl, rfl, rfl, by decide +kernel, rfl, by decide +kernel, by decide +kernel⟩
def f__law_digit_term : FS :=
    (seqS (setS 3 (lrngE (vE 1)))
    (seqS (setS 4 (lstE []))
    (seqS (forS (rng1I (vE 2)) (.nm 5)
      (seqS (setS 6 (modE (vE 0) (lenE (vE 3))))
      (seqS (setS 0 (fdvE (vE 0) (lenE (vE 3))))
      (popApp 4 3 (vE 6)))))
    (retS (tupE [tofE (vE 4), subE (modE (vE 0) (addE (mulE (cE (.int 2)) (powE (cE (.int 10)) (cE (.int 9)))) (cE (.int 1)))) (powE (cE (.int 10)) (cE (.int 9)))])))))
def w__law_digit_term : Φ := defR 3 7 f__law_digit_term
theorem c__law_digit_term (B : Blt mg)  (F : FunAt K mg "_law_digit_term" s__law_digit_term ["_law_cell_here", "_law_many", "_law_size"]) : Callee Pg w K mg base (CXM Pg w) (k + 1) "_law_digit_term" ["_law_cell_here", "_law_many", "_law_size"] (spM K (clK K) w__law_digit_term) := by
  have nd := sc__law_digit_term.nd
  refine m_defX F sc__law_digit_term fun f cdv A outer s H E hr => ?_
  have hu := hr.units
  exact (ms_cons (m_set (i := 3) nd rfl (Or.inl rfl) (m_lrng rfl rfl B.list_ rfl B.range_ (m_v 1)))
    (ms_cons (m_set (i := 4) nd rfl (Or.inl rfl) (m_lst ma_nil))
    (ms_cons (m_for passX rfl (mi_rng1 rfl B.range_ (m_v 2)) (mg_nm nd rfl (Or.inl rfl))
      (ms_cons (m_set (i := 6) nd rfl (Or.inl rfl) (m_mod (m_v 0) (m_len rfl B.len_ (m_v 3))))
      (ms_cons (m_set (i := 0) nd rfl (Or.inl rfl) (m_fdv (m_v 0) (m_len rfl B.len_ (m_v 3))))
      (ms_one (m_popApp (j := 4) (i := 3) rfl rfl (Or.inl rfl) (Or.inl rfl) (m_v 6))))))
    (ms_one (m_ret (m_tup (ma_cons (m_tof rfl B.tuple_ (m_v 4)) (ma_cons (m_sub (m_mod (m_v 0) (m_add (m_mul m_int (m_pow m_int m_int)) m_int)) (m_pow m_int m_int)) ma_nil))))))))
abbrev s__law_drawn_sum : Stmt := top 15
theorem sc__law_drawn_sum : FnScope ["_law_cells", "_law_many", "_law_size", "_law_far", "_law_terms", "_law_cell_here", "_law_number"] ["_law_cells", "_law_many", "_law_size", "_law_far"] (defScope s__law_drawn_sum) := ⟨rfl, rfl, rfl, by decide +kernel, rfl, by decide +kernel, by decide +kernel⟩
def f__law_drawn_sum : FS :=
    (seqS (setS 4 (lstE []))
    (seqS (forS (lstI (vE 0)) (.nm 5)
      (ifS (bT (eqE (modE (vE 5) (cE (.int 2))) (cE (.int 1))))
        (appS 4 (callE w__law_digit_term [fdvE (vE 5) (cE (.int 2)), vE 1, vE 2]))
        (seqS (setS 6 (idxE (lstE [subE (modE (fdvE (vE 5) (cE (.int 8))) (cE (.int 7))) (cE (.int 3)), modE (fdvE (vE 5) (cE (.int 8))) (powE (cE (.int 10)) (cE (.int 9))), subE (cE (.int 0)) (modE (fdvE (vE 5) (cE (.int 8))) (powE (cE (.int 10)) (cE (.int 9))))]) (modE (modE (fdvE (vE 5) (cE (.int 2))) (cE (.int 4))) (cE (.int 3)))))
        (appS 4 (tupE [callE w__law_chosen [fdvE (vE 5) (cE (.int 2)), vE 3, vE 1, vE 2], vE 6])))))
    (retS (callE w__law_gathered [vE 4]))))
def w__law_drawn_sum : Φ := defR 4 7 f__law_drawn_sum
theorem c__law_drawn_sum (B : Blt mg) (c__law_digit_term : Callee Pg w K mg base (CXM Pg w) k "_law_digit_term" ["_law_cell_here", "_law_many", "_law_size"] (spM K (clK K) w__law_digit_term)) (c__law_chosen : Callee Pg w K mg base (CXM Pg w) k "_law_chosen" ["_law_cell_here", "_law_far", "_law_many", "_law_size"] (spM K (clK K) w__law_chosen)) (c__law_gathered : Callee Pg w K mg base (CXM Pg w) k "_law_gathered" ["_law_terms"] (spM K (clK K) w__law_gathered)) (F : FunAt K mg "_law_drawn_sum" s__law_drawn_sum ["_law_cells", "_law_many", "_law_size", "_law_far"]) : Callee Pg w K mg base (CXM Pg w) (k + 1) "_law_drawn_sum" ["_law_cells", "_law_many", "_law_size", "_law_far"] (spM K (clK K) w__law_drawn_sum) := by
  have nd := sc__law_drawn_sum.nd
  refine m_defX F sc__law_drawn_sum fun f cdv A outer s H E hr => ?_
  have hu := hr.units
  exact (ms_cons (m_set (i := 4) nd rfl (Or.inl rfl) (m_lst ma_nil))
    (ms_cons (m_for passX rfl (mi_lst (m_v 0)) (mg_nm nd rfl (Or.inl rfl))
      (ms_one (m_ifS (mt_eq hu (m_mod (m_v 5) m_int) m_int)
        (ms_one (m_app (i := 4) rfl (Or.inl rfl) (m_call c__law_digit_term hr rfl thrX (ma_cons (m_fdv (m_v 5) m_int) (ma_cons (m_v 1) (ma_cons (m_v 2) ma_nil))))))
        (ms_cons (m_set (i := 6) nd rfl (Or.inl rfl) (m_idx (m_lst (ma_cons (m_sub (m_mod (m_fdv (m_v 5) m_int) m_int) m_int) (ma_cons (m_mod (m_fdv (m_v 5) m_int) (m_pow m_int m_int)) (ma_cons (m_sub m_int (m_mod (m_fdv (m_v 5) m_int) (m_pow m_int m_int))) ma_nil)))) (m_mod (m_mod (m_fdv (m_v 5) m_int) m_int) m_int)))
        (ms_one (m_app (i := 4) rfl (Or.inl rfl) (m_tup (ma_cons (m_call c__law_chosen hr rfl thrX (ma_cons (m_fdv (m_v 5) m_int) (ma_cons (m_v 3) (ma_cons (m_v 1) (ma_cons (m_v 2) ma_nil))))) (ma_cons (m_v 6) ma_nil)))))))))
    (ms_one (m_ret (m_call c__law_gathered hr rfl thrX (ma_cons (m_v 4) ma_nil))))))
abbrev s__law_good : Stmt := top 16
theorem sc__law_good : FnScope ["_law_one", "_law_other", "_law_third", "_law_by", "_law_due"] ["_law_one", "_law_other", "_law_third", "_law_by"] (defScope s__law_good) := ⟨rfl, rfl, rfl, by decide +kernel, rfl, by decide +kernel, by decide +kernel⟩
def f__law_good : FS :=
    (seqS (ifS (notT (bT (callE w__law_same_sum [callE w_added [vE 0, vE 1], callE w__law_gathered [catE (vE 0) (vE 1)]])))
      (retS (cE (.bl false)))
      nilS)
    (seqS (setS 4 (callE w__law_gathered [cmpE' (lstI (vE 0)) 2 [3] (.tp [.nm 0, .nm 1]) (bE (tupE [vE 0, mulE (vE 1) (vE 2)]))]))
    (seqS (ifS (notT (bT (callE w__law_same_sum [callE w_taken [vE 0, vE 3], vE 4])))
      (retS (cE (.bl false)))
      nilS)
    (retS (callE w__law_same_sum [callE w_product [vE 0, vE 2], callE w__law_product [vE 0, vE 2]])))))
def w__law_good : Φ := defR 4 5 f__law_good
theorem c__law_good (B : Blt mg) (c__law_same_sum : Callee Pg w K mg base (CXM Pg w) k "_law_same_sum" ["_law_found", "_law_due"] (spM K (clK K) w__law_same_sum)) (c_added : Callee Pg w K mg base (CXM Pg w) k "added" ["one", "other"] (spM K (clK K) w_added)) (c__law_gathered : Callee Pg w K mg base (CXM Pg w) k "_law_gathered" ["_law_terms"] (spM K (clK K) w__law_gathered)) (c_taken : Callee Pg w K mg base (CXM Pg w) k "taken" ["some", "many"] (spM K (clK K) w_taken)) (c_product : Callee Pg w K mg base (CXM Pg w) k "product" ["one", "other"] (spM K (clK K) w_product)) (c__law_product : Callee Pg w K mg base (CXM Pg w) k "_law_product" ["_law_one", "_law_other"] (spM K (clK K) w__law_product)) (F : FunAt K mg "_law_good" s__law_good ["_law_one", "_law_other", "_law_third", "_law_by"]) : Callee Pg w K mg base (CXM Pg w) (k + 1) "_law_good" ["_law_one", "_law_other", "_law_third", "_law_by"] (spM K (clK K) w__law_good) := by
  have nd := sc__law_good.nd
  refine m_defX F sc__law_good fun f cdv A outer s H E hr => ?_
  have hu := hr.units
  exact (ms_cons (m_ifS (mt_not (mt_val (m_call c__law_same_sum hr rfl thrX (ma_cons (m_call c_added hr rfl thrX (ma_cons (m_v 0) (ma_cons (m_v 1) ma_nil))) (ma_cons (m_call c__law_gathered hr rfl thrX (ma_cons (m_cat (m_v 0) (m_v 1)) ma_nil)) ma_nil)))))
      (ms_one (m_ret m_bl))
      ms_nil)
    (ms_cons (m_set (i := 4) nd rfl (Or.inl rfl) (m_call c__law_gathered hr rfl thrX (ma_cons (m_comp rfl (compOk_def (XN := ["_law_one", "_law_other", "_law_third", "_law_by", "_law_due"]) (N := ["_law_places", "_law_number", "_law_by"]) (k := 2) (fs := [3]) rfl rfl rfl (by decide +kernel)) (mi_lst (m_v 0)) (fun _ _ _ => (mg_tp rfl (mgs_cons (mg_nm (show (["_law_places", "_law_number", "_law_by"] : List Str).Nodup by decide +kernel) rfl (Or.inl rfl)) (mgs_cons (mg_nm (show (["_law_places", "_law_number", "_law_by"] : List Str).Nodup by decide +kernel) rfl (Or.inl rfl)) mgs_nil)))) (glow rfl) (fun _ _ _ => mb_elt (m_tup (ma_cons (m_v 0) (ma_cons (m_mul (m_v 1) (m_v 2)) ma_nil))))) ma_nil)))
    (ms_cons (m_ifS (mt_not (mt_val (m_call c__law_same_sum hr rfl thrX (ma_cons (m_call c_taken hr rfl thrX (ma_cons (m_v 0) (ma_cons (m_v 3) ma_nil))) (ma_cons (m_v 4) ma_nil)))))
      (ms_one (m_ret m_bl))
      ms_nil)
    (ms_one (m_ret (m_call c__law_same_sum hr rfl thrX (ma_cons (m_call c_product hr rfl thrX (ma_cons (m_v 0) (ma_cons (m_v 2) ma_nil))) (ma_cons (m_call c__law_product hr rfl thrX (ma_cons (m_v 0) (ma_cons (m_v 2) ma_nil))) ma_nil))))))))
abbrev s_law : Stmt := top 17
theorem sc_law : FnScope ["_law_script", "_law_many", "_law_size", "_law_more", "_law_part", "_law_one", "_law_other", "_law_third", "_law_by", "_law_kept", "_law_nothing", "_law_unit", "_law_some"] ["_law_script"] (defScope s_law) := ⟨rfl, rfl, rfl, by decide +kernel, rfl, by decide +kernel, by decide +kernel⟩
def f_law : FS :=
    (seqS (setS 1 (addE (cE (.int 1)) (modE (callE w__law_cell [vE 0, cE (.int 0)]) (cE (.int 5)))))
    (seqS (setS 2 (modE (callE w__law_cell [vE 0, cE (.int 1)]) (addE (vE 1) (cE (.int 1)))))
    (seqS (setS 3 (modE (fdvE (callE w__law_cell [vE 0, cE (.int 1)]) (cE (.int 6))) (addE (vE 1) (cE (.int 1)))))
    (seqS (setS 4 (minE (cE (.int 12)) (fdvE (lenE (slcE (vE 0) (soO (cE (.int 3))) (noO))) (cE (.int 3)))))
    (seqS (setS 5 (callE w__law_drawn_sum [slcE (vE 0) (soO (cE (.int 3))) (soO (addE (cE (.int 3)) (vE 4))), vE 1, vE 2, cE (.int 3)]))
    (seqS (setS 6 (callE w__law_drawn_sum [slcE (vE 0) (soO (addE (cE (.int 3)) (vE 4))) (soO (addE (cE (.int 3)) (mulE (cE (.int 2)) (vE 4)))), vE 1, vE 2, cE (.int 13)]))
    (seqS (setS 7 (callE w__law_drawn_sum [slcE (vE 0) (soO (addE (cE (.int 3)) (mulE (cE (.int 2)) (vE 4)))) (soO (addE (cE (.int 3)) (mulE (cE (.int 3)) (vE 4)))), vE 1, vE 3, cE (.int 23)]))
    (seqS (setS 8 (subE (modE (callE w__law_cell [vE 0, cE (.int 2)]) (powE (cE (.int 10)) (cE (.int 5)))) (mulE (cE (.int 5)) (powE (cE (.int 10)) (cE (.int 4))))))
    (seqS (ifS (bT (eqE (modE (callE w__law_cell [vE 0, cE (.int 2)]) (cE (.int 3))) (cE (.int 1))))
      (setS 8 (mulE (vE 8) (addE (powE (cE (.int 10)) (cE (.int 15))) (cE (.int 7)))))
      nilS)
    (seqS (setS 9 (lstE [lofE (vE 5), lofE (vE 6), lofE (vE 7)]))
    (seqS (setS 10 (lstE []))
    (seqS (setS 11 (lstE [tupE [tupE [], cE (.int 1)]]))
    (seqS (ifS (orT (notT (bT (callE w__law_good [vE 5, vE 6, vE 7, vE 8]))) (notT (bT (callE w__law_good [vE 6, vE 5, vE 5, cE (.int 1)]))))
      (retS (cE (.bl false)))
      nilS)
    (seqS (ifS (orT (notT (bT (callE w__law_good [vE 7, vE 10, vE 5, cE (.int 0)]))) (notT (bT (callE w__law_good [vE 10, vE 5, vE 7, vE 8]))))
      (retS (cE (.bl false)))
      nilS)
    (seqS (ifS (orT (notT (bT (callE w__law_same_sum [callE w_product [vE 11, vE 5], vE 5]))) (notT (bT (callE w__law_same_sum [callE w_product [vE 5, vE 11], vE 5]))))
      (retS (cE (.bl false)))
      nilS)
    (seqS (frzS 6 (frzS 10 (forS (lstI (lstE [vE 10, vE 6])) (.nm 12)
      (seqS (appT (callE w_added [vE 5, vE 12]) (idxE (vE 11) (cE (.int 0))))
      (appT (callE w_added [vE 12, vE 5]) (idxE (vE 11) (cE (.int 0))))))))
    (seqS (appT (callE w_taken [vE 5, cE (.int 1)]) (idxE (vE 11) (cE (.int 0))))
    (seqS (appT (callE w_product [vE 5, vE 11]) (idxE (vE 11) (cE (.int 0))))
    (seqS (appT (callE w_product [vE 11, vE 5]) (idxE (vE 11) (cE (.int 0))))
    (seqS (ifS (orT (bT (neE (vE 10) (lstE []))) (bT (neE (vE 11) (lstE [tupE [tupE [], cE (.int 1)]]))))
      (retS (cE (.bl false)))
      nilS)
    (frzS 7 (frzS 6 (frzS 5 (retS (andE (eqE (lstE [vE 5, vE 6, vE 7]) (vE 9)) (callE w__law_good [vE 5, vE 6, vE 7, vE 8]))))))))))))))))))))))))))
def w_law : Φ := defR 1 13 f_law
theorem c_law (B : Blt mg) (c__law_cell : Callee Pg w K mg base (CXM Pg w) k "_law_cell" ["_law_script", "_law_k"] (spM K (clK K) w__law_cell)) (c__law_drawn_sum : Callee Pg w K mg base (CXM Pg w) k "_law_drawn_sum" ["_law_cells", "_law_many", "_law_size", "_law_far"] (spM K (clK K) w__law_drawn_sum)) (c__law_good : Callee Pg w K mg base (CXM Pg w) k "_law_good" ["_law_one", "_law_other", "_law_third", "_law_by"] (spM K (clK K) w__law_good)) (c__law_same_sum : Callee Pg w K mg base (CXM Pg w) k "_law_same_sum" ["_law_found", "_law_due"] (spM K (clK K) w__law_same_sum)) (c_product : Callee Pg w K mg base (CXM Pg w) k "product" ["one", "other"] (spM K (clK K) w_product)) (c_added : Callee Pg w K mg base (CXM Pg w) k "added" ["one", "other"] (spM K (clK K) w_added)) (c_taken : Callee Pg w K mg base (CXM Pg w) k "taken" ["some", "many"] (spM K (clK K) w_taken)) {fa : Addr} {fd : FuncData} (F : Fun K "law" "law" s_law fa fd) : FnOk Pg w K mg base (CXM Pg w) (k + 1) fa fd ["_law_script"] (spM K (clK K) w_law) := by
  have nd := sc_law.nd
  refine m_fnX F sc_law fun f cdv A outer s H E hr => ?_
  have hu := hr.units
  exact (ms_cons (m_set (i := 1) nd rfl (Or.inl rfl) (m_add m_int (m_mod (m_call c__law_cell hr rfl thrX (ma_cons (m_v 0) (ma_cons m_int ma_nil))) m_int)))
    (ms_cons (m_set (i := 2) nd rfl (Or.inl rfl) (m_mod (m_call c__law_cell hr rfl thrX (ma_cons (m_v 0) (ma_cons m_int ma_nil))) (m_add (m_v 1) m_int)))
    (ms_cons (m_set (i := 3) nd rfl (Or.inl rfl) (m_mod (m_fdv (m_call c__law_cell hr rfl thrX (ma_cons (m_v 0) (ma_cons m_int ma_nil))) m_int) (m_add (m_v 1) m_int)))
    (ms_cons (m_set (i := 4) nd rfl (Or.inl rfl) (m_min rfl rfl B.min_ m_int (m_fdv (m_len rfl B.len_ (m_slc (m_v 0) (mo_so m_int) mo_no)) m_int)))
    (ms_cons (m_set (i := 5) nd rfl (Or.inl rfl) (m_call c__law_drawn_sum hr rfl thrX (ma_cons (m_slc (m_v 0) (mo_so m_int) (mo_so (m_add m_int (m_v 4)))) (ma_cons (m_v 1) (ma_cons (m_v 2) (ma_cons m_int ma_nil))))))
    (ms_cons (m_set (i := 6) nd rfl (Or.inl rfl) (m_call c__law_drawn_sum hr rfl thrX (ma_cons (m_slc (m_v 0) (mo_so (m_add m_int (m_v 4))) (mo_so (m_add m_int (m_mul m_int (m_v 4))))) (ma_cons (m_v 1) (ma_cons (m_v 2) (ma_cons m_int ma_nil))))))
    (ms_cons (m_set (i := 7) nd rfl (Or.inl rfl) (m_call c__law_drawn_sum hr rfl thrX (ma_cons (m_slc (m_v 0) (mo_so (m_add m_int (m_mul m_int (m_v 4)))) (mo_so (m_add m_int (m_mul m_int (m_v 4))))) (ma_cons (m_v 1) (ma_cons (m_v 3) (ma_cons m_int ma_nil))))))
    (ms_cons (m_set (i := 8) nd rfl (Or.inl rfl) (m_sub (m_mod (m_call c__law_cell hr rfl thrX (ma_cons (m_v 0) (ma_cons m_int ma_nil))) (m_pow m_int m_int)) (m_mul m_int (m_pow m_int m_int))))
    (ms_cons (m_ifS (mt_eq hu (m_mod (m_call c__law_cell hr rfl thrX (ma_cons (m_v 0) (ma_cons m_int ma_nil))) m_int) m_int)
      (ms_one (m_set (i := 8) nd rfl (Or.inl rfl) (m_mul (m_v 8) (m_add (m_pow m_int m_int) m_int))))
      ms_nil)
    (ms_cons (m_set (i := 9) nd rfl (Or.inl rfl) (m_lst (ma_cons (m_lof rfl B.list_ (m_v 5)) (ma_cons (m_lof rfl B.list_ (m_v 6)) (ma_cons (m_lof rfl B.list_ (m_v 7)) ma_nil)))))
    (ms_cons (m_set (i := 10) nd rfl (Or.inl rfl) (m_lst ma_nil))
    (ms_cons (m_set (i := 11) nd rfl (Or.inl rfl) (m_lst (ma_cons (m_tup (ma_cons (m_tup ma_nil) (ma_cons m_int ma_nil))) ma_nil)))
    (ms_cons (m_ifS (PW.pt (mw_or (mt_not (mt_val (m_call c__law_good hr rfl thrX (ma_cons (m_v 5) (ma_cons (m_v 6) (ma_cons (m_v 7) (ma_cons (m_v 8) ma_nil))))))) (mw_or1 (mt_not (mt_val (m_call c__law_good hr rfl thrX (ma_cons (m_v 6) (ma_cons (m_v 5) (ma_cons (m_v 5) (ma_cons m_int ma_nil))))))))))
      (ms_one (m_ret m_bl))
      ms_nil)
    (ms_cons (m_ifS (PW.pt (mw_or (mt_not (mt_val (m_call c__law_good hr rfl thrX (ma_cons (m_v 7) (ma_cons (m_v 10) (ma_cons (m_v 5) (ma_cons m_int ma_nil))))))) (mw_or1 (mt_not (mt_val (m_call c__law_good hr rfl thrX (ma_cons (m_v 10) (ma_cons (m_v 5) (ma_cons (m_v 7) (ma_cons (m_v 8) ma_nil))))))))))
      (ms_one (m_ret m_bl))
      ms_nil)
    (ms_cons (m_ifS (PW.pt (mw_or (mt_not (mt_val (m_call c__law_same_sum hr rfl thrX (ma_cons (m_call c_product hr rfl thrX (ma_cons (m_v 11) (ma_cons (m_v 5) ma_nil))) (ma_cons (m_v 5) ma_nil))))) (mw_or1 (mt_not (mt_val (m_call c__law_same_sum hr rfl thrX (ma_cons (m_call c_product hr rfl thrX (ma_cons (m_v 5) (ma_cons (m_v 11) ma_nil))) (ma_cons (m_v 5) ma_nil))))))))
      (ms_one (m_ret m_bl))
      ms_nil)
    (ms_cons (m_frz (i := 6) (m_frz (i := 10) (m_for passX rfl (mi_lst (m_lst (ma_cons (m_v 10) (ma_cons (m_v 6) ma_nil)))) (mg_nm nd rfl (Or.inl rfl))
      (ms_cons (m_appT (m_call c_added hr rfl thrX (ma_cons (m_v 5) (ma_cons (m_v 12) ma_nil))) (m_idx (m_v 11) m_int))
      (ms_one (m_appT (m_call c_added hr rfl thrX (ma_cons (m_v 12) (ma_cons (m_v 5) ma_nil))) (m_idx (m_v 11) m_int)))))))
    (ms_cons (m_appT (m_call c_taken hr rfl thrX (ma_cons (m_v 5) (ma_cons m_int ma_nil))) (m_idx (m_v 11) m_int))
    (ms_cons (m_appT (m_call c_product hr rfl thrX (ma_cons (m_v 5) (ma_cons (m_v 11) ma_nil))) (m_idx (m_v 11) m_int))
    (ms_cons (m_appT (m_call c_product hr rfl thrX (ma_cons (m_v 11) (ma_cons (m_v 5) ma_nil))) (m_idx (m_v 11) m_int))
    (ms_cons (m_ifS (PW.pt (mw_or (mt_ne hu (m_v 10) (m_lst ma_nil)) (mw_or1 (mt_ne hu (m_v 11) (m_lst (ma_cons (m_tup (ma_cons (m_tup ma_nil) (ma_cons m_int ma_nil))) ma_nil))))))
      (ms_one (m_ret m_bl))
      ms_nil)
    (ms_one (m_frz (i := 7) (m_frz (i := 6) (m_frz (i := 5) (m_ret (m_and (m_eq hu (m_lst (ma_cons (m_v 5) (ma_cons (m_v 6) (ma_cons (m_v 7) ma_nil)))) (m_v 9)) (m_one (m_call c__law_good hr rfl thrX (ma_cons (m_v 5) (ma_cons (m_v 6) (ma_cons (m_v 7) (ma_cons (m_v 8) ma_nil))))))))))))))))))))))))))))))))
end
theorem all_mk {l : PySem.W.OpenLaw} {w : World} {K : PySem.W.Frag} {h : Heap} {mg : Str → Option Value} {fa : Addr} (X : K.In h) (G : h.Ns mainGlobals mg) (hfa : mg "law" = some (.ref fa))
    {f0 : Addr} {oc0 kV0 dc0 pm0 cd0 ct0 : Value} {od0 an0 : Option Addr} {sl0 : Array (Option Value)} (a0 : At K "turn_of" s_turn_of f0 oc0 kV0 dc0 pm0 cd0 ct0 od0 an0 sl0)
    {f1 : Addr} {oc1 kV1 dc1 pm1 cd1 ct1 : Value} {od1 an1 : Option Addr} {sl1 : Array (Option Value)} (a1 : At K "summed" s_summed f1 oc1 kV1 dc1 pm1 cd1 ct1 od1 an1 sl1)
    {f2 : Addr} {oc2 kV2 dc2 pm2 cd2 ct2 : Value} {od2 an2 : Option Addr} {sl2 : Array (Option Value)} (a2 : At K "added" s_added f2 oc2 kV2 dc2 pm2 cd2 ct2 od2 an2 sl2)
    {f3 : Addr} {oc3 kV3 dc3 pm3 cd3 ct3 : Value} {od3 an3 : Option Addr} {sl3 : Array (Option Value)} (a3 : At K "taken" s_taken f3 oc3 kV3 dc3 pm3 cd3 ct3 od3 an3 sl3)
    {f4 : Addr} {oc4 kV4 dc4 pm4 cd4 ct4 : Value} {od4 an4 : Option Addr} {sl4 : Array (Option Value)} (a4 : At K "product" s_product f4 oc4 kV4 dc4 pm4 cd4 ct4 od4 an4 sl4)
    {f5 : Addr} {oc5 kV5 dc5 pm5 cd5 ct5 : Value} {od5 an5 : Option Addr} {sl5 : Array (Option Value)} (a5 : At K "_law_whole" s__law_whole f5 oc5 kV5 dc5 pm5 cd5 ct5 od5 an5 sl5)
    {f6 : Addr} {oc6 kV6 dc6 pm6 cd6 ct6 : Value} {od6 an6 : Option Addr} {sl6 : Array (Option Value)} (a6 : At K "_law_cell" s__law_cell f6 oc6 kV6 dc6 pm6 cd6 ct6 od6 an6 sl6)
    {f7 : Addr} {oc7 kV7 dc7 pm7 cd7 ct7 : Value} {od7 an7 : Option Addr} {sl7 : Array (Option Value)} (a7 : At K "_law_thing" s__law_thing f7 oc7 kV7 dc7 pm7 cd7 ct7 od7 an7 sl7)
    {f8 : Addr} {oc8 kV8 dc8 pm8 cd8 ct8 : Value} {od8 an8 : Option Addr} {sl8 : Array (Option Value)} (a8 : At K "_law_same_sum" s__law_same_sum f8 oc8 kV8 dc8 pm8 cd8 ct8 od8 an8 sl8)
    {f9 : Addr} {oc9 kV9 dc9 pm9 cd9 ct9 : Value} {od9 an9 : Option Addr} {sl9 : Array (Option Value)} (a9 : At K "_law_gathered" s__law_gathered f9 oc9 kV9 dc9 pm9 cd9 ct9 od9 an9 sl9)
    {f10 : Addr} {oc10 kV10 dc10 pm10 cd10 ct10 : Value} {od10 an10 : Option Addr} {sl10 : Array (Option Value)} (a10 : At K "_law_product" s__law_product f10 oc10 kV10 dc10 pm10 cd10 ct10 od10 an10 sl10)
    {f11 : Addr} {oc11 kV11 dc11 pm11 cd11 ct11 : Value} {od11 an11 : Option Addr} {sl11 : Array (Option Value)} (a11 : At K "_law_chosen" s__law_chosen f11 oc11 kV11 dc11 pm11 cd11 ct11 od11 an11 sl11)
    {f12 : Addr} {oc12 kV12 dc12 pm12 cd12 ct12 : Value} {od12 an12 : Option Addr} {sl12 : Array (Option Value)} (a12 : At K "_law_digit_term" s__law_digit_term f12 oc12 kV12 dc12 pm12 cd12 ct12 od12 an12 sl12)
    {f13 : Addr} {oc13 kV13 dc13 pm13 cd13 ct13 : Value} {od13 an13 : Option Addr} {sl13 : Array (Option Value)} (a13 : At K "_law_drawn_sum" s__law_drawn_sum f13 oc13 kV13 dc13 pm13 cd13 ct13 od13 an13 sl13)
    {f14 : Addr} {oc14 kV14 dc14 pm14 cd14 ct14 : Value} {od14 an14 : Option Addr} {sl14 : Array (Option Value)} (a14 : At K "_law_good" s__law_good f14 oc14 kV14 dc14 pm14 cd14 ct14 od14 an14 sl14)
    {f15 : Addr} {oc15 kV15 dc15 pm15 cd15 ct15 : Value} {od15 an15 : Option Addr} {sl15 : Array (Option Value)} (a15 : At K "law" s_law f15 oc15 kV15 dc15 pm15 cd15 ct15 od15 an15 sl15)
    (z_len : PySem.W.nsIn K mainGlobals "len" = some none)
    (z_set : PySem.W.nsIn K mainGlobals "set" = some none)
    (z_enumerate : PySem.W.nsIn K mainGlobals "enumerate" = some none)
    (z_sorted : PySem.W.nsIn K mainGlobals "sorted" = some none)
    (z_tuple : PySem.W.nsIn K mainGlobals "tuple" = some none)
    (z_isinstance : PySem.W.nsIn K mainGlobals "isinstance" = some none)
    (z_bool : PySem.W.nsIn K mainGlobals "bool" = some none)
    (z_int : PySem.W.nsIn K mainGlobals "int" = some none)
    (z_list : PySem.W.nsIn K mainGlobals "list" = some none)
    (z_zip : PySem.W.nsIn K mainGlobals "zip" = some none)
    (z_all : PySem.W.nsIn K mainGlobals "all" = some none)
    (z_range : PySem.W.nsIn K mainGlobals "range" = some none)
    (z_min : PySem.W.nsIn K mainGlobals "min" = some none)
    : ∃ fd : FuncData, (∀ (s : Shared) (v : Value), BindsTo s fd ⟨[v], []⟩ [("_law_script", v)]) ∧ ∀ base : Heap, K.In base → base.Ns mainGlobals mg → FnOk l.prog w K mg base (CXM l.prog w) 5 fa fd ["_law_script"] (spM K (clK K) w_law) := by
  have B : Blt mg := ⟨PySem.W.mg_none_of X G z_len, PySem.W.mg_none_of X G z_set, PySem.W.mg_none_of X G z_enumerate, PySem.W.mg_none_of X G z_sorted, PySem.W.mg_none_of X G z_tuple, PySem.W.mg_none_of X G z_isinstance, PySem.W.mg_none_of X G z_bool, PySem.W.mg_none_of X G z_int, PySem.W.mg_none_of X G z_list, PySem.W.mg_none_of X G z_zip, PySem.W.mg_none_of X G z_all, PySem.W.mg_none_of X G z_range, PySem.W.mg_none_of X G z_min⟩
  have F_turn_of : FunAt K mg "turn_of" s_turn_of ["places"] := funAt_mk X G a0.ns a0.lk a0.cd a0.kp fun _ _ _ _ _ _ us hl => match us, hl with | [_], _ => rfl
  have F_summed : FunAt K mg "summed" s_summed ["terms"] := funAt_mk X G a1.ns a1.lk a1.cd a1.kp fun _ _ _ _ _ _ us hl => match us, hl with | [_], _ => rfl
  have F_added : FunAt K mg "added" s_added ["one", "other"] := funAt_mk X G a2.ns a2.lk a2.cd a2.kp fun _ _ _ _ _ _ us hl => match us, hl with | [_, _], _ => rfl
  have F_taken : FunAt K mg "taken" s_taken ["some", "many"] := funAt_mk X G a3.ns a3.lk a3.cd a3.kp fun _ _ _ _ _ _ us hl => match us, hl with | [_, _], _ => rfl
  have F_product : FunAt K mg "product" s_product ["one", "other"] := funAt_mk X G a4.ns a4.lk a4.cd a4.kp fun _ _ _ _ _ _ us hl => match us, hl with | [_, _], _ => rfl
  have F__law_whole : FunAt K mg "_law_whole" s__law_whole ["_law_found"] := funAt_mk X G a5.ns a5.lk a5.cd a5.kp fun _ _ _ _ _ _ us hl => match us, hl with | [_], _ => rfl
  have F__law_cell : FunAt K mg "_law_cell" s__law_cell ["_law_script", "_law_k"] := funAt_mk X G a6.ns a6.lk a6.cd a6.kp fun _ _ _ _ _ _ us hl => match us, hl with | [_, _], _ => rfl
  have F__law_thing : FunAt K mg "_law_thing" s__law_thing ["_law_cell_here", "_law_k", "_law_many"] := funAt_mk X G a7.ns a7.lk a7.cd a7.kp fun _ _ _ _ _ _ us hl => match us, hl with | [_, _, _], _ => rfl
  have F__law_same_sum : FunAt K mg "_law_same_sum" s__law_same_sum ["_law_found", "_law_due"] := funAt_mk X G a8.ns a8.lk a8.cd a8.kp fun _ _ _ _ _ _ us hl => match us, hl with | [_, _], _ => rfl
  have F__law_gathered : FunAt K mg "_law_gathered" s__law_gathered ["_law_terms"] := funAt_mk X G a9.ns a9.lk a9.cd a9.kp fun _ _ _ _ _ _ us hl => match us, hl with | [_], _ => rfl
  have F__law_product : FunAt K mg "_law_product" s__law_product ["_law_one", "_law_other"] := funAt_mk X G a10.ns a10.lk a10.cd a10.kp fun _ _ _ _ _ _ us hl => match us, hl with | [_, _], _ => rfl
  have F__law_chosen : FunAt K mg "_law_chosen" s__law_chosen ["_law_cell_here", "_law_far", "_law_many", "_law_size"] := funAt_mk X G a11.ns a11.lk a11.cd a11.kp fun _ _ _ _ _ _ us hl => match us, hl with | [_, _, _, _], _ => rfl
  have F__law_digit_term : FunAt K mg "_law_digit_term" s__law_digit_term ["_law_cell_here", "_law_many", "_law_size"] := funAt_mk X G a12.ns a12.lk a12.cd a12.kp fun _ _ _ _ _ _ us hl => match us, hl with | [_, _, _], _ => rfl
  have F__law_drawn_sum : FunAt K mg "_law_drawn_sum" s__law_drawn_sum ["_law_cells", "_law_many", "_law_size", "_law_far"] := funAt_mk X G a13.ns a13.lk a13.cd a13.kp fun _ _ _ _ _ _ us hl => match us, hl with | [_, _, _, _], _ => rfl
  have F__law_good : FunAt K mg "_law_good" s__law_good ["_law_one", "_law_other", "_law_third", "_law_by"] := funAt_mk X G a14.ns a14.lk a14.cd a14.kp fun _ _ _ _ _ _ us hl => match us, hl with | [_, _, _, _], _ => rfl
  have e := hfa.symm.trans (PySem.W.mg_of X G a15.ns)
  cases e
  refine ⟨PySem.W.fnOf "law" "law" (defArgs s_law) (defBody s_law) (defScope s_law) .none kV15 dc15 pm15 an15 cd15 ct15, fun s v => .of_eq rfl, fun base _ _ => ?_⟩
  have g_turn_of : L2.Callee l.prog w K mg base (CXM l.prog w) 1 "turn_of" ["places"] (spM K (clK K) w_turn_of) := c_turn_of (k := 0) B  F_turn_of
  have g_summed : L2.Callee l.prog w K mg base (CXM l.prog w) 2 "summed" ["terms"] (spM K (clK K) w_summed) := c_summed (k := 1) B (g_turn_of.mono (by decide)) F_summed
  have g_added : L2.Callee l.prog w K mg base (CXM l.prog w) 3 "added" ["one", "other"] (spM K (clK K) w_added) := c_added (k := 2) B (g_summed.mono (by decide)) F_added
  have g_taken : L2.Callee l.prog w K mg base (CXM l.prog w) 3 "taken" ["some", "many"] (spM K (clK K) w_taken) := c_taken (k := 2) B (g_summed.mono (by decide)) F_taken
  have g_product : L2.Callee l.prog w K mg base (CXM l.prog w) 3 "product" ["one", "other"] (spM K (clK K) w_product) := c_product (k := 2) B (g_summed.mono (by decide)) F_product
  have g__law_whole : L2.Callee l.prog w K mg base (CXM l.prog w) 1 "_law_whole" ["_law_found"] (spM K (clK K) w__law_whole) := c__law_whole (k := 0) B  F__law_whole
  have g__law_cell : L2.Callee l.prog w K mg base (CXM l.prog w) 1 "_law_cell" ["_law_script", "_law_k"] (spM K (clK K) w__law_cell) := c__law_cell (k := 0) B  F__law_cell
  have g__law_thing : L2.Callee l.prog w K mg base (CXM l.prog w) 1 "_law_thing" ["_law_cell_here", "_law_k", "_law_many"] (spM K (clK K) w__law_thing) := c__law_thing (k := 0) B  F__law_thing
  have g__law_same_sum : L2.Callee l.prog w K mg base (CXM l.prog w) 2 "_law_same_sum" ["_law_found", "_law_due"] (spM K (clK K) w__law_same_sum) := c__law_same_sum (k := 1) B (g__law_whole.mono (by decide)) F__law_same_sum
  have g__law_gathered : L2.Callee l.prog w K mg base (CXM l.prog w) 1 "_law_gathered" ["_law_terms"] (spM K (clK K) w__law_gathered) := c__law_gathered (k := 0) B  F__law_gathered
  have g__law_product : L2.Callee l.prog w K mg base (CXM l.prog w) 2 "_law_product" ["_law_one", "_law_other"] (spM K (clK K) w__law_product) := c__law_product (k := 1) B (g__law_gathered.mono (by decide)) F__law_product
  have g__law_chosen : L2.Callee l.prog w K mg base (CXM l.prog w) 2 "_law_chosen" ["_law_cell_here", "_law_far", "_law_many", "_law_size"] (spM K (clK K) w__law_chosen) := c__law_chosen (k := 1) B (g__law_thing.mono (by decide)) F__law_chosen
  have g__law_digit_term : L2.Callee l.prog w K mg base (CXM l.prog w) 1 "_law_digit_term" ["_law_cell_here", "_law_many", "_law_size"] (spM K (clK K) w__law_digit_term) := c__law_digit_term (k := 0) B  F__law_digit_term
  have g__law_drawn_sum : L2.Callee l.prog w K mg base (CXM l.prog w) 3 "_law_drawn_sum" ["_law_cells", "_law_many", "_law_size", "_law_far"] (spM K (clK K) w__law_drawn_sum) := c__law_drawn_sum (k := 2) B (g__law_digit_term.mono (by decide)) (g__law_chosen.mono (by decide)) (g__law_gathered.mono (by decide)) F__law_drawn_sum
  have g__law_good : L2.Callee l.prog w K mg base (CXM l.prog w) 4 "_law_good" ["_law_one", "_law_other", "_law_third", "_law_by"] (spM K (clK K) w__law_good) := c__law_good (k := 3) B (g__law_same_sum.mono (by decide)) (g_added.mono (by decide)) (g__law_gathered.mono (by decide)) (g_taken.mono (by decide)) (g_product.mono (by decide)) (g__law_product.mono (by decide)) F__law_good
  exact c_law (k := 4) B (g__law_cell.mono (by decide)) (g__law_drawn_sum.mono (by decide)) (g__law_good.mono (by decide)) (g__law_same_sum.mono (by decide)) (g_product.mono (by decide)) (g_added.mono (by decide)) (g_taken.mono (by decide)) (fun_mk (st := s_law) a15.lk a15.cd a15.kp)
theorem walk {l : PySem.W.OpenLaw} {q : Program} {loose : List Str} {XP : (Str → Option Value) → Heap → Prop} {YP : World → Heap → Prop} {d : DefRec} {K : Params → PySem.W.Frag} (hn : l.most = some 63) (hdf : d.params.defaults = []) (hw : ∀ ns : List Int, ns.length ≤ 63 → w_law [.lst (ns.map .int)] = .ok (sc (.bl true)))
    (hY : ∀ (w : World) (h : Heap), YP w h → (K w.params).In h) (hL : ∀ P : Params, noL (K P) = true)
    (F : ∀ (w : World) (mg : Str → Option Value) (fa : Addr) (h : Heap), (K w.params).In h → h.Ns mainGlobals mg → mg d.name = some (.ref fa) →
      ∃ fd : FuncData, (∀ (s : Shared) (u : Value), BindsTo s fd ⟨[u], []⟩ [("_law_script", u)]) ∧ ∀ base : Heap, (K w.params).In base → base.Ns mainGlobals mg → FnOk l.prog w (K w.params) mg base (CXM l.prog w) 5 fa fd ["_law_script"] (spM (K w.params) (clK (K w.params)) w_law)) :
    PySem.W.WalkO q loose XP YP l.row.toRowW d [] (fun f vs => PySem.call f vs) :=
  L2.walk_of (n := 63) (k := 5) (x := "_law_script") (CX := fun w => CXM l.prog w) (sp := fun w => spM (K w.params) (clK (K w.params)) w_law) hn (by decide) hdf ⟨rfl, by decide, by decide⟩ hY F (fun w _ _ ns hl _ hS => law_sp (hL w.params) (hw ns hl) hS) fun _ _ _ _ _ ⟨_, _, _, _, _, z⟩ => z
end N32
set_option Elab.async false
set_option linter.all false
set_option maxRecDepth 100000
set_option maxHeartbeats 1000000
namespace Sm
open Srt
abbrev Tm := List Int × Int
def look (A : List Tm) (k : List Int) : Int := match A with
  | [] => 0
  | p :: r => if p.1 = k then p.2 else look r k
def put (A : List Tm) (k : List Int) (v : Int) : List Tm := if k ∈ A.map (·.1) then A.map fun p => if p.1 = k then (p.1, v) else p else A ++ [(k, v)]
theorem put_keys (A : List Tm) (k : List Int) (v : Int) : (put A k v).map (·.1) = if k ∈ A.map (·.1) then A.map (·.1) else A.map (·.1) ++ [k] := by
  unfold put
  split
  · rw [List.map_map]
    apply List.map_congr_left
    intro p _
    show (if p.1 = k then (p.1, v) else p).1 = p.1
    split <;> rfl
  · simp
theorem put_nodup {A : List Tm} {k : List Int} {v : Int} (h : (A.map (·.1)).Nodup) : ((put A k v).map (·.1)).Nodup := by
  rw [put_keys]
  split
  · exact h
  · rename_i n
    rw [List.nodup_append]
    refine ⟨h, by simp, fun a ha b hb => ?_⟩
    have : b = k := by simpa using hb
    subst this
    exact fun z => n (z ▸ ha)
theorem put_len (A : List Tm) (k : List Int) (v : Int) : (put A k v).length ≤ A.length + 1 := by
  have := congrArg List.length (put_keys A k v)
  simp only [List.length_map] at this
  rw [this]
  split <;> simp
theorem put_mem {A : List Tm} {k : List Int} {v : Int} {p : Tm} (h : p ∈ put A k v) : p ∈ A ∨ p = (k, v) := by
  unfold put at h
  split at h
  · obtain ⟨q, hq, e⟩ := (List.mem_map.mp h)
    by_cases z : q.1 = k
    · rw [if_pos z] at e; right; rw [← e, z]
    · rw [if_neg z] at e; left; rw [← e]; exact hq
  · rcases List.mem_append.mp h with z | z
    · exact .inl z
    · right; simpa using z
theorem look_mem {A : List Tm} (h : (A.map (·.1)).Nodup) : ∀ {p : Tm}, p ∈ A → look A p.1 = p.2 := by
  induction A with
  | nil => intro p hp; cases hp
  | cons q r ih =>
    intro p hp
    obtain ⟨h1, h2⟩ := List.nodup_cons.mp (by simpa using h : (q.1 :: r.map (·.1)).Nodup)
    rcases List.mem_cons.mp hp with e | e
    · subst e; simp [look]
    · have : q.1 ≠ p.1 := fun z => h1 (z ▸ List.mem_map_of_mem e)
      simp only [look, if_neg this]
      exact ih h2 e
theorem look_none {A : List Tm} {k : List Int} (h : k ∉ A.map (·.1)) : look A k = 0 := by
  induction A with
  | nil => rfl
  | cons q r ih =>
    have h' : k ≠ q.1 ∧ k ∉ r.map (·.1) := by simpa using h
    simp only [look, if_neg (Ne.symm h'.1)]
    exact ih h'.2
def outA (A : List Tm) : List Tm := ((srt lx (A.map (·.1))).filter fun k => look A k != 0).map fun k => (k, look A k)
def outB (A : List Tm) : List Tm := srt px (A.filter fun p => p.2 != 0)
theorem out_eq {A : List Tm} (h : (A.map (·.1)).Nodup) : outA A = outB A := by
  unfold outA outB
  refine srt_eq px_tot ?_ ?_
  · have e : A.filter (fun p => p.2 != 0) = ((A.map (·.1)).filter fun k => look A k != 0).map fun k => (k, look A k) := by
      rw [List.filter_map, List.map_map]
      have e1 : A.filter (fun p => p.2 != 0) = A.filter ((fun k => look A k != 0) ∘ fun x => x.1) := by
        apply List.filter_congr
        intro p hp
        show (p.2 != 0) = (look A p.1 != 0)
        rw [look_mem h hp]
      rw [e1]
      have e2 : ∀ p ∈ A.filter ((fun k => look A k != 0) ∘ fun x => x.1), ((fun k => (k, look A k)) ∘ fun x : Tm => x.1) p = p := fun p hp => by
        show (p.1, look A p.1) = p
        rw [look_mem h (List.mem_filter.mp hp).1]
      exact ((List.map_congr_left e2).trans (List.map_id' _)).symm
    rw [e]
    exact (((srt_perm (A.map (·.1))).filter _).map _)
  · rw [List.pairwise_map]
    have nd : (srt lx (A.map (·.1))).Nodup := (srt_perm _).nodup_iff.mpr h
    have both : ((srt lx (A.map (·.1))).filter fun k => look A k != 0).Pairwise fun a b => lx b a = false ∧ a ≠ b := by
      refine List.Pairwise.filter _ ?_
      exact List.Pairwise.and (srt_up lx_tot (A.map fun x => x.1)) (show List.Pairwise (fun a b => a ≠ b) _ from nd)
    refine both.imp fun {a b} h => ?_
    show (if b = a then _ else lx b a) = false
    rw [if_neg (Ne.symm h.2)]; exact h.1
def sgn (m : Nat) : Int := 1 - 2 * ((m : Int) % 2)
def invs (p : List Int) : Nat → Nat
  | 0 => 0
  | j + 1 => invs p j + ((p.take j).filter fun b => decide (p.getD j 0 < b)).length
def inv (p : List Int) : Nat := invs p p.length
def val (t : Tm) : Int := if t.1.Nodup then sgn (inv t.1) * t.2 else 0
def key (t : Tm) : List Int := srt ix t.1
def step (A : List Tm) (t : Tm) : List Tm := put A (key t) (look A (key t) + val t)
def acc (A : List Tm) (ts : List Tm) : List Tm := ts.foldl step A
def sumP (ts : List Tm) : List Tm := outB (acc [] ts)
theorem sgn_or (m : Nat) : sgn m = 1 ∨ sgn m = -1 := by unfold sgn; omega
theorem sgn_succ (m : Nat) : sgn (m + 1) = 0 - sgn m := by unfold sgn; omega
theorem acc_nodup : ∀ (ts A : List Tm), (A.map (·.1)).Nodup → ((acc A ts).map (·.1)).Nodup
  | [], A, h => h
  | t :: ts, A, h => acc_nodup ts (step A t) (put_nodup h)
theorem acc_len : ∀ (ts A : List Tm), (acc A ts).length ≤ A.length + ts.length
  | [], A => Nat.le_refl _
  | t :: ts, A => by
    have h1 := acc_len ts (step A t)
    have h2 : (step A t).length ≤ A.length + 1 := put_len _ _ _
    show (acc (step A t) ts).length ≤ _
    rw [List.length_cons]; omega
theorem acc_keys : ∀ (ts A : List Tm) {k : List Int}, k ∈ (acc A ts).map (·.1) → k ∈ A.map (·.1) ∨ ∃ t ∈ ts, k = key t
  | [], A, k, h => .inl h
  | t :: ts, A, k, h => by
    rcases acc_keys ts (step A t) h with z | ⟨u, hu, e⟩
    · unfold step at z
      rw [put_keys] at z
      split at z
      · exact .inl z
      · rcases List.mem_append.mp z with z | z
        · exact .inl z
        · exact .inr ⟨t, List.mem_cons_self, by simpa using z⟩
    · exact .inr ⟨u, List.mem_cons_of_mem _ hu, e⟩
theorem val_le (t : Tm) : (val t).natAbs ≤ t.2.natAbs := by
  unfold val
  split
  · rcases sgn_or (inv t.1) with z | z <;> rw [z] <;> omega
  · omega
theorem look_le {A : List Tm} {M : Nat} (h : ∀ p ∈ A, p.2.natAbs ≤ M) (k : List Int) : (look A k).natAbs ≤ M := by
  induction A with
  | nil => exact Nat.zero_le _
  | cons q r ih =>
    simp only [look]
    split
    · exact h q List.mem_cons_self
    · exact ih fun p hp => h p (List.mem_cons_of_mem _ hp)
theorem step_le {A : List Tm} {t : Tm} {M N : Nat} (h : ∀ p ∈ A, p.2.natAbs ≤ M) (ht : t.2.natAbs ≤ N) : ∀ p ∈ step A t, p.2.natAbs ≤ M + N := by
  intro p hp
  rcases put_mem hp with z | z
  · exact Nat.le_trans (h p z) (Nat.le_add_right _ _)
  · rw [z]
    have h1 := look_le h (key t)
    have h2 := val_le t
    show (look A (key t) + val t).natAbs ≤ _
    omega
theorem acc_le {N : Nat} : ∀ (ts A : List Tm) {M : Nat}, (∀ p ∈ A, p.2.natAbs ≤ M) → (∀ t ∈ ts, t.2.natAbs ≤ N) → ∀ p ∈ acc A ts, p.2.natAbs ≤ M + ts.length * N
  | [], A, M, h, _, p, hp => by simpa using h p hp
  | t :: ts, A, M, h, ht, p, hp => by
    have := acc_le ts (step A t) (step_le h (ht t List.mem_cons_self)) (fun u hu => ht u (List.mem_cons_of_mem _ hu)) p hp
    rw [List.length_cons, Nat.add_mul]; omega
end Sm
set_option Elab.async false
set_option linter.all false
set_option maxRecDepth 100000
set_option maxHeartbeats 1000000
namespace Sm
open PySem L2 Mir Srt
theorem lset_ok {f : FE} {ρ : Mir.Env} {k : Kd} {fr : Bool} {p : List Int} (h : f ρ = .ok ⟨k, fr, .tup (li p)⟩) (hz : p.length < 1000) : lsetE f ρ = .ok (sc (.int (nMet p))) := by
  simp only [lsetE, h, R.ok_bind, ints_li, if_pos hz]
theorem lenT_ok {f : FE} {ρ : Mir.Env} {k : Kd} {fr : Bool} {ds : List D} (h : f ρ = .ok ⟨k, fr, .tup ds⟩) : lenE f ρ = .ok (sc (.int ds.length)) := by simp only [lenE, h, R.ok_bind, asS]
theorem fold_ge : ∀ (p s : List Int), s.Nodup → (p.foldl PyProof.Rows.step_dedup s).length ≤ s.length + p.length ∧ ((p.foldl PyProof.Rows.step_dedup s).length = s.length + p.length ↔ (s ++ p).Nodup)
  | [], s, h => by simp [h]
  | x :: p, s, h => by
    rw [List.foldl_cons]
    by_cases z : s.any (· == x) = true
    · have e : PyProof.Rows.step_dedup s x = s := by unfold PyProof.Rows.step_dedup; rw [if_pos z]
      rw [e]
      have ih := fold_ge p s h
      have mem : x ∈ s := by
        obtain ⟨y, hy, e⟩ := List.any_eq_true.mp z
        rw [← eq_of_beq e]; exact hy
      refine ⟨by rw [List.length_cons]; omega, ⟨fun q => ?_, fun q => ?_⟩⟩
      · rw [List.length_cons] at q; omega
      · exact absurd rfl ((List.nodup_append.mp q).2.2 x mem x List.mem_cons_self)
    · have e : PyProof.Rows.step_dedup s x = s ++ [x] := by unfold PyProof.Rows.step_dedup; rw [if_neg z]
      have nm : x ∉ s := fun m => z (List.any_eq_true.mpr ⟨x, m, beq_self_eq_true x⟩)
      rw [e]
      have hs : (s ++ [x]).Nodup := by
        rw [List.nodup_append]
        exact ⟨h, by simp, fun a ha b hb => by rw [List.mem_singleton.mp hb]; exact fun q => nm (q ▸ ha)⟩
      have ih := fold_ge p (s ++ [x]) hs
      rw [List.length_append, List.length_singleton] at ih
      rw [List.length_cons, show s ++ x :: p = s ++ [x] ++ p by simp]
      exact ⟨by omega, ⟨fun q => ih.2.mp (by omega), fun q => by have := ih.2.mpr q; omega⟩⟩
theorem nMet_lt (p : List Int) : nMet p < p.length ↔ ¬ p.Nodup := by
  have h := fold_ge p [] List.nodup_nil
  simp only [List.length_nil, Nat.zero_add, List.nil_append] at h
  unfold nMet
  constructor
  · intro q n
    have := h.2.mpr n
    omega
  · intro n
    rcases Nat.lt_or_ge (p.foldl PyProof.Rows.step_dedup []).length p.length with z | z
    · exact z
    · exact absurd (h.2.mp (Nat.le_antisymm h.1 z)) n
theorem forL_nat {tg : Tg} {b : FS} {fr : Bool} {inj : Nat → D} {E : Nat → Mir.Env → Prop} : ∀ (m i : Nat) (ρ : Mir.Env), E i ρ → (∀ j, i ≤ j → j < i + m → ∀ ρ, E j ρ → ∃ ρ1 ρ2, tg.bind fr (inj j) ρ = .ok ρ1 ∧ b ρ1 = .nx ρ2 ∧ E (j + 1) ρ2) →
    ∃ ρ', forL tg b fr ((List.range' i m).map inj) ρ = .nx ρ' ∧ E (i + m) ρ'
  | 0, i, ρ, h, _ => ⟨ρ, rfl, h⟩
  | m + 1, i, ρ, h, hs => by
    obtain ⟨ρ1, ρ2, h1, h2, h3⟩ := hs i (Nat.le_refl _) (by omega) ρ h
    obtain ⟨ρ', h4, h5⟩ := forL_nat m (i + 1) ρ2 h3 fun j a b => hs j (by omega) (by omega)
    refine ⟨ρ', ?_, by rw [show i + (m + 1) = i + 1 + m by omega]; exact h5⟩
    rw [List.range'_succ]
    simp only [List.map_cons, forL, h1, R.at, h2]
    exact h4
theorem cmpL_filt {α : Type} {tg : Tg} {b : FB} {fr : Bool} {ρ : Mir.Env} {inj out : α → D} {c : α → Bool} : ∀ (xs : List α), (∀ x ∈ xs, ∃ ρ1 k, tg.bind fr (inj x) ρ = .ok ρ1 ∧ b ρ1 = .ok (if c x then some ⟨k, true, out x⟩ else none) ∧ k ≠ .own) → cmpL tg b fr ρ (xs.map inj) = .ok (true, (xs.filter c).map out)
  | [], _ => rfl
  | x :: r, h => by
    obtain ⟨ρ1, k, h1, h2, h3⟩ := h x List.mem_cons_self
    have ih := cmpL_filt r fun y hy => h y (List.mem_cons_of_mem _ hy)
    cases z : c x with
    | true =>
      rw [z] at h2
      simp only [List.map_cons, cmpL, h1, R.ok_bind, h2, if_true, Res.give, if_neg h3, ih, List.filter_cons, z]
      rfl
    | false =>
      rw [z] at h2
      simp only [List.map_cons, cmpL, h1, R.ok_bind, h2, Bool.false_eq_true, if_false, ih, List.filter_cons, z]
theorem cmp_filt {α : Type} {it : FI} {tg : Tg} {b : FB} {fr st : Bool} {ρ : Mir.Env} {k : Nat} {fs : List Nat} {inj out : α → D} {c : α → Bool} {xs : List α} (hi : it ρ = .ok ⟨st, fr, xs.map inj⟩)
    (h : ∀ x ∈ xs, ∃ ρ1 k', tg.bind fr (inj x) (cmpEnv k fs ρ) = .ok ρ1 ∧ b ρ1 = .ok (if c x then some ⟨k', true, out x⟩ else none) ∧ k' ≠ .own) (hz : xs.length ≤ sizeLine) : cmpE' it k fs tg b ρ = .ok ⟨.tmp, true, .lst ((xs.filter c).map out)⟩ := by
  have := cmpL_filt xs h
  simp only [cmpE', hi, R.ok_bind, this, List.length_map, if_pos hz]
theorem bIf_ok {t : FT} {f : FE} {ρ : Mir.Env} {c : Bool} {r : Res} (h : t ρ = .ok c) (hf : c = true → f ρ = .ok r) : Mir.bIf t f ρ = .ok (if c then some r else none) := by
  cases c with
  | true => simp only [Mir.bIf, h, R.ok_bind, if_true, hf rfl]
  | false => simp only [Mir.bIf, h, R.ok_bind, Bool.false_eq_true, if_false]
theorem aug_ok {i : Nat} {G : Int → Int → Int} {f : FE} {ρ : Mir.Env} {k k' : Kd} {fr fr' : Bool} {m n : Int} (h1 : vE i ρ = .ok ⟨k, fr, .int m⟩) (h2 : f ρ = .ok ⟨k', fr', .int n⟩) : augS i G f ρ = .nx (ρ.set i (some ⟨.shr, true, .int (G m n)⟩)) := by
  simp only [augS, h1, R.at, asI, h2]
theorem enm_rng (p : List Int) : enmD (li p) = (List.range' 0 p.length).map fun j => .tup [.int (j : Int), .int (p.getD j 0)] := by
  rw [enm_map, ← List.range_eq_range']
  refine List.ext_getElem (by simp) fun i h1 h2 => ?_
  have hi : i < p.length := by simpa using h2
  simp [hi]
theorem cut_take (p : List Int) (j : Nat) (h : j < p.length) : cutD (li p) none (some (j : Int)) = li (p.take j) := by
  unfold cutD
  rw [HT.sIx_none, HT.sIx_nat]
  simp [Nat.min_eq_left (Nat.le_of_lt h)]
abbrev F_turn : FS :=
    (seqS (ifS (bT (ltE (lsetE (vE 0)) (lenE (vE 0))))
      (retS (cE (.int 0)))
      nilS)
    (seqS (setS 1 (cE (.int 0)))
    (seqS (forS (enmT (vE 0)) (.tp [.nm 2, .nm 3])
      (augS 1 (fun m n => m + n) (lenE (cmpE' (tupI (slcTE (vE 0) (noO) (soO (vE 2)))) 1 [3] (.nm 0) (Mir.bIf (bT (gtE (vE 0) (vE 1))) (vE 0))))))
    (retS (subE (cE (.int 1)) (mulE (cE (.int 2)) (modE (vE 1) (cE (.int 2)))))))))
def trn (p : List Int) : Int := if p.Nodup then sgn (inv p) else 0
theorem turn_body (p : List Int) (hz : p.length < 1000) (fr fr1 fr2 : Bool) (j : Nat) (hj : j < p.length) (m : Int) :
    (augS 1 (fun m n => m + n) (lenE (cmpE' (tupI (slcTE (vE 0) (noO) (soO (vE 2)))) 1 [3] (.nm 0) (Mir.bIf (bT (gtE (vE 0) (vE 1))) (vE 0))))) [some ⟨.shr, fr, .tup (li p)⟩, some ⟨.shr, true, .int m⟩, some ⟨.shr, fr1, .int j⟩, some ⟨.shr, fr2, .int (p.getD j 0)⟩]
      = .nx [some ⟨.shr, fr, .tup (li p)⟩, some ⟨.shr, true, .int (m + ((p.take j).filter fun b => decide (p.getD j 0 < b)).length)⟩, some ⟨.shr, fr1, .int j⟩, some ⟨.shr, fr2, .int (p.getD j 0)⟩] := by
  have e1 : slcTE (vE 0) (noO) (soO (vE 2)) [some ⟨.shr, fr, .tup (li p)⟩, some ⟨.shr, true, .int m⟩, some ⟨.shr, fr1, .int j⟩, some ⟨.shr, fr2, .int (p.getD j 0)⟩] = .ok ⟨.shr, fr || (D.tup (li p)).imm, .tup (li (p.take j))⟩ := by
    have nw : ¬ (HT.sIx (li p).length 0 none = 0 ∧ HT.sIx (li p).length (li p).length (some (j : Int)) = (li p).length) := by
      rw [HT.sIx_nat]; simp; omega
    have e : (slcTE (vE 0) (noO) (soO (vE 2)) [some ⟨.shr, fr, .tup (li p)⟩, some ⟨.shr, true, .int m⟩, some ⟨.shr, fr1, .int j⟩, some ⟨.shr, fr2, .int (p.getD j 0)⟩]) = if HT.sIx (li p).length 0 none = 0 ∧ HT.sIx (li p).length (li p).length (some (j : Int)) = (li p).length then .stk else .ok ⟨.shr, fr || (D.tup (li p)).imm, .tup (cutD (li p) none (some (j : Int)))⟩ := rfl
    rw [e, if_neg nw, cut_take p j hj]
  have e2 : cmpE' (tupI (slcTE (vE 0) (noO) (soO (vE 2)))) 1 [3] (.nm 0) (Mir.bIf (bT (gtE (vE 0) (vE 1))) (vE 0)) [some ⟨.shr, fr, .tup (li p)⟩, some ⟨.shr, true, .int m⟩, some ⟨.shr, fr1, .int j⟩, some ⟨.shr, fr2, .int (p.getD j 0)⟩] = .ok ⟨.tmp, true, .lst (((p.take j).filter fun b => decide (p.getD j 0 < b)).map D.int)⟩ := by
    refine cmp_filt (fr := fr || (D.tup (li p)).imm) (st := true) (inj := D.int) (xs := p.take j) (by simp only [tupI, e1, R.ok_bind]) (fun b hb => ?_) ?_
    · refine ⟨[some ⟨.shr, fr || (D.tup (li p)).imm, .int b⟩, some ⟨.shr, fr2, .int (p.getD j 0)⟩], .shr, rfl, ?_, by decide⟩
      exact bIf_ok (r := ⟨.shr, true, .int b⟩) (bT_ok (cmp_int (k := .shr) (k' := .shr) (fr := true) (fr' := true) (i := b) (j := p.getD j 0) (by simp [vE, D.imm]) (by simp [vE, D.imm]))) fun _ => by simp [vE, D.imm]
    · rw [sizeLine_eq, List.length_take]; omega
  refine (aug_ok (k := .shr) (fr := true) (m := m) rfl (len_ok e2)).trans ?_
  simp
end Sm
set_option Elab.async false
set_option linter.all false
set_option maxRecDepth 100000
set_option maxHeartbeats 1000000
namespace Sm
open PySem L2 Mir Srt
theorem turn_g (p : List Int) (hz : p.length < 1000) : defR 1 4 F_turn [.tup (li p)] = .ok (sc (.int (trn p))) := by
  have t0 : bT (ltE (lsetE (vE 0)) (lenE (vE 0))) [some ⟨.shr, false, .tup (li p)⟩, none, none, none] = .ok (decide ((nMet p : Int) < (p.length : Int))) := by
    refine bT_ok (cmp_int (k' := .shr) (fr' := true) (lset_ok (k := .shr) (fr := false || (D.tup (li p)).imm) rfl hz) ((lenT_ok (k := .shr) (fr := false || (D.tup (li p)).imm) (ds := li p) rfl).trans ?_))
    rw [List.length_map]; rfl
  by_cases n : p.Nodup
  · have c : ¬ nMet p < p.length := fun q => (nMet_lt p).mp q n
    have e0 : ifS (bT (ltE (lsetE (vE 0)) (lenE (vE 0)))) (retS (cE (.int 0))) nilS [some ⟨.shr, false, .tup (li p)⟩, none, none, none] = .nx [some ⟨.shr, false, .tup (li p)⟩, none, none, none] := by
      rw [if_t t0, decide_eq_false (by omega)]; rfl
    have e1 : setS 1 (cE (.int 0)) [some ⟨.shr, false, .tup (li p)⟩, none, none, none] = .nx [some ⟨.shr, false, .tup (li p)⟩, some ⟨.shr, true, .int 0⟩, none, none] := rfl
    obtain ⟨ρ', l1, x, y, l2⟩ := forL_nat (tg := .tp [.nm 2, .nm 3]) (b := augS 1 (fun m n => m + n) (lenE (cmpE' (tupI (slcTE (vE 0) (noO) (soO (vE 2)))) 1 [3] (.nm 0) (Mir.bIf (bT (gtE (vE 0) (vE 1))) (vE 0))))) (fr := false || (D.tup (li p)).imm) (inj := fun j => .tup [.int (j : Int), .int (p.getD j 0)])
      (E := fun j ρ => ∃ x y, ρ = [some ⟨.shr, false, .tup (li p)⟩, some ⟨.shr, true, .int (invs p j : Nat)⟩, x, y]) p.length 0 [some ⟨.shr, false, .tup (li p)⟩, some ⟨.shr, true, .int 0⟩, none, none] ⟨none, none, rfl⟩ fun j _ hj ρ ⟨x, y, e⟩ => by
        subst e
        have hj' : j < p.length := by omega
        refine ⟨[some ⟨.shr, false, .tup (li p)⟩, some ⟨.shr, true, .int (invs p j : Nat)⟩, some ⟨.shr, false || (D.tup (li p)).imm, .int (j : Int)⟩, some ⟨.shr, false || (D.tup (li p)).imm, .int (p.getD j 0)⟩], _, rfl, turn_body p hz false _ _ j hj' _, some ⟨.shr, false || (D.tup (li p)).imm, .int (j : Int)⟩, some ⟨.shr, false || (D.tup (li p)).imm, .int (p.getD j 0)⟩, ?_⟩
        rw [show invs p (j + 1) = invs p j + ((p.take j).filter fun b => decide (p.getD j 0 < b)).length from rfl, Int.natCast_add]
    rw [Nat.zero_add] at l2
    have e2 : forS (enmT (vE 0)) (.tp [.nm 2, .nm 3]) (augS 1 (fun m n => m + n) (lenE (cmpE' (tupI (slcTE (vE 0) (noO) (soO (vE 2)))) 1 [3] (.nm 0) (Mir.bIf (bT (gtE (vE 0) (vE 1))) (vE 0))))) [some ⟨.shr, false, .tup (li p)⟩, some ⟨.shr, true, .int 0⟩, none, none] = .nx [some ⟨.shr, false, .tup (li p)⟩, some ⟨.shr, true, .int (inv p : Nat)⟩, x, y] := by
      refine (for_ok (fr := false || (D.tup (li p)).imm) (ds := enmD (li p)) rfl).trans ?_
      rw [enm_rng, l1, l2]; rfl
    have e3 : retS (subE (cE (.int 1)) (mulE (cE (.int 2)) (modE (vE 1) (cE (.int 2))))) [some ⟨.shr, false, .tup (li p)⟩, some ⟨.shr, true, .int (inv p : Nat)⟩, x, y] = .rt ⟨.shr, true, .int (1 - 2 * (((inv p : Nat) : Int) % 2))⟩ := by
      refine ret_shr (i2_ok (k := .shr) (fr := true) (i := 1) rfl (i2_ok (k := .shr) (fr := true) (i := 2) rfl (i2_ok (k := .shr) (fr := true) (i := (inv p : Nat)) rfl rfl (CP_of (by decide))) (CM_of (lt1000 (by decide)) (small (M := 2) (lt1000 (by decide)) (by omega)))) rfl)
    have e : F_turn [some ⟨.shr, false, .tup (li p)⟩, none, none, none] = .rt ⟨.shr, true, .int (1 - 2 * (((inv p : Nat) : Int) % 2))⟩ := (seq_nx e0).trans ((seq_nx e1).trans ((seq_nx e2).trans e3))
    refine (def_rt rfl e).trans ?_
    unfold trn; rw [if_pos n]; rfl
  · have c : nMet p < p.length := (nMet_lt p).mpr n
    have e0 : ifS (bT (ltE (lsetE (vE 0)) (lenE (vE 0)))) (retS (cE (.int 0))) nilS [some ⟨.shr, false, .tup (li p)⟩, none, none, none] = .rt ⟨.shr, true, .int 0⟩ := by
      rw [if_t t0, decide_eq_true (by omega)]; rfl
    refine (def_rt rfl (seq_rt e0)).trans ?_
    unfold trn; rw [if_neg n]; rfl
def dK (A : List Tm) : D := .dct (A.map (·.1)) (A.map fun p => .int p.2)
theorem dLook_ok : ∀ (A : List Tm) (k : List Int), dLook (A.map (·.1)) (A.map fun p => .int p.2) k = if k ∈ A.map (·.1) then some (.int (look A k)) else none
  | [], k => by simp [dLook]
  | p :: r, k => by
    simp only [List.map_cons, dLook]
    by_cases z : p.1 = k
    · simp [z, look]
    · rw [if_neg z, dLook_ok r k]
      simp only [look, if_neg z]
      by_cases m : k ∈ r.map (·.1)
      · rw [if_pos m, if_pos (List.mem_cons_of_mem _ m)]
      · rw [if_neg m, if_neg fun w => (List.mem_cons.mp w).elim (Ne.symm z) m]
theorem dPut_ok (A : List Tm) (k : List Int) (v : Int) : dPut (A.map (·.1)) (A.map fun p => .int p.2) k (.int v) = ((put A k v).map (·.1), (put A k v).map fun p => .int p.2) := by
  unfold dPut
  rw [put_keys]
  unfold put
  by_cases z : k ∈ A.map (·.1)
  · simp only [if_pos z]
    have e : ∀ B : List Tm, ((B.map (·.1)).zip (B.map fun p => D.int p.2)).map (fun p => if p.1 = k then D.int v else p.2) = (B.map fun p => if p.1 = k then (p.1, v) else p).map fun p => D.int p.2 := by
      intro B
      induction B with
      | nil => rfl
      | cons q r ih =>
        simp only [List.map_cons, List.zip_cons_cons]
        rw [ih]
        by_cases w : q.1 = k <;> simp [w]
    rw [e A]
  · simp only [if_neg z]
    simp
theorem tof_ok {f : FE} {ρ : Mir.Env} {k : Kd} {fr : Bool} {ds : List D} (h : f ρ = .ok ⟨k, fr, .lst ds⟩) : tofE f ρ = .ok ⟨.shr, fr, .tup ds⟩ := by simp only [tofE, h, R.ok_bind, asS]
theorem srtI_ok {f : FE} {ρ : Mir.Env} {k : Kd} {fr : Bool} {p : List Int} (h : f ρ = .ok ⟨k, fr, .tup (li p)⟩) (hz : p.length < 64) : srtIE f ρ = .ok ⟨.tmp, true, .lst (li (srt ix p))⟩ := by
  simp only [srtIE, h, R.ok_bind, asS, ints_li, if_pos hz]
theorem dgt_ok {a k x : FE} {ρ : Mir.Env} {A : List Tm} {q : List Int} {kd kd' kd'' : Kd} {fr fr' fr'' : Bool} (h1 : a ρ = .ok ⟨kd, fr, dK A⟩) (h2 : k ρ = .ok ⟨kd', fr', .tup (li q)⟩) (h3 : x ρ = .ok ⟨kd'', fr'', .int 0⟩) : ∃ f, dgtE a k x ρ = .ok ⟨.shr, f, .int (look A q)⟩ := by
  simp only [dgtE, h1, R.ok_bind, dK, h2, h3, asK, ints_li, dLook_ok]
  by_cases z : q ∈ A.map (·.1)
  · rw [if_pos z]; exact ⟨_, rfl⟩
  · rw [if_neg z, look_none z]
    exact ⟨true, rfl⟩
theorem dput_ok {i : Nat} {k f : FE} {ρ : Mir.Env} {A : List Tm} {q : List Int} {v : Int} {kd kd' : Kd} {fr fr' : Bool} (ho : ρ[i]? = some (some ⟨.own, true, dK A⟩)) (h1 : f ρ = .ok ⟨kd, true, .int v⟩) (hk : kd ≠ .own) (h2 : k ρ = .ok ⟨kd', fr', .tup (li q)⟩) (hz : A.length < sizeLine) :
    dputS i k f ρ = .nx (ρ.set i (some ⟨.own, true, dK (put A q v)⟩)) := by
  have e0 : ownD i ρ = .ok (true, A.map (·.1), A.map fun p => .int p.2) := by unfold ownD; rw [ho]; rfl
  have e1 : asK (.tup (li q)) = .ok q := ints_li q
  have hz' : (A.map (·.1)).length < sizeLine := by rw [List.length_map]; exact hz
  simp only [dputS, e0, R.at, h1, Res.give, if_neg hk, h2, e1, if_pos hz', dPut_ok]
  rfl
end Sm
set_option Elab.async false
set_option linter.all false
set_option maxRecDepth 100000
set_option maxHeartbeats 1000000
namespace Sm
open PySem L2 Mir Srt
theorem val_eq (t : Tm) : val t = trn t.1 * t.2 := by
  unfold val trn
  split
  · rfl
  · rw [Int.zero_mul]
theorem trn_le (p : List Int) : (trn p).natAbs ≤ 1 := by
  unfold trn
  split
  · rcases sgn_or (inv p) with z | z <;> rw [z] <;> decide
  · decide
theorem tup2_ok {f g : FE} {ρ : Mir.Env} {k k' : Kd} {fr fr' : Bool} {d d' : D} (h1 : f ρ = .ok ⟨k, fr, d⟩) (h2 : g ρ = .ok ⟨k', fr', d'⟩) (n1 : k ≠ .own) (n2 : k' ≠ .own) : tupE [f, g] ρ = .ok ⟨.shr, fr && (fr' && true), .tup [d, d']⟩ := by
  have hz : ([d, d'] : List D).length ≤ sizeLine := by show 2 ≤ sizeLine; decide
  simp only [tupE, evs, h1, h2, R.ok_bind, gives, Res.give, if_neg n1, if_neg n2, if_pos hz]
theorem key_len (t : Tm) : (key t).length = t.1.length := srt_len _
theorem keys_ne {ts : List Tm} {L : Nat} (h : ∀ t ∈ ts, t.1.length = L) : 2 ≤ ((acc [] ts).map (·.1)).length → ∀ k ∈ (acc [] ts).map (·.1), k ≠ [] := by
  intro two k hk e
  have nd := acc_nodup ts [] List.nodup_nil
  have al : ∀ q ∈ (acc [] ts).map (·.1), q.length = L := fun q hq => by
    rcases acc_keys ts [] hq with z | ⟨t, ht, rfl⟩
    · cases z
    · rw [key_len]; exact h t ht
  have L0 : L = 0 := by rw [← al k hk, e]; rfl
  generalize (acc [] ts).map (·.1) = ks at *
  match ks, two with
  | a :: b :: r, _ =>
    have ea : a = [] := List.length_eq_zero_iff.mp (by rw [al a List.mem_cons_self, L0])
    have eb : b = [] := List.length_eq_zero_iff.mp (by rw [al b (List.mem_cons_of_mem _ List.mem_cons_self), L0])
    have := (List.nodup_cons.mp nd).1
    exact this (by rw [ea, eb]; exact List.mem_cons_self)
theorem dget_ok {a k : FE} {ρ : Mir.Env} {A : List Tm} {q : List Int} {kd kd' : Kd} {fr' : Bool} (h1 : a ρ = .ok ⟨kd, true, dK A⟩) (h2 : k ρ = .ok ⟨kd', fr', .tup (li q)⟩) (hq : q ∈ A.map (·.1)) : dgetE a k ρ = .ok ⟨.shr, true, .int (look A q)⟩ := by
  simp only [dgetE, h1, R.ok_bind, dK, h2, asK, ints_li, dLook_ok, if_pos hq, Bool.true_or]
structure Fit (ts : List Tm) : Prop where
  pl : ∀ t ∈ ts, t.1.length < 64
  nb : ∀ t ∈ ts, t.2.natAbs < 2 ^ 1000
  ks : (acc [] ts).length < 64
  un : ∃ L, ∀ t ∈ ts, t.1.length = L
  ln : ts.length ≤ 1000
abbrev sbody (φ : Φ) : FS := (seqS (setS 4 (tofE (srtIE (vE 2))))
      (dputS 1 (vE 4) (addE (dgtE (vE 1) (vE 4) (cE (.int 0))) (mulE (callE φ [vE 2]) (vE 3)))))
abbrev F_summed (φ : Φ) : FS :=
    (seqS (setS 1 (dnewE))
    (seqS (frzS 0 (forS (lstI (vE 0)) (.tp [.nm 2, .nm 3])
      (seqS (setS 4 (tofE (srtIE (vE 2))))
      (dputS 1 (vE 4) (addE (dgtE (vE 1) (vE 4) (cE (.int 0))) (mulE (callE φ [vE 2]) (vE 3)))))))
    (retS (cmpE' (lstI (srtDE (vE 1))) 1 [1] (.nm 0) (Mir.bIf (bT (neE (dgetE (vE 1) (vE 0)) (cE (.int 0)))) (tupE [vE 0, dgetE (vE 1) (vE 0)]))))))
theorem sum_body {φ : Φ} (hφ : ∀ p : List Int, p.length < 64 → φ [.tup (li p)] = .ok (sc (.int (trn p)))) (a0 x4 : Option Res) (A : List Tm) (t : Tm) (h1 : t.1.length < 64) (h2 : t.2.natAbs < 2 ^ 1000) (hA : A.length < sizeLine) (f2 f3 : Bool) :
    sbody φ [a0, some ⟨.own, true, dK A⟩, some ⟨.shr, f2, .tup (li t.1)⟩, some ⟨.shr, f3, .int t.2⟩, x4] = .nx [a0, some ⟨.own, true, dK (step A t)⟩, some ⟨.shr, f2, .tup (li t.1)⟩, some ⟨.shr, f3, .int t.2⟩, some ⟨.shr, true, .tup (li (key t))⟩] := by
  have e1 : setS 4 (tofE (srtIE (vE 2))) [a0, some ⟨.own, true, dK A⟩, some ⟨.shr, f2, .tup (li t.1)⟩, some ⟨.shr, f3, .int t.2⟩, x4] = .nx [a0, some ⟨.own, true, dK A⟩, some ⟨.shr, f2, .tup (li t.1)⟩, some ⟨.shr, f3, .int t.2⟩, some ⟨.shr, true, .tup (li (key t))⟩] :=
    set_shr (tof_ok (srtI_ok (k := .shr) (fr := f2 || (D.tup (li t.1)).imm) rfl h1))
  refine (seq_nx e1).trans ?_
  obtain ⟨f5, e2⟩ := dgt_ok (a := vE 1) (k := vE 4) (x := cE (.int 0)) (ρ := [a0, some ⟨.own, true, dK A⟩, some ⟨.shr, f2, .tup (li t.1)⟩, some ⟨.shr, f3, .int t.2⟩, some ⟨.shr, true, .tup (li (key t))⟩]) (A := A) (q := key t) (kd := .own) (kd' := .shr) (kd'' := .shr) (fr := true) (fr' := true) (fr'' := true) rfl rfl rfl
  have e3 : callE φ [vE 2] [a0, some ⟨.own, true, dK A⟩, some ⟨.shr, f2, .tup (li t.1)⟩, some ⟨.shr, f3, .int t.2⟩, some ⟨.shr, true, .tup (li (key t))⟩] = .ok ⟨.shr, true, .int (trn t.1)⟩ :=
    call_sc (rs := [⟨.shr, f2 || (D.tup (li t.1)).imm, .tup (li t.1)⟩]) (evs_cons rfl evs_nil) (hφ t.1 h1)
  have e4 : addE (dgtE (vE 1) (vE 4) (cE (.int 0))) (mulE (callE φ [vE 2]) (vE 3)) [a0, some ⟨.own, true, dK A⟩, some ⟨.shr, f2, .tup (li t.1)⟩, some ⟨.shr, f3, .int t.2⟩, some ⟨.shr, true, .tup (li (key t))⟩] = .ok ⟨.shr, true, .int (look A (key t) + val t)⟩ := by
    rw [val_eq]
    exact i2_ok e2 (i2_ok e3 (k' := .shr) (fr' := f3 || (D.int t.2).imm) rfl (CM_of (small (M := 1) (lt1000 (by decide)) (trn_le _)) h2)) rfl
  exact dput_ok (fr := true) (i := 1) (k := vE 4) (A := A) (q := key t) (kd' := .shr) (fr' := true) rfl e4 (by decide) rfl hA
theorem dict_loop {tg : Tg} {b : FS} {fr : Bool} {E : List Tm → Mir.Env → Prop} : ∀ (ts A : List Tm) (ρ : Mir.Env), A.length + ts.length ≤ 1000 → E A ρ → (∀ t ∈ ts, ∀ A ρ, A.length < 1000 → E A ρ → ∃ ρ1 ρ2, tg.bind fr (mkP t) ρ = .ok ρ1 ∧ b ρ1 = .nx ρ2 ∧ E (step A t) ρ2) →
    ∃ ρ', forL tg b fr (ts.map mkP) ρ = .nx ρ' ∧ E (acc A ts) ρ'
  | [], A, ρ, _, h, _ => ⟨ρ, rfl, h⟩
  | t :: r, A, ρ, hz, h, hs => by
    rw [List.length_cons] at hz
    obtain ⟨ρ1, ρ2, h1, h2, h3⟩ := hs t List.mem_cons_self A ρ (by omega) h
    have hl : (step A t).length ≤ A.length + 1 := put_len _ _ _
    obtain ⟨ρ', h4, h5⟩ := dict_loop r (step A t) ρ2 (by omega) h3 fun y hy => hs y (List.mem_cons_of_mem _ hy)
    refine ⟨ρ', ?_, h5⟩
    simp only [List.map_cons, forL, h1, R.at, h2]
    exact h4
theorem summed_g {φ : Φ} (hφ : ∀ p : List Int, p.length < 64 → φ [.tup (li p)] = .ok (sc (.int (trn p)))) {ts : List Tm} (F : Fit ts) : defR 1 5 (F_summed φ) [.lst (ts.map mkP)] = .ok ⟨.tmp, true, .lst ((sumP ts).map mkP)⟩ := by
  have e1 : setS 1 dnewE [some ⟨.shr, false, .lst (ts.map mkP)⟩, none, none, none, none] = .nx [some ⟨.shr, false, .lst (ts.map mkP)⟩, some ⟨.own, true, dK []⟩, none, none, none] := rfl
  obtain ⟨ρ', l1, x2, x3, x4, l3⟩ := dict_loop (tg := .tp [.nm 2, .nm 3]) (b := sbody φ) (fr := false)
    (E := fun A ρ => ∃ x2 x3 x4, ρ = [some ⟨.shr, false, .lst (ts.map mkP)⟩, some ⟨.own, true, dK A⟩, x2, x3, x4]) ts [] [some ⟨.shr, false, .lst (ts.map mkP)⟩, some ⟨.own, true, dK []⟩, none, none, none] (by simpa using F.ln) ⟨none, none, none, rfl⟩ fun t ht A ρ hA ⟨x2, x3, x4, e⟩ => by
      subst e
      exact ⟨[some ⟨.shr, false, .lst (ts.map mkP)⟩, some ⟨.own, true, dK A⟩, some ⟨.shr, false, .tup (li t.1)⟩, some ⟨.shr, false, .int t.2⟩, x4], _, rfl, sum_body hφ _ x4 A t (F.pl t ht) (F.nb t ht) (by rw [sizeLine_eq]; omega) false false, _, _, _, rfl⟩
  have e2 : frzS 0 (forS (lstI (vE 0)) (.tp [.nm 2, .nm 3]) (sbody φ)) [some ⟨.shr, false, .lst (ts.map mkP)⟩, some ⟨.own, true, dK []⟩, none, none, none] = .nx [some ⟨.shr, false, .lst (ts.map mkP)⟩, some ⟨.own, true, dK (acc [] ts)⟩, x2, x3, x4] := by
    refine (frz_go (e := ⟨.shr, false, .lst (ts.map mkP)⟩) rfl).trans ?_
    refine (for_ok (fr := false) (ds := ts.map mkP) rfl).trans ?_
    rw [← l3]; exact l1
  have nd := acc_nodup ts [] List.nodup_nil
  obtain ⟨L, hL⟩ := F.un
  have hks := F.ks
  have ne := keys_ne hL
  unfold sumP
  rw [← out_eq nd]
  generalize acc [] ts = A at *
  have e3 : srtDE (vE 1) [some ⟨.shr, false, .lst (ts.map mkP)⟩, some ⟨.own, true, dK A⟩, x2, x3, x4] = .ok ⟨.tmp, true, .lst ((srt lx (A.map (·.1))).map mkT)⟩ := by
    have c : (A.map (·.1)).length < 64 ∧ (2 ≤ (A.map (·.1)).length → ∀ k ∈ A.map (·.1), k ≠ []) := ⟨by rw [List.length_map]; exact hks, ne⟩
    show (if _ then _ else _) = _
    exact if_pos c
  have e4 : cmpE' (lstI (srtDE (vE 1))) 1 [1] (.nm 0) (Mir.bIf (bT (neE (dgetE (vE 1) (vE 0)) (cE (.int 0)))) (tupE [vE 0, dgetE (vE 1) (vE 0)])) [some ⟨.shr, false, .lst (ts.map mkP)⟩, some ⟨.own, true, dK A⟩, x2, x3, x4] = .ok ⟨.tmp, true, .lst (((srt lx (A.map (·.1))).filter fun k => look A k != 0).map fun k => mkP (k, look A k))⟩ := by
    refine cmp_filt (inj := mkT) (xs := srt lx (A.map (·.1))) (lst_it e3) (fun k hk => ?_) ?_
    · have hk' : k ∈ A.map (·.1) := (srt_perm _).mem_iff.mp hk
      have g : dgetE (vE 1) (vE 0) [some ⟨.shr, true, .tup (li k)⟩, some ⟨.own, true, dK A⟩] = .ok ⟨.shr, true, .int (look A k)⟩ := dget_ok (kd := .own) (kd' := .shr) (fr' := true) rfl rfl hk'
      refine ⟨[some ⟨.shr, true, .tup (li k)⟩, some ⟨.own, true, dK A⟩], .shr, rfl, ?_, by decide⟩
      refine bIf_ok (r := ⟨.shr, true, mkP (k, look A k)⟩) (c := look A k != 0) (bT_ok (ne_int (k' := .shr) (fr' := true) (j := 0) g rfl)) fun _ => ?_
      exact tup2_ok (k := .shr) (fr := true) (d := .tup (li k)) rfl g (by decide) (by decide)
    · rw [srt_len, List.length_map, sizeLine_eq]; omega
  have e : F_summed φ [some ⟨.shr, false, .lst (ts.map mkP)⟩, none, none, none, none] = .rt ⟨.tmp, true, .lst (((srt lx (A.map (·.1))).filter fun k => look A k != 0).map fun k => mkP (k, look A k))⟩ := (seq_nx e1).trans ((seq_nx e2).trans (ret_tmp e4))
  refine (def_rt rfl e).trans ?_
  unfold outA
  rw [List.map_map]; rfl
end Sm
set_option Elab.async false
set_option linter.all false
set_option maxRecDepth 100000
set_option maxHeartbeats 1000000
namespace Sm
open PySem L2 Mir Srt
theorem idxT_int {f g : FE} {ρ : Mir.Env} {k k' : Kd} {fr fr' : Bool} {p : List Int} {i : Nat} (h1 : f ρ = .ok ⟨k, fr, .tup (li p)⟩) (h2 : g ρ = .ok ⟨k', fr', .int i⟩) (h : i < p.length) : idxE f g ρ = .ok ⟨.shr, true, .int (p.getD i 0)⟩ := by
  have e : atI (li p) (i : Int) = some (.int (p.getD i 0)) := Mir.atI_nat (row_at h)
  simp only [idxE, h1, h2, R.ok_bind, asS, asI, e, D.imm, Bool.or_true]
abbrev ibody : FS := (seqS (ifS (bT (gtE (idxE (vE 2) (vE 6)) (idxE (vE 2) (vE 5))))
            (setS 4 (subE (cE (.int 0)) (vE 4)))
            nilS)
          (ifS (bT (eqE (idxE (vE 2) (vE 6)) (idxE (vE 2) (vE 5))))
            (setS 3 (cE (.int 0)))
            nilS))
abbrev gbody : FS := (seqS (setS 4 (cE (.int 1)))
      (seqS (forS (rng1I (lenE (vE 2))) (.nm 5)
        (forS (rng1I (vE 5)) (.nm 6)
          (seqS (ifS (bT (gtE (idxE (vE 2) (vE 6)) (idxE (vE 2) (vE 5))))
            (setS 4 (subE (cE (.int 0)) (vE 4)))
            nilS)
          (ifS (bT (eqE (idxE (vE 2) (vE 6)) (idxE (vE 2) (vE 5))))
            (setS 3 (cE (.int 0)))
            nilS))))
      (seqS (setS 7 (tofE (srtIE (vE 2))))
      (dputS 1 (vE 7) (addE (dgtE (vE 1) (vE 7) (cE (.int 0))) (mulE (vE 4) (vE 3)))))))
abbrev F_gath : FS :=
    (seqS (setS 1 (dnewE))
    (seqS (forS (lstI (vE 0)) (.tp [.nm 2, .nm 3]) gbody)
    (retS (srtPE (cmpI (vE 1) 2 (.tp [.nm 0, .nm 1]) (Mir.bIf (bT (neE (vE 1) (cE (.int 0)))) (tupE [vE 0, vE 1])))))))
def nm (b : Prop) [Decidable b] (n : Int) : Int := if b then n else 0
theorem take_filt (p : List Int) (c : Int → Bool) (k : Nat) (h : k < p.length) : ((p.take (k + 1)).filter c).length = ((p.take k).filter c).length + if c (p.getD k 0) then 1 else 0 := by
  have e : p.take (k + 1) = p.take k ++ [p.getD k 0] := by
    rw [List.take_add_one]; simp [h]
  rw [e, List.filter_append, List.length_append]
  generalize p.getD k 0 = x
  cases z : c x <;> simp [z]
theorem take_mem (p : List Int) (k : Nat) (h : k < p.length) (x : Int) : x ∈ p.take (k + 1) ↔ x ∈ p.take k ∨ x = p.getD k 0 := by
  have e : p.take (k + 1) = p.take k ++ [p.getD k 0] := by
    rw [List.take_add_one]; simp [h]
  rw [e]; simp
theorem take_nodup (p : List Int) (k : Nat) (h : k < p.length) : (p.take (k + 1)).Nodup ↔ (p.take k).Nodup ∧ p.getD k 0 ∉ p.take k := by
  have e : p.take (k + 1) = p.take k ++ [p.getD k 0] := by
    rw [List.take_add_one]; simp [h]
  rw [e, List.nodup_append]
  constructor
  · intro ⟨a, _, c⟩
    exact ⟨a, fun m => c _ m _ (List.mem_singleton.mpr rfl) rfl⟩
  · intro ⟨a, c⟩
    exact ⟨a, by simp, fun x hx y hy => by rw [List.mem_singleton.mp hy]; exact fun z => c (z ▸ hx)⟩
variable (a0 a1 x7 : Option Res) (f2 : Bool) (p : List Int) (n : Int)
abbrev gE (a0 a1 x7 : Option Res) (f2 : Bool) (p : List Int) (f3 : Bool) (m s : Int) (x5 x6 : Option Res) : Mir.Env := [a0, a1, some ⟨.shr, f2, .tup (li p)⟩, some ⟨.shr, f3, .int m⟩, some ⟨.shr, true, .int s⟩, x5, x6, x7]
theorem in_body (j k : Nat) (hj : j < p.length) (hk : k < p.length) (f3 f5 f6 : Bool) (m s : Int) : ∃ f3',
    ibody (gE a0 a1 x7 f2 p f3 m s (some ⟨.shr, f5, .int j⟩) (some ⟨.shr, f6, .int k⟩)) = .nx (gE a0 a1 x7 f2 p f3' (if p.getD k 0 = p.getD j 0 then 0 else m) (if p.getD j 0 < p.getD k 0 then 0 - s else s) (some ⟨.shr, f5, .int j⟩) (some ⟨.shr, f6, .int k⟩)) := by
  have i6 : ∀ s, idxE (vE 2) (vE 6) (gE a0 a1 x7 f2 p f3 m s (some ⟨.shr, f5, .int j⟩) (some ⟨.shr, f6, .int k⟩)) = .ok ⟨.shr, true, .int (p.getD k 0)⟩ := fun s => idxT_int (k := .shr) (fr := f2 || (D.tup (li p)).imm) (k' := .shr) (fr' := f6 || (D.int (k : Int)).imm) rfl rfl hk
  have i5 : ∀ s, idxE (vE 2) (vE 5) (gE a0 a1 x7 f2 p f3 m s (some ⟨.shr, f5, .int j⟩) (some ⟨.shr, f6, .int k⟩)) = .ok ⟨.shr, true, .int (p.getD j 0)⟩ := fun s => idxT_int (k := .shr) (fr := f2 || (D.tup (li p)).imm) (k' := .shr) (fr' := f5 || (D.int (j : Int)).imm) rfl rfl hj
  have e1 : ifS (bT (gtE (idxE (vE 2) (vE 6)) (idxE (vE 2) (vE 5)))) (setS 4 (subE (cE (.int 0)) (vE 4))) nilS (gE a0 a1 x7 f2 p f3 m s (some ⟨.shr, f5, .int j⟩) (some ⟨.shr, f6, .int k⟩)) = .nx (gE a0 a1 x7 f2 p f3 m (if p.getD j 0 < p.getD k 0 then 0 - s else s) (some ⟨.shr, f5, .int j⟩) (some ⟨.shr, f6, .int k⟩)) := by
    refine (if_t (b := decide (p.getD j 0 < p.getD k 0)) (bT_ok (cmp_int (G := fun i j => decide (j < i)) (i6 s) (i5 s)))).trans ?_
    by_cases z : p.getD j 0 < p.getD k 0
    · rw [decide_eq_true z, if_pos z]
      exact set_shr (i2_ok (k := .shr) (fr := true) (i := 0) (k' := .shr) (fr' := true) (j := s) rfl rfl rfl)
    · rw [decide_eq_false z, if_neg z]; rfl
  generalize (if p.getD j 0 < p.getD k 0 then 0 - s else s) = s' at *
  have e2 : ∃ f3', ifS (bT (eqE (idxE (vE 2) (vE 6)) (idxE (vE 2) (vE 5)))) (setS 3 (cE (.int 0))) nilS (gE a0 a1 x7 f2 p f3 m s' (some ⟨.shr, f5, .int j⟩) (some ⟨.shr, f6, .int k⟩)) = .nx (gE a0 a1 x7 f2 p f3' (if p.getD k 0 = p.getD j 0 then 0 else m) s' (some ⟨.shr, f5, .int j⟩) (some ⟨.shr, f6, .int k⟩)) := by
    rw [if_t (bT_ok (eq_int (i6 s') (i5 s')))]
    by_cases z : p.getD k 0 = p.getD j 0
    · rw [decide_eq_true z, if_pos z]; exact ⟨true, rfl⟩
    · rw [decide_eq_false z, if_neg z]; exact ⟨f3, rfl⟩
  obtain ⟨f3', e2⟩ := e2
  exact ⟨f3', (seq_nx e1).trans e2⟩
theorem in_loop (j : Nat) (hj : j < p.length) (hz : p.length < 1000) (f3 f5 : Bool) (x6 : Option Res) : ∃ f3' x6',
    forS (rng1I (vE 5)) (.nm 6) ibody (gE a0 a1 x7 f2 p f3 (nm ((p.take j).Nodup) n) (sgn (invs p j)) (some ⟨.shr, f5, .int j⟩) x6) = .nx (gE a0 a1 x7 f2 p f3' (nm ((p.take (j + 1)).Nodup) n) (sgn (invs p (j + 1))) (some ⟨.shr, f5, .int j⟩) x6') := by
  obtain ⟨ρ', l1, f3', x6', l2⟩ := forL_nat (tg := .nm 6) (b := ibody) (fr := true) (inj := fun k => .int (k : Int))
    (E := fun k ρ => ∃ f3' x6', ρ = gE a0 a1 x7 f2 p f3' (nm ((p.take j).Nodup ∧ p.getD j 0 ∉ p.take k) n) (sgn (invs p j + ((p.take k).filter fun b => decide (p.getD j 0 < b)).length)) (some ⟨.shr, f5, .int j⟩) x6') j 0 (gE a0 a1 x7 f2 p f3 (nm ((p.take j).Nodup) n) (sgn (invs p j)) (some ⟨.shr, f5, .int j⟩) x6) ⟨f3, x6, by simp [nm]⟩ fun k _ hk ρ ⟨f3', x6', e⟩ => by
      subst e
      obtain ⟨f4, eb⟩ := in_body a0 a1 x7 f2 p j k hj (by omega) f3' f5 true (nm ((p.take j).Nodup ∧ p.getD j 0 ∉ p.take k) n) (sgn (invs p j + ((p.take k).filter fun b => decide (p.getD j 0 < b)).length))
      refine ⟨_, _, rfl, eb, f4, some ⟨.shr, true, .int (k : Int)⟩, ?_⟩
      have hkp : k < p.length := by omega
      have e1 : (if p.getD k 0 = p.getD j 0 then 0 else nm ((p.take j).Nodup ∧ p.getD j 0 ∉ p.take k) n) = nm ((p.take j).Nodup ∧ p.getD j 0 ∉ p.take (k + 1)) n := by
        unfold nm
        have m := take_mem p k hkp (p.getD j 0)
        by_cases z : p.getD k 0 = p.getD j 0
        · rw [if_pos z, if_neg fun w => w.2 (m.mpr (.inr z.symm))]
        · rw [if_neg z]
          by_cases w : (p.take j).Nodup ∧ p.getD j 0 ∉ p.take k
          · rw [if_pos w, if_pos ⟨w.1, fun q => (m.mp q).elim w.2 fun q => z q.symm⟩]
          · rw [if_neg w, if_neg fun q => w ⟨q.1, fun q' => q.2 (m.mpr (.inl q'))⟩]
      have e2 : (if p.getD j 0 < p.getD k 0 then 0 - sgn (invs p j + ((p.take k).filter fun b => decide (p.getD j 0 < b)).length) else sgn (invs p j + ((p.take k).filter fun b => decide (p.getD j 0 < b)).length)) = sgn (invs p j + ((p.take (k + 1)).filter fun b => decide (p.getD j 0 < b)).length) := by
        rw [take_filt p _ k hkp]
        by_cases z : p.getD j 0 < p.getD k 0
        · rw [if_pos z, decide_eq_true z, if_pos rfl, ← Nat.add_assoc, sgn_succ]
        · rw [if_neg z, decide_eq_false z, if_neg (by decide), Nat.add_zero]
      rw [e1, e2]
  rw [Nat.zero_add] at l2
  refine ⟨f3', x6', ?_⟩
  refine (for_ok (fr := true) (ds := (List.range j).map fun (i : Nat) => .int (i : Int)) (rng1_ok (k := .shr) (fr := f5 || (D.int (j : Int)).imm) rfl (by omega))).trans ?_
  rw [List.range_eq_range', l1, l2]
  have e3 : nm ((p.take j).Nodup ∧ p.getD j 0 ∉ p.take j) n = nm ((p.take (j + 1)).Nodup) n := by
    unfold nm
    by_cases z : (p.take (j + 1)).Nodup
    · rw [if_pos z, if_pos ((take_nodup p j hj).mp z)]
    · rw [if_neg z, if_neg fun w => z ((take_nodup p j hj).mpr w)]
  rw [e3]; rfl
end Sm
set_option Elab.async false
set_option linter.all false
set_option maxRecDepth 100000
set_option maxHeartbeats 1000000
namespace Sm
open PySem L2 Mir Srt
theorem out_loop (a0 a1 x7 : Option Res) (f2 : Bool) (p : List Int) (n : Int) (hz : p.length < 1000) (f3 : Bool) (x5 x6 : Option Res) : ∃ f3' x5' x6',
    forS (rng1I (lenE (vE 2))) (.nm 5) (forS (rng1I (vE 5)) (.nm 6) ibody) (gE a0 a1 x7 f2 p f3 n 1 x5 x6) = .nx (gE a0 a1 x7 f2 p f3' (nm (p.Nodup) n) (sgn (inv p)) x5' x6') := by
  obtain ⟨ρ', l1, f3', x5', x6', l2⟩ := forL_nat (tg := .nm 5) (b := forS (rng1I (vE 5)) (.nm 6) ibody) (fr := true) (inj := fun k => .int (k : Int))
    (E := fun j ρ => ∃ f3' x5' x6', ρ = gE a0 a1 x7 f2 p f3' (nm ((p.take j).Nodup) n) (sgn (invs p j)) x5' x6') p.length 0 (gE a0 a1 x7 f2 p f3 n 1 x5 x6) ⟨f3, x5, x6, by simp [nm, invs, sgn]⟩ fun j _ hj ρ ⟨f3', x5', x6', e⟩ => by
      subst e
      obtain ⟨f4, y6, eb⟩ := in_loop a0 a1 x7 f2 p n j (by omega) hz f3' true x6'
      exact ⟨_, _, rfl, eb, f4, some ⟨.shr, true, .int (j : Int)⟩, y6, rfl⟩
  rw [Nat.zero_add] at l2
  refine ⟨f3', x5', x6', ?_⟩
  have e0 : lenE (vE 2) (gE a0 a1 x7 f2 p f3 n 1 x5 x6) = .ok ⟨.shr, true, .int (p.length : Nat)⟩ := by
    refine (lenT_ok (k := .shr) (fr := f2 || (D.tup (li p)).imm) (ds := li p) rfl).trans ?_
    rw [List.length_map]; rfl
  refine (for_ok (fr := true) (ds := (List.range p.length).map fun (i : Nat) => .int (i : Int)) (rng1_ok e0 (by omega))).trans ?_
  rw [List.range_eq_range', l1, l2, List.take_length]; rfl
theorem val_nm (t : Tm) : val t = sgn (inv t.1) * nm (t.1.Nodup) t.2 := by
  unfold val nm
  split
  · rfl
  · rw [Int.mul_zero]
theorem nm_le (b : Prop) [Decidable b] (n : Int) : (nm b n).natAbs ≤ n.natAbs := by
  unfold nm
  split
  · exact Nat.le_refl _
  · exact Nat.zero_le _
theorem gath_body (a0 x4 x5 x6 x7 : Option Res) (A : List Tm) (t : Tm) (h1 : t.1.length < 64) (h2 : t.2.natAbs < 2 ^ 1000) (hA : A.length < sizeLine) (f2 f3 : Bool) : ∃ y3 y4 y5 y6 y7,
    gbody [a0, some ⟨.own, true, dK A⟩, some ⟨.shr, f2, .tup (li t.1)⟩, some ⟨.shr, f3, .int t.2⟩, x4, x5, x6, x7] = .nx [a0, some ⟨.own, true, dK (step A t)⟩, some ⟨.shr, f2, .tup (li t.1)⟩, y3, y4, y5, y6, y7] := by
  have e1 : setS 4 (cE (.int 1)) [a0, some ⟨.own, true, dK A⟩, some ⟨.shr, f2, .tup (li t.1)⟩, some ⟨.shr, f3, .int t.2⟩, x4, x5, x6, x7] = .nx (gE a0 (some ⟨.own, true, dK A⟩) x7 f2 t.1 f3 t.2 1 x5 x6) := rfl
  obtain ⟨f3', y5, y6, e2⟩ := out_loop a0 (some ⟨.own, true, dK A⟩) x7 f2 t.1 t.2 (by omega) f3 x5 x6
  have e3 : setS 7 (tofE (srtIE (vE 2))) (gE a0 (some ⟨.own, true, dK A⟩) x7 f2 t.1 f3' (nm (t.1.Nodup) t.2) (sgn (inv t.1)) y5 y6) = .nx (gE a0 (some ⟨.own, true, dK A⟩) (some ⟨.shr, true, .tup (li (key t))⟩) f2 t.1 f3' (nm (t.1.Nodup) t.2) (sgn (inv t.1)) y5 y6) :=
    set_shr (tof_ok (srtI_ok (k := .shr) (fr := f2 || (D.tup (li t.1)).imm) rfl h1))
  obtain ⟨f8, e4⟩ := dgt_ok (a := vE 1) (k := vE 7) (x := cE (.int 0)) (ρ := gE a0 (some ⟨.own, true, dK A⟩) (some ⟨.shr, true, .tup (li (key t))⟩) f2 t.1 f3' (nm (t.1.Nodup) t.2) (sgn (inv t.1)) y5 y6) (A := A) (q := key t) (kd := .own) (kd' := .shr) (kd'' := .shr) (fr := true) (fr' := true) (fr'' := true) rfl rfl rfl
  have b1 : (sgn (inv t.1)).natAbs ≤ 1 := by rcases sgn_or (inv t.1) with z | z <;> rw [z] <;> decide
  have e5 : addE (dgtE (vE 1) (vE 7) (cE (.int 0))) (mulE (vE 4) (vE 3)) (gE a0 (some ⟨.own, true, dK A⟩) (some ⟨.shr, true, .tup (li (key t))⟩) f2 t.1 f3' (nm (t.1.Nodup) t.2) (sgn (inv t.1)) y5 y6) = .ok ⟨.shr, true, .int (look A (key t) + val t)⟩ := by
    rw [val_nm]
    exact i2_ok e4 (i2_ok (k := .shr) (fr := true) (k' := .shr) (fr' := f3' || (D.int (nm (t.1.Nodup) t.2)).imm) rfl rfl (CM_of (small (M := 1) (lt1000 (by decide)) b1) (Nat.lt_of_le_of_lt (nm_le _ _) h2))) rfl
  have e6 := dput_ok (fr := true) (i := 1) (k := vE 7) (ρ := gE a0 (some ⟨.own, true, dK A⟩) (some ⟨.shr, true, .tup (li (key t))⟩) f2 t.1 f3' (nm (t.1.Nodup) t.2) (sgn (inv t.1)) y5 y6) (A := A) (q := key t) (kd' := .shr) (fr' := true) rfl e5 (by decide) rfl hA
  exact ⟨_, _, _, _, _, (seq_nx e1).trans ((seq_nx e2).trans ((seq_nx e3).trans e6))⟩
theorem pairs_mk : ∀ A : List Tm, pairsR (A.map mkP) = .ok A
  | [] => rfl
  | t :: A => by
    have e : asP (mkP t) = .ok t := by
      show (intsR (li t.1) >>= fun k => .ok (k, t.2)) = .ok t
      rw [ints_li]; rfl
    simp only [List.map_cons, pairsR, e, pairs_mk A, R.ok_bind]
theorem items_mk (A : List Tm) : itD (A.map (·.1)) (A.map (·.2)) = A.map mkP := by
  unfold itD
  congr 1
  induction A with
  | nil => rfl
  | cons t A ih => simp only [List.map_cons, List.zip_cons_cons, ih]
theorem imm_li (p : List Int) : (D.tup (li p)).imm = true := imms_ints p
theorem gathered_g {ts : List Tm} (F : Fit ts) : defR 1 8 F_gath [.lst (ts.map mkP)] = .ok ⟨.tmp, true, .lst ((sumP ts).map mkP)⟩ := by
  have e1 : setS 1 dnewE [some ⟨.shr, false, .lst (ts.map mkP)⟩, none, none, none, none, none, none, none] = .nx [some ⟨.shr, false, .lst (ts.map mkP)⟩, some ⟨.own, true, dK []⟩, none, none, none, none, none, none] := rfl
  obtain ⟨ρ', l1, x2, x3, x4, x5, x6, x7, l3⟩ := dict_loop (tg := .tp [.nm 2, .nm 3]) (b := gbody) (fr := false)
    (E := fun A ρ => ∃ x2 x3 x4 x5 x6 x7, ρ = [some ⟨.shr, false, .lst (ts.map mkP)⟩, some ⟨.own, true, dK A⟩, x2, x3, x4, x5, x6, x7]) ts [] [some ⟨.shr, false, .lst (ts.map mkP)⟩, some ⟨.own, true, dK []⟩, none, none, none, none, none, none] (by simpa using F.ln) ⟨none, none, none, none, none, none, rfl⟩ fun t ht A ρ hA ⟨x2, x3, x4, x5, x6, x7, e⟩ => by
      subst e
      obtain ⟨y3, y4, y5, y6, y7, eb⟩ := gath_body (some ⟨.shr, false, .lst (ts.map mkP)⟩) x4 x5 x6 x7 A t (F.pl t ht) (F.nb t ht) (by rw [sizeLine_eq]; omega) false false
      exact ⟨[some ⟨.shr, false, .lst (ts.map mkP)⟩, some ⟨.own, true, dK A⟩, some ⟨.shr, false, .tup (li t.1)⟩, some ⟨.shr, false, .int t.2⟩, x4, x5, x6, x7], _, rfl, eb, _, _, _, _, _, _, rfl⟩
  have e2 : forS (lstI (vE 0)) (.tp [.nm 2, .nm 3]) gbody [some ⟨.shr, false, .lst (ts.map mkP)⟩, some ⟨.own, true, dK []⟩, none, none, none, none, none, none] = .nx [some ⟨.shr, false, .lst (ts.map mkP)⟩, some ⟨.own, true, dK (acc [] ts)⟩, x2, x3, x4, x5, x6, x7] := by
    refine (for_ok (fr := false) (ds := ts.map mkP) rfl).trans ?_
    rw [← l3]; exact l1
  have hks := F.ks
  unfold sumP
  generalize acc [] ts = A at *
  have e3 : cmpI (vE 1) 2 (.tp [.nm 0, .nm 1]) (Mir.bIf (bT (neE (vE 1) (cE (.int 0)))) (tupE [vE 0, vE 1])) [some ⟨.shr, false, .lst (ts.map mkP)⟩, some ⟨.own, true, dK A⟩, x2, x3, x4, x5, x6, x7] = .ok ⟨.tmp, true, .lst ((A.filter fun p => p.2 != 0).map mkP)⟩ := by
    have c1 : cmpL (.tp [.nm 0, .nm 1]) (Mir.bIf (bT (neE (vE 1) (cE (.int 0)))) (tupE [vE 0, vE 1])) false (List.replicate 2 none) (A.map mkP) = .ok (true, (A.filter fun p => p.2 != 0).map mkP) := by
      refine cmpL_filt A fun t _ => ⟨[some ⟨.shr, false, .tup (li t.1)⟩, some ⟨.shr, false, .int t.2⟩], .shr, rfl, ?_, by decide⟩
      refine bIf_ok (r := ⟨.shr, true, mkP t⟩) (c := t.2 != 0) (bT_ok (ne_int (k := .shr) (fr := true) (i := t.2) (k' := .shr) (fr' := true) (j := 0) rfl rfl)) fun _ => ?_
      have v0 : vE 0 [some ⟨.shr, false, .tup (li t.1)⟩, some ⟨.shr, false, .int t.2⟩] = .ok ⟨.shr, true, .tup (li t.1)⟩ := by
        show R.ok (⟨.shr, false || (D.tup (li t.1)).imm, .tup (li t.1)⟩ : Res) = _
        rw [imm_li]; rfl
      exact tup2_ok (k' := .shr) (fr' := true) (d' := .int t.2) v0 rfl (by decide) (by decide)
    have i1 : intsR (A.map fun p => D.int p.2) = .ok (A.map (·.2)) := by
      have := ints_li (A.map (·.2))
      rwa [show li (A.map (·.2)) = A.map fun p => D.int p.2 by simp [li]] at this
    have hz : (A.map (·.1)).length ≤ sizeLine ∧ (true, (A.filter fun p => p.2 != 0).map mkP).1 = true := ⟨by rw [List.length_map, sizeLine_eq]; omega, rfl⟩
    have v1 : vE 1 [some ⟨.shr, false, .lst (ts.map mkP)⟩, some ⟨.own, true, dK A⟩, x2, x3, x4, x5, x6, x7] = .ok ⟨.own, true, .dct (A.map (·.1)) (A.map fun p => .int p.2)⟩ := rfl
    simp only [cmpI, v1, R.ok_bind, i1, items_mk, c1]
    exact if_pos ⟨hz.1, trivial⟩
  have hl : (A.filter fun p => p.2 != 0).length < 64 := Nat.lt_of_le_of_lt (List.length_filter_le _ _) hks
  have e4 : srtPE (cmpI (vE 1) 2 (.tp [.nm 0, .nm 1]) (Mir.bIf (bT (neE (vE 1) (cE (.int 0)))) (tupE [vE 0, vE 1]))) [some ⟨.shr, false, .lst (ts.map mkP)⟩, some ⟨.own, true, dK A⟩, x2, x3, x4, x5, x6, x7] = .ok ⟨.tmp, true, .lst ((outB A).map mkP)⟩ := by
    simp only [srtPE, e3, R.ok_bind, asL, pairs_mk]
    exact if_pos hl
  have e : F_gath [some ⟨.shr, false, .lst (ts.map mkP)⟩, none, none, none, none, none, none, none] = .rt ⟨.tmp, true, .lst ((outB A).map mkP)⟩ := (seq_nx e1).trans ((seq_nx e2).trans (ret_tmp e4))
  exact (def_rt rfl e).trans rfl
end Sm
set_option Elab.async false
set_option linter.all false
set_option maxRecDepth 100000
set_option maxHeartbeats 1000000
namespace Sm
open PySem L2 Mir Srt
theorem nodup_le : ∀ {l m : List Nat}, l.Nodup → (∀ x ∈ l, x ∈ m) → l.length ≤ m.length
  | [], m, _, _ => Nat.zero_le _
  | a :: l, m, h, s => by
    obtain ⟨h1, h2⟩ := List.nodup_cons.mp h
    have ha := s a List.mem_cons_self
    have := nodup_le (l := l) (m := m.erase a) h2 fun x hx => (List.mem_erase_of_ne (fun z : x = a => h1 (by rw [← z]; exact hx))).mpr (s x (List.mem_cons_of_mem _ hx))
    rw [List.length_erase_of_mem ha] at this
    have := List.length_pos_of_mem ha
    rw [List.length_cons]; omega
def code (k : List Int) : Nat := k.count 0 + 3 * k.count 1 + 9 * k.count 2 + 27 * k.count 3 + 81 * k.count 4
def dsum (n : Nat) : Nat := n % 3 + n / 3 % 3 + n / 9 % 3 + n / 27 % 3 + n / 81 % 3
theorem few_codes : ∀ T, T ≤ 10 → ((List.range 243).filter fun n => dsum n == T).length ≤ 51 := by decide +kernel
theorem dsum_code : ∀ a, a < 3 → ∀ b, b < 3 → ∀ c, c < 3 → ∀ d, d < 3 → ∀ e, e < 3 → dsum (a + 3 * b + 9 * c + 27 * d + 81 * e) = a + b + c + d + e := by decide +kernel
theorem count_sum : ∀ (k : List Int), (∀ x ∈ k, 0 ≤ x ∧ x < 5) → k.length = k.count 0 + k.count 1 + k.count 2 + k.count 3 + k.count 4
  | [], _ => rfl
  | x :: k, h => by
    have ih := count_sum k fun y hy => h y (List.mem_cons_of_mem _ hy)
    obtain ⟨a, b⟩ := h x List.mem_cons_self
    have hx : x = 0 ∨ x = 1 ∨ x = 2 ∨ x = 3 ∨ x = 4 := by omega
    rcases hx with e | e | e | e | e <;> subst e <;> simp [List.count_cons, ih] <;> omega
theorem few_keys {ks : List (List Int)} {T : Nat} (nd : ks.Nodup) (hs : ∀ k ∈ ks, k = srt ix k) (rg : ∀ k ∈ ks, ∀ x ∈ k, 0 ≤ x ∧ x < 5) (c2 : ∀ k ∈ ks, ∀ x, k.count x ≤ 2) (ln : ∀ k ∈ ks, k.length = T) : ks.length ≤ 51 := by
  by_cases hT : T ≤ 10
  · have inj : (ks.map code).Nodup := by
      show List.Pairwise (fun a b => a ≠ b) (ks.map code)
      rw [List.pairwise_map]
      refine List.Pairwise.imp_of_mem (fun {a b} ha hb n e => n ?_) nd
      have a0 := c2 a ha 0; have a1 := c2 a ha 1; have a2 := c2 a ha 2; have a3 := c2 a ha 3; have a4 := c2 a ha 4
      have b0 := c2 b hb 0; have b1 := c2 b hb 1; have b2 := c2 b hb 2; have b3 := c2 b hb 3; have b4 := c2 b hb 4
      unfold code at e
      have q0 : a.count 0 = b.count 0 := by omega
      have q1 : a.count 1 = b.count 1 := by omega
      have q2 : a.count 2 = b.count 2 := by omega
      have q3 : a.count 3 = b.count 3 := by omega
      have q4 : a.count 4 = b.count 4 := by omega
      have pm : a.Perm b := by
        rw [List.perm_iff_count]
        intro x
        by_cases hx : 0 ≤ x ∧ x < 5
        · have hx : x = 0 ∨ x = 1 ∨ x = 2 ∨ x = 3 ∨ x = 4 := by omega
          rcases hx with e | e | e | e | e <;> subst e <;> assumption
        · rw [List.count_eq_zero_of_not_mem fun m => hx (rg a ha x m), List.count_eq_zero_of_not_mem fun m => hx (rg b hb x m)]
      rw [hs a ha, hs b hb]
      exact srt_eq ix_tot ((srt_perm a).trans pm) (srt_up ix_tot a)
    have sub : ∀ n ∈ ks.map code, n ∈ (List.range 243).filter fun n => dsum n == T := by
      intro n hn
      obtain ⟨k, hk, rfl⟩ := List.mem_map.mp hn
      have a0 := c2 k hk 0; have a1 := c2 k hk 1; have a2 := c2 k hk 2; have a3 := c2 k hk 3; have a4 := c2 k hk 4
      have s := count_sum k (rg k hk)
      rw [ln k hk] at s
      rw [List.mem_filter, List.mem_range, beq_iff_eq]
      unfold code
      rw [dsum_code _ (by omega) _ (by omega) _ (by omega) _ (by omega) _ (by omega)]
      omega
    have := nodup_le inj sub
    rw [List.length_map] at this
    exact Nat.le_trans this (few_codes T hT)
  · cases ks with
    | nil => exact Nat.zero_le _
    | cons k r =>
      have a0 := c2 k List.mem_cons_self 0; have a1 := c2 k List.mem_cons_self 1; have a2 := c2 k List.mem_cons_self 2; have a3 := c2 k List.mem_cons_self 3; have a4 := c2 k List.mem_cons_self 4
      have s := count_sum k (rg k List.mem_cons_self)
      rw [ln k List.mem_cons_self] at s
      omega
end Sm
set_option Elab.async false
set_option linter.all false
set_option maxRecDepth 100000
set_option maxHeartbeats 1000000
namespace Sm
open PySem L2 Mir Srt
structure Sum (L : Nat) (ts : List Tm) : Prop where
  ln : ts.length ≤ 20
  hL : L ≤ 20
  sz : ∀ t ∈ ts, t.1.length = L
  rg : ∀ t ∈ ts, ∀ x ∈ t.1, 0 ≤ x ∧ x < 5
  nd : ∀ t ∈ ts, t.1.Nodup
  nb : ∀ t ∈ ts, t.2.natAbs ≤ 2 ^ 240
theorem outB_mem {A : List Tm} {p : Tm} (h : p ∈ outB A) : p ∈ A ∧ p.2 ≠ 0 := by
  have := (srt_perm (r := px) (A.filter fun p => p.2 != 0)).mem_iff.mp h
  obtain ⟨a, b⟩ := List.mem_filter.mp this
  exact ⟨a, by simpa using b⟩
theorem outB_len (A : List Tm) : (outB A).length ≤ A.length := by
  unfold outB
  rw [srt_len]
  exact List.length_filter_le _ _
theorem key_perm (t : Tm) : (key t).Perm t.1 := srt_perm _
theorem sum_of {ts : List Tm} {L : Nat} (hL : L ≤ 20) (ln : ts.length ≤ 20) (sz : ∀ t ∈ ts, t.1.length = L) (rg : ∀ t ∈ ts, ∀ x ∈ t.1, 0 ≤ x ∧ x < 5) (nd : ∀ t ∈ ts, t.1.Nodup) (nb : ∀ t ∈ ts, t.2.natAbs ≤ 2 ^ 31) : Sum L (sumP ts) := by
  have key_of : ∀ p ∈ sumP ts, ∃ t ∈ ts, p.1 = key t := fun p hp => by
    rcases acc_keys ts [] (List.mem_map_of_mem (outB_mem hp).1) with z | z
    · cases z
    · exact z
  refine ⟨?_, hL, fun p hp => ?_, fun p hp x hx => ?_, fun p hp => ?_, fun p hp => ?_⟩
  · have h1 := outB_len (acc [] ts)
    have h2 := acc_len ts []
    simp only [List.length_nil] at h2
    show (outB (acc [] ts)).length ≤ 20
    omega
  · obtain ⟨t, ht, e⟩ := key_of p hp
    rw [e, key_len]; exact sz t ht
  · obtain ⟨t, ht, e⟩ := key_of p hp
    rw [e] at hx
    exact rg t ht x ((key_perm t).mem_iff.mp hx)
  · obtain ⟨t, ht, e⟩ := key_of p hp
    rw [e]; exact (key_perm t).nodup_iff.mpr (nd t ht)
  · have := acc_le ts [] (M := 0) (fun _ h => nomatch h) nb p (outB_mem hp).1
    have h2 : ts.length * 2 ^ 31 ≤ 20 * 2 ^ 31 := Nat.mul_le_mul_right _ ln
    omega
theorem le1000 {n : Nat} (h : n ≤ 2 ^ 900) : n < 2 ^ 1000 := Nat.lt_of_le_of_lt h (Nat.pow_lt_pow_right (by decide) (by decide))
theorem Sum.fit2 {L : Nat} {a b : List Tm} (ha : Sum L a) (hb : Sum L b) : Fit (a ++ b) := by
  have hl := ha.hL
  have l1 := ha.ln
  have l2 := hb.ln
  have both : ∀ {Q : Tm → Prop}, (∀ t ∈ a, Q t) → (∀ t ∈ b, Q t) → ∀ t ∈ a ++ b, Q t := fun h1 h2 t ht => (List.mem_append.mp ht).elim (h1 t) (h2 t)
  have h3 := acc_len (a ++ b) []
  rw [List.length_append, List.length_nil] at h3
  refine ⟨both (fun t ht => by rw [ha.sz t ht]; omega) (fun t ht => by rw [hb.sz t ht]; omega), both (fun t ht => le1000 (Nat.le_trans (ha.nb t ht) (Nat.pow_le_pow_right (by decide) (by decide)))) (fun t ht => le1000 (Nat.le_trans (hb.nb t ht) (Nat.pow_le_pow_right (by decide) (by decide)))), by omega, ⟨L, both ha.sz hb.sz⟩, by rw [List.length_append]; omega⟩
def timT (a : List Tm) (k : Int) : List Tm := a.map fun t => (t.1, t.2 * k)
theorem Sum.fitT {L : Nat} {a : List Tm} (ha : Sum L a) {k : Int} (hk : k.natAbs ≤ 2 ^ 80) : Fit (timT a k) := by
  have hl := ha.hL
  have l1 := ha.ln
  have ll : (timT a k).length = a.length := List.length_map _
  have mem : ∀ t ∈ timT a k, ∃ u ∈ a, t = (u.1, u.2 * k) := fun t ht => by
    obtain ⟨u, hu, e⟩ := List.mem_map.mp ht
    exact ⟨u, hu, e.symm⟩
  have h3 := acc_len (timT a k) []
  rw [List.length_nil, ll] at h3
  refine ⟨fun t ht => ?_, fun t ht => ?_, by omega, ⟨L, fun t ht => ?_⟩, by omega⟩
  · obtain ⟨u, hu, rfl⟩ := mem t ht
    show u.1.length < 64
    rw [ha.sz u hu]; omega
  · obtain ⟨u, hu, rfl⟩ := mem t ht
    refine le1000 ?_
    show (u.2 * k).natAbs ≤ _
    rw [Int.natAbs_mul]
    exact Nat.le_trans (Nat.mul_le_mul (ha.nb u hu) hk) (by rw [← Nat.pow_add]; exact Nat.pow_le_pow_right (by decide) (by decide))
  · obtain ⟨u, hu, rfl⟩ := mem t ht
    exact ha.sz u hu
def prodT (a b : List Tm) : List Tm := a.flatMap fun s => b.map fun t => (s.1 ++ t.1, s.2 * t.2)
theorem Sum.fitP {L K : Nat} {a b : List Tm} (ha : Sum L a) (hb : Sum K b) : Fit (prodT a b) := by
  have hl := ha.hL
  have hk := hb.hL
  have l1 := ha.ln
  have l2 := hb.ln
  have mem : ∀ t ∈ prodT a b, ∃ u ∈ a, ∃ v ∈ b, t = (u.1 ++ v.1, u.2 * v.2) := fun t ht => by
    obtain ⟨u, hu, h⟩ := List.mem_flatMap.mp ht
    obtain ⟨v, hv, e⟩ := List.mem_map.mp h
    exact ⟨u, hu, v, hv, e.symm⟩
  have szs : ∀ t ∈ prodT a b, t.1.length = L + K := fun t ht => by
    obtain ⟨u, hu, v, hv, rfl⟩ := mem t ht
    rw [List.length_append, ha.sz u hu, hb.sz v hv]
  have lnn : (prodT a b).length ≤ 400 := by
    have : ∀ c : List Tm, (c.flatMap fun s => b.map fun t => (s.1 ++ t.1, s.2 * t.2)).length = c.length * b.length := by
      intro c
      induction c with
      | nil => simp
      | cons x c ih => rw [List.flatMap_cons, List.length_append, ih, List.length_map, List.length_cons, Nat.succ_mul, Nat.add_comm]
    show (a.flatMap fun s => b.map fun t => (s.1 ++ t.1, s.2 * t.2)).length ≤ 400
    rw [this a]
    exact Nat.le_trans (Nat.mul_le_mul l1 l2) (by decide)
  refine ⟨fun t ht => by rw [szs t ht]; omega, fun t ht => ?_, ?_, ⟨L + K, szs⟩, by omega⟩
  · obtain ⟨u, hu, v, hv, rfl⟩ := mem t ht
    refine le1000 ?_
    show (u.2 * v.2).natAbs ≤ _
    rw [Int.natAbs_mul]
    exact Nat.le_trans (Nat.mul_le_mul (ha.nb u hu) (hb.nb v hv)) (by rw [← Nat.pow_add]; exact Nat.pow_le_pow_right (by decide) (by decide))
  · have of : ∀ k ∈ (acc [] (prodT a b)).map (·.1), ∃ u ∈ a, ∃ v ∈ b, k.Perm (u.1 ++ v.1) ∧ k = srt ix k ∧ k.length = L + K := fun k hk => by
      rcases acc_keys (prodT a b) [] hk with z | ⟨t, ht, e⟩
      · cases z
      · obtain ⟨u, hu, v, hv, et⟩ := mem t ht
        refine ⟨u, hu, v, hv, ?_, ?_, ?_⟩
        · rw [e]; have := key_perm t; rw [et] at this ⊢; exact this
        · rw [e]; exact srt_eq ix_tot (List.Perm.refl _) (srt_up ix_tot _)
        · rw [e, key_len]; exact szs t ht
    have := few_keys (ks := (acc [] (prodT a b)).map (·.1)) (T := L + K) (acc_nodup _ [] List.nodup_nil) (fun k hk => let ⟨_, _, _, _, _, h, _⟩ := of k hk; h) (fun k hk x hx => by
      obtain ⟨u, hu, v, hv, p, _⟩ := of k hk
      rcases List.mem_append.mp (p.mem_iff.mp hx) with z | z
      · exact ha.rg u hu x z
      · exact hb.rg v hv x z) (fun k hk x => by
      obtain ⟨u, hu, v, hv, p, _⟩ := of k hk
      rw [p.count_eq, List.count_append]
      have c1 := List.nodup_iff_count.mp (ha.nd u hu) x
      have c2 := List.nodup_iff_count.mp (hb.nd v hv) x
      omega) fun k hk => let ⟨_, _, _, _, _, _, h⟩ := of k hk; h
    rw [List.length_map] at this
    omega
end Sm
set_option Elab.async false
set_option linter.all false
set_option maxRecDepth 100000
set_option maxHeartbeats 1000000
namespace Sm
open PySem L2 Mir Srt
theorem inv_sorted {p : List Int} (h : p.Pairwise fun a b => ix b a = false) : inv p = 0 := by
  have go : ∀ j, j ≤ p.length → invs p j = 0 := by
    intro j
    induction j with
    | zero => intro _; rfl
    | succ j ih =>
      intro hj
      have hlt : j < p.length := by omega
      show invs p j + _ = 0
      rw [ih (by omega), Nat.zero_add, List.length_eq_zero_iff, List.filter_eq_nil_iff]
      intro b hb
      obtain ⟨i, hi, e⟩ := List.mem_iff_getElem.mp hb
      have hi' : i < j := by rw [List.length_take] at hi; omega
      have q := (List.pairwise_iff_getElem.mp h) i j (by omega) hlt hi'
      have e2 : b = p[i] := by rw [← e]; simp
      have e3 : p.getD j 0 = p[j] := by simp [hlt]
      rw [e2, e3]
      unfold ix at q
      simpa using q
  exact go p.length (Nat.le_refl _)
structure Told (S : List Tm) : Prop where
  up : ∀ t ∈ S, t.1.Pairwise fun a b => ix b a = false
  nd : ∀ t ∈ S, t.1.Nodup
  ks : (S.map (·.1)).Nodup
  nz : ∀ t ∈ S, t.2 ≠ 0
  so : S.Pairwise fun a b => px b a = false
theorem Told.val {S : List Tm} (h : Told S) {t : Tm} (ht : t ∈ S) : val t = t.2 := by
  unfold Sm.val
  rw [if_pos (h.nd t ht), inv_sorted (h.up t ht)]
  show (1 - 2 * ((0 : Int) % 2)) * t.2 = t.2
  omega
theorem Told.key {S : List Tm} (h : Told S) {t : Tm} (ht : t ∈ S) : key t = t.1 := (srt_eq ix_tot (List.Perm.refl _) (h.up t ht)).symm
theorem told_acc {S : List Tm} (h : Told S) : ∀ (T B : List Tm), (∀ t ∈ T, t ∈ S) → (((B ++ T).map (·.1)).Nodup) → acc B T = B ++ T
  | [], B, _, _ => by simp [acc]
  | t :: T, B, hs, nd => by
    have ht := hs t List.mem_cons_self
    have nm : t.1 ∉ B.map (·.1) := by
      rw [List.map_append, List.nodup_append] at nd
      intro m
      exact nd.2.2 t.1 m t.1 (by simp) rfl
    have e : step B t = B ++ [t] := by
      unfold step
      rw [h.key ht, look_none nm, h.val ht, Int.zero_add]
      unfold put
      rw [if_neg nm]
    show acc (step B t) T = _
    rw [e, told_acc h T (B ++ [t]) (fun u hu => hs u (List.mem_cons_of_mem _ hu)) (by simpa using nd)]
    simp
theorem Told.same {S : List Tm} (h : Told S) : sumP S = S := by
  unfold sumP
  rw [told_acc h S [] (fun _ z => z) (by simpa using h.ks), List.nil_append]
  unfold outB
  have e : S.filter (fun p => p.2 != 0) = S := List.filter_eq_self.mpr fun t ht => by simpa using h.nz t ht
  rw [e]
  exact (srt_eq px_tot (List.Perm.refl _) h.so).symm
theorem told_sum {ts : List Tm} (nd : ∀ t ∈ ts, t.1.Nodup) : Told (sumP ts) := by
  have key_of : ∀ p ∈ sumP ts, ∃ t ∈ ts, p.1 = key t := fun p hp => by
    rcases acc_keys ts [] (List.mem_map_of_mem (outB_mem hp).1) with z | z
    · cases z
    · exact z
  refine ⟨fun p hp => ?_, fun p hp => ?_, ?_, fun p hp => (outB_mem hp).2, srt_up px_tot _⟩
  · obtain ⟨t, ht, e⟩ := key_of p hp
    rw [e]; exact srt_up ix_tot _
  · obtain ⟨t, ht, e⟩ := key_of p hp
    rw [e]; exact (key_perm t).nodup_iff.mpr (nd t ht)
  · have n1 := acc_nodup ts [] List.nodup_nil
    unfold sumP outB
    have pm := (srt_perm (r := px) ((acc [] ts).filter fun p => p.2 != 0)).map (·.1)
    rw [pm.nodup_iff]
    exact List.Nodup.sublist ((List.filter_sublist).map _) n1
theorem prod_unit_l (S : List Tm) : prodT [([], 1)] S = S := by
  unfold prodT
  rw [List.flatMap_cons, List.flatMap_nil, List.append_nil]
  have : ∀ t ∈ S, (([] : List Int) ++ t.1, (1 : Int) * t.2) = t := fun t _ => by rw [List.nil_append, Int.one_mul]
  exact (List.map_congr_left this).trans (List.map_id' _)
theorem prod_unit_r (S : List Tm) : prodT S [([], 1)] = S := by
  unfold prodT
  induction S with
  | nil => rfl
  | cons t S ih =>
    rw [List.flatMap_cons, ih]
    show (t.1 ++ [], t.2 * 1) :: S = t :: S
    rw [List.append_nil, Int.mul_one]
theorem sum_unit : Sum 0 [([], 1)] := by
  refine ⟨by decide, by decide, ?_, ?_, ?_, ?_⟩ <;> intro t ht <;> rw [List.mem_singleton.mp ht]
  · rfl
  · intro x hx; cases hx
  · exact List.nodup_nil
  · decide
theorem sum_nil {L : Nat} (h : L ≤ 20) : Sum L [] := by
  refine ⟨by decide, h, ?_, ?_, ?_, ?_⟩ <;> intro t ht <;> cases ht
end Sm
set_option Elab.async false
set_option linter.all false
set_option maxRecDepth 100000
set_option maxHeartbeats 1000000
namespace Sm
open PySem L2 Mir Srt
abbrev tmsD (ts : List Tm) : D := .lst (ts.map mkP)
def Tells (φ : Φ) : Prop := ∀ ts : List Tm, Fit ts → φ [tmsD ts] = .ok ⟨.tmp, true, tmsD (sumP ts)⟩
theorem cat_ok {f g : FE} {ρ : Mir.Env} {k k' : Kd} {fr fr' : Bool} {a b : List Tm} (h1 : f ρ = .ok ⟨k, fr, tmsD a⟩) (h2 : g ρ = .ok ⟨k', fr', tmsD b⟩) (hz : a.length + b.length ≤ 1000) : catE f g ρ = .ok ⟨.tmp, fr && fr', tmsD (a ++ b)⟩ := by
  have c : (a.map mkP).length + (b.map mkP).length ≤ sizeLine := by rw [List.length_map, List.length_map, sizeLine_eq]; omega
  simp only [catE, h1, h2, R.ok_bind, asL, if_pos c, tmsD, List.map_append]
theorem added_f {φ : Φ} (hφ : Tells φ) {L : Nat} {a b : List Tm} (ha : Sum L a) (hb : Sum L b) : defR 2 2 (retS (callE φ [catE (vE 0) (vE 1)])) [tmsD a, tmsD b] = .ok ⟨.tmp, true, tmsD (sumP (a ++ b))⟩ := by
  have e0 : catE (vE 0) (vE 1) [some ⟨.shr, false, tmsD a⟩, some ⟨.shr, false, tmsD b⟩] = .ok ⟨.tmp, false && false, tmsD (a ++ b)⟩ := cat_ok (k := .shr) (fr := false) (k' := .shr) (fr' := false) rfl rfl (by have := ha.ln; have := hb.ln; omega)
  have e1 : callE φ [catE (vE 0) (vE 1)] [some ⟨.shr, false, tmsD a⟩, some ⟨.shr, false, tmsD b⟩] = .ok ⟨.tmp, true, tmsD (sumP (a ++ b))⟩ := call_tmp (rs := [⟨.tmp, false && false, tmsD (a ++ b)⟩]) (evs_cons e0 evs_nil) (hφ _ (ha.fit2 hb))
  exact (def_rt rfl (ret_tmp e1)).trans rfl
abbrev E_tim (i : Nat) : FE := cmpE' (lstI (vE 0)) 2 [i] (.tp [.nm 0, .nm 1]) (bE (tupE [vE 0, mulE (vE 1) (vE 2)]))
theorem v0_li {p : List Int} {f : Bool} {r : Mir.Env} : vE 0 (some ⟨.shr, f, .tup (li p)⟩ :: r) = .ok ⟨.shr, true, .tup (li p)⟩ := by
  show R.ok (⟨.shr, f || (D.tup (li p)).imm, .tup (li p)⟩ : Res) = _
  rw [imm_li, Bool.or_true]
theorem tim_ok {i : Nat} {ρ : Mir.Env} {k : Int} {kd : Kd} {f f' : Bool} {L : Nat} {a : List Tm} (ha : Sum L a) (hk : k.natAbs ≤ 2 ^ 80) (h0 : vE 0 ρ = .ok ⟨kd, f, tmsD a⟩) (hi : ρ[i]? = some (some ⟨.shr, f', .int k⟩)) : E_tim i ρ = .ok ⟨.tmp, true, tmsD (timT a k)⟩ := by
  have e : timT a k = a.map fun t => (t.1, t.2 * k) := rfl
  have e2 : tmsD (timT a k) = .lst (a.map fun t => mkP (t.1, t.2 * k)) := by rw [e]; show D.lst (List.map mkP (List.map _ a)) = _; rw [List.map_map]; rfl
  rw [e2]
  refine cmp_map (inj := mkP) (xs := a) (lst_it h0) (fun t ht => ?_) (by have := ha.ln; rw [sizeLine_eq]; omega)
  have env : cmpEnv 2 [i] ρ = [none, none, some ⟨.shr, f', .int k⟩] := by simp [cmpEnv, hi]
  refine ⟨[some ⟨.shr, f, .tup (li t.1)⟩, some ⟨.shr, f, .int t.2⟩, some ⟨.shr, f', .int k⟩], .shr, by rw [env]; rfl, bE_ok ?_, by decide⟩
  refine (tup2_ok (k' := .shr) (fr' := true) (d' := .int (t.2 * k)) v0_li (i2_ok (k := .shr) (fr := f || (D.int t.2).imm) (k' := .shr) (fr' := f' || (D.int k).imm) rfl rfl (CM_of (le1000 (Nat.le_trans (ha.nb t ht) (Nat.pow_le_pow_right (by decide) (by decide)))) (le1000 (Nat.le_trans hk (Nat.pow_le_pow_right (by decide) (by decide)))))) (by decide) (by decide)).trans rfl
theorem taken_f {φ : Φ} (hφ : Tells φ) {L : Nat} {a : List Tm} (ha : Sum L a) {k : Int} (hk : k.natAbs ≤ 2 ^ 80) : defR 2 2 (retS (callE φ [E_tim 1])) [tmsD a, .int k] = .ok ⟨.tmp, true, tmsD (sumP (timT a k))⟩ := by
  have e0 : E_tim 1 [some ⟨.shr, false, tmsD a⟩, some ⟨.shr, false, .int k⟩] = .ok ⟨.tmp, true, tmsD (timT a k)⟩ := tim_ok (kd := .shr) (f := false) (f' := false) ha hk rfl rfl
  have e1 : callE φ [E_tim 1] [some ⟨.shr, false, tmsD a⟩, some ⟨.shr, false, .int k⟩] = .ok ⟨.tmp, true, tmsD (sumP (timT a k))⟩ := call_tmp (rs := [⟨.tmp, true, tmsD (timT a k)⟩]) (evs_cons e0 evs_nil) (hφ _ (ha.fitT hk))
  exact (def_rt rfl (ret_tmp e1)).trans rfl
theorem catU_ok {f g : FE} {ρ : Mir.Env} {k k' : Kd} {fr fr' : Bool} {p q : List Int} (h1 : f ρ = .ok ⟨k, fr, .tup (li p)⟩) (h2 : g ρ = .ok ⟨k', fr', .tup (li q)⟩) (hz : p.length + q.length ≤ 1000) : catUE f g ρ = .ok ⟨.shr, fr && fr', .tup (li (p ++ q))⟩ := by
  have c : (li p).length + (li q).length ≤ sizeLine := by rw [List.length_map, List.length_map, sizeLine_eq]; omega
  simp only [catUE, h1, h2, R.ok_bind, asT, if_pos c, li, List.map_append]
end Sm
set_option Elab.async false
set_option linter.all false
set_option maxRecDepth 100000
set_option maxHeartbeats 1000000
namespace Sm
open PySem L2 Mir Srt
abbrev E_row (i j : Nat) : FE := cmpE' (lstI (vE 1)) 2 [i, j] (.tp [.nm 0, .nm 1]) (bE (tupE [catUE (vE 2) (vE 0), mulE (vE 3) (vE 1)]))
def rowT (s : Tm) (b : List Tm) : List Tm := b.map fun t => (s.1 ++ t.1, s.2 * t.2)
theorem bnd40 {n : Nat} (h : n ≤ 2 ^ 240) : n < 2 ^ 1000 := le1000 (Nat.le_trans h (Nat.pow_le_pow_right (by decide) (by decide)))
theorem prod_row {L K : Nat} {b : List Tm} (hb : Sum K b) (hL : L ≤ 20) (s : Tm) (h1 : s.1.length = L) (h2 : s.2.natAbs ≤ 2 ^ 240) (a0 : Option Res) (x2 : Option Res) (f3 f4 fb : Bool) :
    E_row 3 4 [a0, some ⟨.shr, fb, tmsD b⟩, x2, some ⟨.shr, f3, .tup (li s.1)⟩, some ⟨.shr, f4, .int s.2⟩] = .ok ⟨.tmp, true, tmsD (rowT s b)⟩ := by
  have e2 : tmsD (rowT s b) = .lst (b.map fun t => mkP (s.1 ++ t.1, s.2 * t.2)) := by show D.lst (List.map mkP (List.map _ b)) = _; rw [List.map_map]; rfl
  rw [e2]
  refine cmp_map (inj := mkP) (xs := b) (lst_it (k := .shr) (fr := fb || (tmsD b).imm) rfl) (fun t ht => ?_) (by have := hb.ln; rw [sizeLine_eq]; omega)
  refine ⟨[some ⟨.shr, fb || (tmsD b).imm, .tup (li t.1)⟩, some ⟨.shr, fb || (tmsD b).imm, .int t.2⟩, some ⟨.shr, f3, .tup (li s.1)⟩, some ⟨.shr, f4, .int s.2⟩], .shr, rfl, bE_ok ?_, by decide⟩
  have v2 : vE 2 [some ⟨.shr, fb || (tmsD b).imm, .tup (li t.1)⟩, some ⟨.shr, fb || (tmsD b).imm, .int t.2⟩, some ⟨.shr, f3, .tup (li s.1)⟩, some ⟨.shr, f4, .int s.2⟩] = .ok ⟨.shr, true, .tup (li s.1)⟩ := v0_li (p := s.1) (f := f3) (r := [])
  have hk := hb.hL
  refine (tup2_ok (k := .shr) (fr := true) (d := .tup (li (s.1 ++ t.1))) (k' := .shr) (fr' := true) (d' := .int (s.2 * t.2)) (catU_ok v2 v0_li (by rw [h1, hb.sz t ht]; omega)) (i2_ok (k := .shr) (fr := f4 || (D.int s.2).imm) (k' := .shr) (fr' := (fb || (tmsD b).imm) || (D.int t.2).imm) rfl rfl (CM_of (bnd40 h2) (bnd40 (hb.nb t ht)))) (by decide) (by decide)).trans rfl
abbrev F_prod (φ : Φ) : FS :=
    (seqS (setS 2 (lstE []))
    (seqS (forS (lstI (vE 0)) (.tp [.nm 3, .nm 4]) (extS 2 (E_row 3 4)))
    (retS (callE φ [vE 2]))))
theorem prod_loop {L K : Nat} {b : List Tm} (hb : Sum K b) (hL : L ≤ 20) (A : D) : ∀ (a : List Tm), (∀ t ∈ a, t.1.length = L ∧ t.2.natAbs ≤ 2 ^ 240) → ∀ (acc : List Tm) (x3 x4 : Option Res), acc.length + a.length * b.length ≤ 1000 →
    ∃ x3' x4', forL (.tp [.nm 3, .nm 4]) (extS 2 (E_row 3 4)) false (a.map mkP) [some ⟨.shr, false, A⟩, some ⟨.shr, false, tmsD b⟩, some ⟨.own, true, tmsD acc⟩, x3, x4] = .nx [some ⟨.shr, false, A⟩, some ⟨.shr, false, tmsD b⟩, some ⟨.own, true, tmsD (acc ++ prodT a b)⟩, x3', x4']
  | [], _, acc, x3, x4, _ => ⟨x3, x4, by rw [show prodT [] b = [] from rfl, List.append_nil]; rfl⟩
  | s :: a, h, acc, x3, x4, hz => by
    rw [List.length_cons, Nat.succ_mul] at hz
    obtain ⟨h1, h2⟩ := h s List.mem_cons_self
    have er := prod_row hb hL s h1 h2 (some ⟨.shr, false, A⟩) (some ⟨.own, true, tmsD acc⟩) false false false
    have rl : (rowT s b).length = b.length := List.length_map _
    have ex : extS 2 (E_row 3 4) [some ⟨.shr, false, A⟩, some ⟨.shr, false, tmsD b⟩, some ⟨.own, true, tmsD acc⟩, some ⟨.shr, false, .tup (li s.1)⟩, some ⟨.shr, false, .int s.2⟩] = .nx [some ⟨.shr, false, A⟩, some ⟨.shr, false, tmsD b⟩, some ⟨.own, true, tmsD (acc ++ rowT s b)⟩, some ⟨.shr, false, .tup (li s.1)⟩, some ⟨.shr, false, .int s.2⟩] := by
      have o : ownL 2 [some ⟨.shr, false, A⟩, some ⟨.shr, false, tmsD b⟩, some ⟨.own, true, tmsD acc⟩, some ⟨.shr, false, .tup (li s.1)⟩, some ⟨.shr, false, .int s.2⟩] = .ok (true, acc.map mkP) := rfl
      have c : (acc.map mkP).length + ((rowT s b).map mkP).length ≤ sizeLine := by rw [List.length_map, List.length_map, rl, sizeLine_eq]; omega
      simp only [extS, o, R.at, er, if_pos c]
      show RS.nx [_, _, some (⟨.own, true, .lst (acc.map mkP ++ (rowT s b).map mkP)⟩ : Res), _, _] = _
      rw [← List.map_append]
    obtain ⟨x3', x4', ih⟩ := prod_loop hb hL A a (fun t ht => h t (List.mem_cons_of_mem _ ht)) (acc ++ rowT s b) (some ⟨.shr, false, .tup (li s.1)⟩) (some ⟨.shr, false, .int s.2⟩) (by rw [List.length_append, rl]; omega)
    refine ⟨x3', x4', ?_⟩
    have bd : Tg.bind false (.tp [.nm 3, .nm 4]) (mkP s) [some ⟨.shr, false, A⟩, some ⟨.shr, false, tmsD b⟩, some ⟨.own, true, tmsD acc⟩, x3, x4] = .ok [some ⟨.shr, false, A⟩, some ⟨.shr, false, tmsD b⟩, some ⟨.own, true, tmsD acc⟩, some ⟨.shr, false, .tup (li s.1)⟩, some ⟨.shr, false, .int s.2⟩] := rfl
    simp only [List.map_cons, forL, bd, R.at, ex]
    refine ih.trans ?_
    rw [show prodT (s :: a) b = rowT s b ++ prodT a b from rfl, List.append_assoc]
theorem prod_f {φ : Φ} (hφ : Tells φ) {L K : Nat} {a b : List Tm} (ha : Sum L a) (hb : Sum K b) : defR 2 5 (F_prod φ) [tmsD a, tmsD b] = .ok ⟨.tmp, true, tmsD (sumP (prodT a b))⟩ := by
  have l1 := ha.ln
  have l2 := hb.ln
  have lm : a.length * b.length ≤ 400 := Nat.le_trans (Nat.mul_le_mul l1 l2) (by decide)
  have e1 : setS 2 (lstE []) [some ⟨.shr, false, tmsD a⟩, some ⟨.shr, false, tmsD b⟩, none, none, none] = .nx [some ⟨.shr, false, tmsD a⟩, some ⟨.shr, false, tmsD b⟩, some ⟨.own, true, tmsD []⟩, none, none] := rfl
  obtain ⟨x3, x4, l⟩ := prod_loop hb ha.hL (tmsD a) a (fun t ht => ⟨ha.sz t ht, ha.nb t ht⟩) [] none none (by rw [List.length_nil]; omega)
  rw [List.nil_append] at l
  have e2 : forS (lstI (vE 0)) (.tp [.nm 3, .nm 4]) (extS 2 (E_row 3 4)) [some ⟨.shr, false, tmsD a⟩, some ⟨.shr, false, tmsD b⟩, some ⟨.own, true, tmsD []⟩, none, none] = .nx [some ⟨.shr, false, tmsD a⟩, some ⟨.shr, false, tmsD b⟩, some ⟨.own, true, tmsD (prodT a b)⟩, x3, x4] := (for_ok (fr := false) (ds := a.map mkP) rfl).trans l
  have e3 : callE φ [vE 2] [some ⟨.shr, false, tmsD a⟩, some ⟨.shr, false, tmsD b⟩, some ⟨.own, true, tmsD (prodT a b)⟩, x3, x4] = .ok ⟨.tmp, true, tmsD (sumP (prodT a b))⟩ := call_tmp (rs := [⟨.own, true, tmsD (prodT a b)⟩]) (evs_cons rfl evs_nil) (hφ _ (ha.fitP hb))
  exact (def_rt rfl ((seq_nx e1).trans ((seq_nx e2).trans (ret_tmp e3)))).trans rfl
end Sm
set_option Elab.async false
set_option linter.all false
set_option maxRecDepth 100000
set_option maxHeartbeats 1000000
namespace Sm
open PySem L2 Mir Srt
abbrev apb : FS := (appS 2 (tupE [catUE (vE 3) (vE 5), mulE (vE 4) (vE 6)]))
abbrev F_lprod (φ : Φ) : FS :=
    (seqS (setS 2 (lstE []))
    (seqS (forS (lstI (vE 0)) (.tp [.nm 3, .nm 4])
      (forS (lstI (vE 1)) (.tp [.nm 5, .nm 6]) apb))
    (retS (callE φ [vE 2]))))
abbrev pE (A B : D) (acc : List Tm) (x3 x4 x5 x6 : Option Res) : Mir.Env := [some ⟨.shr, false, A⟩, some ⟨.shr, false, B⟩, some ⟨.own, true, tmsD acc⟩, x3, x4, x5, x6]
theorem lrow {L K : Nat} (hL : L ≤ 20) (hK : K ≤ 20) (A B : D) (s : Tm) (h1 : s.1.length = L) (h2 : s.2.natAbs ≤ 2 ^ 240) : ∀ (b : List Tm), (∀ t ∈ b, t.1.length = K ∧ t.2.natAbs ≤ 2 ^ 240) → ∀ (acc : List Tm) (x5 x6 : Option Res), acc.length + b.length ≤ 1000 →
    ∃ x5' x6', forL (.tp [.nm 5, .nm 6]) apb false (b.map mkP) (pE A B acc (some ⟨.shr, false, .tup (li s.1)⟩) (some ⟨.shr, false, .int s.2⟩) x5 x6) = .nx (pE A B (acc ++ rowT s b) (some ⟨.shr, false, .tup (li s.1)⟩) (some ⟨.shr, false, .int s.2⟩) x5' x6')
  | [], _, acc, x5, x6, _ => ⟨x5, x6, by rw [show rowT s [] = [] from rfl, List.append_nil]; rfl⟩
  | t :: b, h, acc, x5, x6, hz => by
    rw [List.length_cons] at hz
    obtain ⟨k1, k2⟩ := h t List.mem_cons_self
    have v3 : vE 3 (pE A B acc (some ⟨.shr, false, .tup (li s.1)⟩) (some ⟨.shr, false, .int s.2⟩) (some ⟨.shr, false, .tup (li t.1)⟩) (some ⟨.shr, false, .int t.2⟩)) = .ok ⟨.shr, true, .tup (li s.1)⟩ := v0_li (p := s.1) (f := false) (r := [])
    have v5 : vE 5 (pE A B acc (some ⟨.shr, false, .tup (li s.1)⟩) (some ⟨.shr, false, .int s.2⟩) (some ⟨.shr, false, .tup (li t.1)⟩) (some ⟨.shr, false, .int t.2⟩)) = .ok ⟨.shr, true, .tup (li t.1)⟩ := v0_li (p := t.1) (f := false) (r := [])
    have et := tup2_ok (k := .shr) (fr := true) (d := .tup (li (s.1 ++ t.1))) (k' := .shr) (fr' := true) (d' := .int (s.2 * t.2)) (catU_ok v3 v5 (by rw [h1, k1]; omega)) (i2_ok (f := vE 4) (g := vE 6) (k := .shr) (fr := true) (k' := .shr) (fr' := true) rfl rfl (CM_of (bnd40 h2) (bnd40 k2))) (by decide) (by decide)
    have ex : apb (pE A B acc (some ⟨.shr, false, .tup (li s.1)⟩) (some ⟨.shr, false, .int s.2⟩) (some ⟨.shr, false, .tup (li t.1)⟩) (some ⟨.shr, false, .int t.2⟩)) = .nx (pE A B (acc ++ [(s.1 ++ t.1, s.2 * t.2)]) (some ⟨.shr, false, .tup (li s.1)⟩) (some ⟨.shr, false, .int s.2⟩) (some ⟨.shr, false, .tup (li t.1)⟩) (some ⟨.shr, false, .int t.2⟩)) := by
      refine (app_ok (fr := true) (ds := acc.map mkP) rfl et (by decide) (by rw [List.length_map, sizeLine_eq]; omega)).trans ?_
      show RS.nx [_, _, some (⟨.own, true, .lst (acc.map mkP ++ [mkP (s.1 ++ t.1, s.2 * t.2)])⟩ : Res), _, _, _, _] = .nx [_, _, some (⟨.own, true, .lst ((acc ++ [(s.1 ++ t.1, s.2 * t.2)]).map mkP)⟩ : Res), _, _, _, _]
      rw [List.map_append]; rfl
    obtain ⟨x5', x6', ih⟩ := lrow hL hK A B s h1 h2 b (fun u hu => h u (List.mem_cons_of_mem _ hu)) (acc ++ [(s.1 ++ t.1, s.2 * t.2)]) (some ⟨.shr, false, .tup (li t.1)⟩) (some ⟨.shr, false, .int t.2⟩) (by rw [List.length_append, List.length_singleton]; omega)
    refine ⟨x5', x6', ?_⟩
    have bd : Tg.bind false (.tp [.nm 5, .nm 6]) (mkP t) (pE A B acc (some ⟨.shr, false, .tup (li s.1)⟩) (some ⟨.shr, false, .int s.2⟩) x5 x6) = .ok (pE A B acc (some ⟨.shr, false, .tup (li s.1)⟩) (some ⟨.shr, false, .int s.2⟩) (some ⟨.shr, false, .tup (li t.1)⟩) (some ⟨.shr, false, .int t.2⟩)) := rfl
    simp only [List.map_cons, forL, bd, R.at, ex]
    refine ih.trans ?_
    rw [show rowT s (t :: b) = (s.1 ++ t.1, s.2 * t.2) :: rowT s b from rfl, List.append_assoc]; rfl
theorem lprod_loop {L K : Nat} {b : List Tm} (hb : Sum K b) (hL : L ≤ 20) (A : D) : ∀ (a : List Tm), (∀ t ∈ a, t.1.length = L ∧ t.2.natAbs ≤ 2 ^ 240) → ∀ (acc : List Tm) (x3 x4 x5 x6 : Option Res), acc.length + a.length * b.length ≤ 1000 →
    ∃ x3' x4' x5' x6', forL (.tp [.nm 3, .nm 4]) (forS (lstI (vE 1)) (.tp [.nm 5, .nm 6]) apb) false (a.map mkP) (pE A (tmsD b) acc x3 x4 x5 x6) = .nx (pE A (tmsD b) (acc ++ prodT a b) x3' x4' x5' x6')
  | [], _, acc, x3, x4, x5, x6, _ => ⟨x3, x4, x5, x6, by rw [show prodT [] b = [] from rfl, List.append_nil]; rfl⟩
  | s :: a, h, acc, x3, x4, x5, x6, hz => by
    rw [List.length_cons, Nat.succ_mul] at hz
    obtain ⟨h1, h2⟩ := h s List.mem_cons_self
    obtain ⟨y5, y6, er⟩ := lrow hL hb.hL A (tmsD b) s h1 h2 b (fun t ht => ⟨hb.sz t ht, hb.nb t ht⟩) acc x5 x6 (by omega)
    have rl : (rowT s b).length = b.length := List.length_map _
    have ex : forS (lstI (vE 1)) (.tp [.nm 5, .nm 6]) apb (pE A (tmsD b) acc (some ⟨.shr, false, .tup (li s.1)⟩) (some ⟨.shr, false, .int s.2⟩) x5 x6) = .nx (pE A (tmsD b) (acc ++ rowT s b) (some ⟨.shr, false, .tup (li s.1)⟩) (some ⟨.shr, false, .int s.2⟩) y5 y6) := (for_ok (fr := false) (ds := b.map mkP) rfl).trans er
    obtain ⟨x3', x4', x5', x6', ih⟩ := lprod_loop hb hL A a (fun t ht => h t (List.mem_cons_of_mem _ ht)) (acc ++ rowT s b) (some ⟨.shr, false, .tup (li s.1)⟩) (some ⟨.shr, false, .int s.2⟩) y5 y6 (by rw [List.length_append, rl]; omega)
    refine ⟨x3', x4', x5', x6', ?_⟩
    have bd : Tg.bind false (.tp [.nm 3, .nm 4]) (mkP s) (pE A (tmsD b) acc x3 x4 x5 x6) = .ok (pE A (tmsD b) acc (some ⟨.shr, false, .tup (li s.1)⟩) (some ⟨.shr, false, .int s.2⟩) x5 x6) := rfl
    simp only [List.map_cons, forL, bd, R.at, ex]
    refine ih.trans ?_
    rw [show prodT (s :: a) b = rowT s b ++ prodT a b from rfl, List.append_assoc]
theorem lprod_f {φ : Φ} (hφ : Tells φ) {L K : Nat} {a b : List Tm} (ha : Sum L a) (hb : Sum K b) : defR 2 7 (F_lprod φ) [tmsD a, tmsD b] = .ok ⟨.tmp, true, tmsD (sumP (prodT a b))⟩ := by
  have lm : a.length * b.length ≤ 400 := Nat.le_trans (Nat.mul_le_mul ha.ln hb.ln) (by decide)
  have e1 : setS 2 (lstE []) [some ⟨.shr, false, tmsD a⟩, some ⟨.shr, false, tmsD b⟩, none, none, none, none, none] = .nx (pE (tmsD a) (tmsD b) [] none none none none) := rfl
  obtain ⟨x3, x4, x5, x6, l⟩ := lprod_loop hb ha.hL (tmsD a) a (fun t ht => ⟨ha.sz t ht, ha.nb t ht⟩) [] none none none none (by rw [List.length_nil]; omega)
  rw [List.nil_append] at l
  have e2 : forS (lstI (vE 0)) (.tp [.nm 3, .nm 4]) (forS (lstI (vE 1)) (.tp [.nm 5, .nm 6]) apb) (pE (tmsD a) (tmsD b) [] none none none none) = .nx (pE (tmsD a) (tmsD b) (prodT a b) x3 x4 x5 x6) := (for_ok (fr := false) (ds := a.map mkP) rfl).trans l
  have e3 : callE φ [vE 2] (pE (tmsD a) (tmsD b) (prodT a b) x3 x4 x5 x6) = .ok ⟨.tmp, true, tmsD (sumP (prodT a b))⟩ := call_tmp (rs := [⟨.own, true, tmsD (prodT a b)⟩]) (evs_cons rfl evs_nil) (hφ _ (ha.fitP hb))
  exact (def_rt rfl ((seq_nx e1).trans ((seq_nx e2).trans (ret_tmp e3)))).trans rfl
abbrev ssb (φ : Φ) : FS := (seqS (ifS (orT (notT (bT (isiE .tuple (vE 2)))) (orT (bT (neE (lenE (vE 2)) (cE (.int 2)))) (notT (bT (isiE .tuple (idxE (vE 2) (cE (.int 0))))))))
        (retS (cE (.bl false)))
        nilS)
      (ifS (orT (notT (bT (callE φ [idxE (vE 2) (cE (.int 1))]))) (orT (notT (bT (allE (cmpE' (tupI (idxE (vE 2) (cE (.int 0)))) 1 [] (.nm 0) (bE (callE φ [vE 0])))))) (bT (neE (vE 2) (vE 3)))))
        (retS (cE (.bl false)))
        nilS))
abbrev F_ssum (φ : Φ) : FS :=
    (seqS (ifS (orT (notT (bT (isiE .list (vE 0)))) (bT (neE (lenE (vE 0)) (lenE (vE 1)))))
      (retS (cE (.bl false)))
      nilS)
    (seqS (forS (zipI (vE 0) (vE 1)) (.tp [.nm 2, .nm 3]) (ssb φ))
    (retS (cE (.bl true)))))
theorem pl_mkP (t : Tm) : (mkP t).pl 4 = true := by
  show (D.tup [.tup (li t.1), .int t.2]).pl 4 = true
  simp [D.pl, D.pls, pls_li]
theorem ss_body {φ : Φ} (hφ : ∀ v : Int, φ [.int v] = .ok (sc (.bl true))) (A B : Option Res) (t : Tm) (hz : t.1.length ≤ 1000) :
    ssb φ [A, B, some ⟨.shr, false, mkP t⟩, some ⟨.shr, false, mkP t⟩] = .nx [A, B, some ⟨.shr, false, mkP t⟩, some ⟨.shr, false, mkP t⟩] := by
  have i0 : idxE (vE 2) (cE (.int 0)) [A, B, some ⟨.shr, false, mkP t⟩, some ⟨.shr, false, mkP t⟩] = .ok ⟨.shr, (false || (mkP t).imm) || (D.tup (li t.1)).imm, .tup (li t.1)⟩ := rfl
  have i1 : idxE (vE 2) (cE (.int 1)) [A, B, some ⟨.shr, false, mkP t⟩, some ⟨.shr, false, mkP t⟩] = .ok ⟨.shr, (false || (mkP t).imm) || (D.int t.2).imm, .int t.2⟩ := rfl
  have e1 : ifS (orT (notT (bT (isiE .tuple (vE 2)))) (orT (bT (neE (lenE (vE 2)) (cE (.int 2)))) (notT (bT (isiE .tuple (idxE (vE 2) (cE (.int 0)))))))) (retS (cE (.bl false))) nilS [A, B, some ⟨.shr, false, mkP t⟩, some ⟨.shr, false, mkP t⟩] = .nx [A, B, some ⟨.shr, false, mkP t⟩, some ⟨.shr, false, mkP t⟩] := rfl
  refine (seq_nx e1).trans ?_
  have c : cmpE' (tupI (idxE (vE 2) (cE (.int 0)))) 1 [] (.nm 0) (bE (callE φ [vE 0])) [A, B, some ⟨.shr, false, mkP t⟩, some ⟨.shr, false, mkP t⟩] = .ok ⟨.tmp, true, .lst (t.1.map fun _ => .bl true)⟩ := by
    refine cmp_map (st := true) (fr := (false || (mkP t).imm) || (D.tup (li t.1)).imm) (inj := D.int) (xs := t.1) (by simp only [tupI, i0, R.ok_bind]) (fun v _ => ?_) (by rw [sizeLine_eq]; omega)
    exact ⟨[some ⟨.shr, (false || (mkP t).imm) || (D.tup (li t.1)).imm, .int v⟩], .shr, rfl, bE_ok (call_sc (evs_cons rfl evs_nil) (hφ v)), by decide⟩
  have a : allE (cmpE' (tupI (idxE (vE 2) (cE (.int 0)))) 1 [] (.nm 0) (bE (callE φ [vE 0]))) [A, B, some ⟨.shr, false, mkP t⟩, some ⟨.shr, false, mkP t⟩] = .ok (sc (.bl true)) := by
    simp only [allE, c, R.ok_bind, asL, bools_map (fun _ => true) t.1]
    simp
  have w : callE φ [idxE (vE 2) (cE (.int 1))] [A, B, some ⟨.shr, false, mkP t⟩, some ⟨.shr, false, mkP t⟩] = .ok ⟨.shr, true, .bl true⟩ := call_sc (rs := [⟨.shr, (false || (mkP t).imm) || (D.int t.2).imm, .int t.2⟩]) (evs_cons i1 evs_nil) (hφ t.2)
  have n : neE (vE 2) (vE 3) [A, B, some ⟨.shr, false, mkP t⟩, some ⟨.shr, false, mkP t⟩] = .ok (sc (.bl (!true))) := ne_ok (r := ⟨.shr, false || (mkP t).imm, mkP t⟩) (r' := ⟨.shr, false || (mkP t).imm, mkP t⟩) rfl rfl (eqv_self 4 (pl_mkP t) (by decide))
  have tt : orT (notT (bT (callE φ [idxE (vE 2) (cE (.int 1))]))) (orT (notT (bT (allE (cmpE' (tupI (idxE (vE 2) (cE (.int 0)))) 1 [] (.nm 0) (bE (callE φ [vE 0])))))) (bT (neE (vE 2) (vE 3)))) [A, B, some ⟨.shr, false, mkP t⟩, some ⟨.shr, false, mkP t⟩] = .ok false :=
    (orT_ok (notT_ok (bT_ok w)) fun _ => (orT_ok (notT_ok (bT_ok a)) fun _ => bT_ok n).trans rfl).trans rfl
  exact (if_t tt).trans rfl
theorem ss_f {φ : Φ} (hφ : ∀ v : Int, φ [.int v] = .ok (sc (.bl true))) {S : List Tm} (hz : ∀ t ∈ S, t.1.length ≤ 1000) : defR 2 4 (F_ssum φ) [tmsD S, tmsD S] = .ok (sc (.bl true)) := by
  have e1 : ifS (orT (notT (bT (isiE .list (vE 0)))) (bT (neE (lenE (vE 0)) (lenE (vE 1))))) (retS (cE (.bl false))) nilS [some ⟨.shr, false, tmsD S⟩, some ⟨.shr, false, tmsD S⟩, none, none] = .nx [some ⟨.shr, false, tmsD S⟩, some ⟨.shr, false, tmsD S⟩, none, none] :=
    (if_t (isl_ok (ds := S.map mkP) (es := S.map mkP) rfl rfl rfl)).trans rfl
  obtain ⟨ρ', l1, x2, x3, l2⟩ := forL_rel (β := Unit) (tg := .tp [.nm 2, .nm 3]) (b := ssb φ) (fr := false) (inj := fun t => .tup [mkP t, mkP t]) (step := fun _ _ => ())
    (Q := fun _ ρ => ∃ x2 x3, ρ = [some ⟨.shr, false, tmsD S⟩, some ⟨.shr, false, tmsD S⟩, x2, x3]) S () [some ⟨.shr, false, tmsD S⟩, some ⟨.shr, false, tmsD S⟩, none, none] ⟨none, none, rfl⟩ fun t ht _ ρ ⟨x2, x3, e⟩ => by
      subst e
      exact ⟨[some ⟨.shr, false, tmsD S⟩, some ⟨.shr, false, tmsD S⟩, some ⟨.shr, false, mkP t⟩, some ⟨.shr, false, mkP t⟩], _, rfl, ss_body hφ _ _ t (hz t ht), _, _, rfl⟩
  have e2 : forS (zipI (vE 0) (vE 1)) (.tp [.nm 2, .nm 3]) (ssb φ) [some ⟨.shr, false, tmsD S⟩, some ⟨.shr, false, tmsD S⟩, none, none] = .nx [some ⟨.shr, false, tmsD S⟩, some ⟨.shr, false, tmsD S⟩, x2, x3] := by
    refine (for_ok (fr := false) (ds := zipD (S.map mkP) (S.map mkP)) rfl).trans ?_
    rw [zipD_self, l1, l2]
  exact (def_rt rfl ((seq_nx e1).trans ((seq_nx e2).trans (ret_shr (fr := true) (d := .bl true) rfl)))).trans rfl
end Sm
set_option Elab.async false
set_option linter.all false
set_option maxRecDepth 100000
set_option maxHeartbeats 1000000
namespace Sm
open PySem L2 Mir Srt
abbrev F_good (φs φa φg φt φp φl : Φ) : FS :=
    (seqS (ifS (notT (bT (callE φs [callE φa [vE 0, vE 1], callE φg [catE (vE 0) (vE 1)]])))
      (retS (cE (.bl false)))
      nilS)
    (seqS (setS 4 (callE φg [E_tim 3]))
    (seqS (ifS (notT (bT (callE φs [callE φt [vE 0, vE 3], vE 4])))
      (retS (cE (.bl false)))
      nilS)
    (retS (callE φs [callE φp [vE 0, vE 2], callE φl [vE 0, vE 2]])))))
structure Alls (φs φa φg φt φp φl : Φ) : Prop where
  s : ∀ S : List Tm, (∀ t ∈ S, t.1.length ≤ 1000) → φs [tmsD S, tmsD S] = .ok (sc (.bl true))
  g : Tells φg
  a : ∀ {L : Nat} {a b : List Tm}, Sum L a → Sum L b → φa [tmsD a, tmsD b] = .ok ⟨.tmp, true, tmsD (sumP (a ++ b))⟩
  t : ∀ {L : Nat} {a : List Tm}, Sum L a → ∀ {k : Int}, k.natAbs ≤ 2 ^ 80 → φt [tmsD a, .int k] = .ok ⟨.tmp, true, tmsD (sumP (timT a k))⟩
  p : ∀ {L K : Nat} {a b : List Tm}, Sum L a → Sum K b → φp [tmsD a, tmsD b] = .ok ⟨.tmp, true, tmsD (sumP (prodT a b))⟩
  l : ∀ {L K : Nat} {a b : List Tm}, Sum L a → Sum K b → φl [tmsD a, tmsD b] = .ok ⟨.tmp, true, tmsD (sumP (prodT a b))⟩
theorem sumP_len {ts : List Tm} {N : Nat} (h : ∀ t ∈ ts, t.1.length ≤ N) : ∀ t ∈ sumP ts, t.1.length ≤ N := fun p hp => by
  rcases acc_keys ts [] (List.mem_map_of_mem (outB_mem hp).1) with z | ⟨t, ht, e⟩
  · cases z
  · rw [e, key_len]; exact h t ht
theorem fit_len {ts : List Tm} (h : Fit ts) : ∀ t ∈ sumP ts, t.1.length ≤ 1000 := sumP_len fun t ht => by have := h.pl t ht; omega
theorem good_f {φs φa φg φt φp φl : Φ} (H : Alls φs φa φg φt φp φl) {L K : Nat} {a b c : List Tm} (ha : Sum L a) (hb : Sum L b) (hc : Sum K c) {k : Int} (hk : k.natAbs ≤ 2 ^ 80) :
    defR 4 5 (F_good φs φa φg φt φp φl) [tmsD a, tmsD b, tmsD c, .int k] = .ok (sc (.bl true)) := by
  have a1 : callE φa [vE 0, vE 1] [some ⟨.shr, false, tmsD a⟩, some ⟨.shr, false, tmsD b⟩, some ⟨.shr, false, tmsD c⟩, some ⟨.shr, false, .int k⟩, none] = .ok ⟨.tmp, true, tmsD (sumP (a ++ b))⟩ := call_tmp (rs := [⟨.shr, false, tmsD a⟩, ⟨.shr, false, tmsD b⟩]) (evs_cons rfl (evs_cons rfl evs_nil)) (H.a ha hb)
  have a2 : catE (vE 0) (vE 1) [some ⟨.shr, false, tmsD a⟩, some ⟨.shr, false, tmsD b⟩, some ⟨.shr, false, tmsD c⟩, some ⟨.shr, false, .int k⟩, none] = .ok ⟨.tmp, false && false, tmsD (a ++ b)⟩ := cat_ok (k := .shr) (fr := false) (k' := .shr) (fr' := false) rfl rfl (by have := ha.ln; have := hb.ln; omega)
  have a3 : callE φg [catE (vE 0) (vE 1)] [some ⟨.shr, false, tmsD a⟩, some ⟨.shr, false, tmsD b⟩, some ⟨.shr, false, tmsD c⟩, some ⟨.shr, false, .int k⟩, none] = .ok ⟨.tmp, true, tmsD (sumP (a ++ b))⟩ := call_tmp (rs := [⟨.tmp, false && false, tmsD (a ++ b)⟩]) (evs_cons a2 evs_nil) (H.g _ (ha.fit2 hb))
  have a4 : callE φs [callE φa [vE 0, vE 1], callE φg [catE (vE 0) (vE 1)]] [some ⟨.shr, false, tmsD a⟩, some ⟨.shr, false, tmsD b⟩, some ⟨.shr, false, tmsD c⟩, some ⟨.shr, false, .int k⟩, none] = .ok ⟨.shr, true, .bl true⟩ := call_sc (rs := [⟨.tmp, true, tmsD (sumP (a ++ b))⟩, ⟨.tmp, true, tmsD (sumP (a ++ b))⟩]) (evs_cons a1 (evs_cons a3 evs_nil)) (H.s _ (fit_len (ha.fit2 hb)))
  have e1 : ifS (notT (bT (callE φs [callE φa [vE 0, vE 1], callE φg [catE (vE 0) (vE 1)]]))) (retS (cE (.bl false))) nilS [some ⟨.shr, false, tmsD a⟩, some ⟨.shr, false, tmsD b⟩, some ⟨.shr, false, tmsD c⟩, some ⟨.shr, false, .int k⟩, none] = .nx [some ⟨.shr, false, tmsD a⟩, some ⟨.shr, false, tmsD b⟩, some ⟨.shr, false, tmsD c⟩, some ⟨.shr, false, .int k⟩, none] := (if_t (notT_ok (bT_ok a4))).trans rfl
  have b1 : E_tim 3 [some ⟨.shr, false, tmsD a⟩, some ⟨.shr, false, tmsD b⟩, some ⟨.shr, false, tmsD c⟩, some ⟨.shr, false, .int k⟩, none] = .ok ⟨.tmp, true, tmsD (timT a k)⟩ := tim_ok (kd := .shr) (f := false) (f' := false) ha hk rfl rfl
  have b2 : callE φg [E_tim 3] [some ⟨.shr, false, tmsD a⟩, some ⟨.shr, false, tmsD b⟩, some ⟨.shr, false, tmsD c⟩, some ⟨.shr, false, .int k⟩, none] = .ok ⟨.tmp, true, tmsD (sumP (timT a k))⟩ := call_tmp (rs := [⟨.tmp, true, tmsD (timT a k)⟩]) (evs_cons b1 evs_nil) (H.g _ (ha.fitT hk))
  have e2 : setS 4 (callE φg [E_tim 3]) [some ⟨.shr, false, tmsD a⟩, some ⟨.shr, false, tmsD b⟩, some ⟨.shr, false, tmsD c⟩, some ⟨.shr, false, .int k⟩, none] = .nx [some ⟨.shr, false, tmsD a⟩, some ⟨.shr, false, tmsD b⟩, some ⟨.shr, false, tmsD c⟩, some ⟨.shr, false, .int k⟩, some ⟨.own, true, tmsD (sumP (timT a k))⟩] := set_tmp b2
  have c1 : callE φt [vE 0, vE 3] [some ⟨.shr, false, tmsD a⟩, some ⟨.shr, false, tmsD b⟩, some ⟨.shr, false, tmsD c⟩, some ⟨.shr, false, .int k⟩, some ⟨.own, true, tmsD (sumP (timT a k))⟩] = .ok ⟨.tmp, true, tmsD (sumP (timT a k))⟩ := call_tmp (rs := [⟨.shr, false, tmsD a⟩, ⟨.shr, true, .int k⟩]) (evs_cons rfl (evs_cons rfl evs_nil)) (H.t ha hk)
  have c2 : callE φs [callE φt [vE 0, vE 3], vE 4] [some ⟨.shr, false, tmsD a⟩, some ⟨.shr, false, tmsD b⟩, some ⟨.shr, false, tmsD c⟩, some ⟨.shr, false, .int k⟩, some ⟨.own, true, tmsD (sumP (timT a k))⟩] = .ok ⟨.shr, true, .bl true⟩ := call_sc (rs := [⟨.tmp, true, tmsD (sumP (timT a k))⟩, ⟨.own, true, tmsD (sumP (timT a k))⟩]) (evs_cons c1 (evs_cons rfl evs_nil)) (H.s _ (fit_len (ha.fitT hk)))
  have e3 : ifS (notT (bT (callE φs [callE φt [vE 0, vE 3], vE 4]))) (retS (cE (.bl false))) nilS [some ⟨.shr, false, tmsD a⟩, some ⟨.shr, false, tmsD b⟩, some ⟨.shr, false, tmsD c⟩, some ⟨.shr, false, .int k⟩, some ⟨.own, true, tmsD (sumP (timT a k))⟩] = .nx [some ⟨.shr, false, tmsD a⟩, some ⟨.shr, false, tmsD b⟩, some ⟨.shr, false, tmsD c⟩, some ⟨.shr, false, .int k⟩, some ⟨.own, true, tmsD (sumP (timT a k))⟩] := (if_t (notT_ok (bT_ok c2))).trans rfl
  have d1 : callE φp [vE 0, vE 2] [some ⟨.shr, false, tmsD a⟩, some ⟨.shr, false, tmsD b⟩, some ⟨.shr, false, tmsD c⟩, some ⟨.shr, false, .int k⟩, some ⟨.own, true, tmsD (sumP (timT a k))⟩] = .ok ⟨.tmp, true, tmsD (sumP (prodT a c))⟩ := call_tmp (rs := [⟨.shr, false, tmsD a⟩, ⟨.shr, false, tmsD c⟩]) (evs_cons rfl (evs_cons rfl evs_nil)) (H.p ha hc)
  have d2 : callE φl [vE 0, vE 2] [some ⟨.shr, false, tmsD a⟩, some ⟨.shr, false, tmsD b⟩, some ⟨.shr, false, tmsD c⟩, some ⟨.shr, false, .int k⟩, some ⟨.own, true, tmsD (sumP (timT a k))⟩] = .ok ⟨.tmp, true, tmsD (sumP (prodT a c))⟩ := call_tmp (rs := [⟨.shr, false, tmsD a⟩, ⟨.shr, false, tmsD c⟩]) (evs_cons rfl (evs_cons rfl evs_nil)) (H.l ha hc)
  have d3 : callE φs [callE φp [vE 0, vE 2], callE φl [vE 0, vE 2]] [some ⟨.shr, false, tmsD a⟩, some ⟨.shr, false, tmsD b⟩, some ⟨.shr, false, tmsD c⟩, some ⟨.shr, false, .int k⟩, some ⟨.own, true, tmsD (sumP (timT a k))⟩] = .ok ⟨.shr, true, .bl true⟩ := call_sc (rs := [⟨.tmp, true, tmsD (sumP (prodT a c))⟩, ⟨.tmp, true, tmsD (sumP (prodT a c))⟩]) (evs_cons d1 (evs_cons d2 evs_nil)) (H.s _ (fit_len (ha.fitP hc)))
  exact (def_rt rfl ((seq_nx e1).trans ((seq_nx e2).trans ((seq_nx e3).trans (ret_shr d3))))).trans rfl
end Sm
set_option Elab.async false
set_option linter.all false
set_option maxRecDepth 100000
set_option maxHeartbeats 1000000
namespace Sm
open PySem L2 Mir Srt
theorem sm31 {x : Int} (h0 : 0 ≤ x) (h1 : x < 2147483648) : x.natAbs < 2 ^ 1000 := small (M := 2147483648) (lt1000 (by decide)) (by omega)
theorem sm9 {x : Int} (h : x.natAbs ≤ 1000000000) : x.natAbs < 2 ^ 1000 := small (M := 1000000000) (lt1000 (by decide)) h
abbrev F_thing : FS :=
    (seqS (setS 3 (modE (addE (addE (mulE (modE (vE 0) (cE (.int 2147483647))) (cE (.int 48271))) (mulE (mulE (cE (.int 69621)) (vE 1)) (vE 1))) (mulE (cE (.int 7)) (vE 1))) (cE (.int 2147483629))))
    (seqS (setS 3 (modE (mulE (vE 3) (vE 3)) (cE (.int 2147483587))))
    (retS (modE (modE (mulE (vE 3) (addE (vE 3) (cE (.int 48271)))) (cE (.int 2147483563))) (vE 2)))))
theorem thing_f (c k m : Int) (hk : k.natAbs ≤ 1000) (hm : 0 < m) : ∃ v, 0 ≤ v ∧ v < m ∧ defR 3 4 F_thing [.int c, .int k, .int m] = .ok (sc (.int v)) := by
  have a0 := Int.emod_nonneg c (show (2147483647 : Int) ≠ 0 by decide)
  have a1 := Int.emod_lt_of_pos c (show (0 : Int) < 2147483647 by decide)
  let x := ((c % 2147483647) * 48271 + 69621 * k * k + 7 * k) % 2147483629
  have x0 : 0 ≤ x := Int.emod_nonneg _ (by decide)
  have x1 : x < 2147483629 := Int.emod_lt_of_pos _ (by decide)
  let y := (x * x) % 2147483587
  have y0 : 0 ≤ y := Int.emod_nonneg _ (by decide)
  have y1 : y < 2147483587 := Int.emod_lt_of_pos _ (by decide)
  let z := (y * (y + 48271)) % 2147483563
  refine ⟨z % m, Int.emod_nonneg _ (by omega), Int.emod_lt_of_pos _ hm, ?_⟩
  have e1 : setS 3 (modE (addE (addE (mulE (modE (vE 0) (cE (.int 2147483647))) (cE (.int 48271))) (mulE (mulE (cE (.int 69621)) (vE 1)) (vE 1))) (mulE (cE (.int 7)) (vE 1))) (cE (.int 2147483629))) [some ⟨.shr, false, .int c⟩, some ⟨.shr, false, .int k⟩, some ⟨.shr, false, .int m⟩, none] = .nx [some ⟨.shr, false, .int c⟩, some ⟨.shr, false, .int k⟩, some ⟨.shr, false, .int m⟩, some ⟨.shr, true, .int x⟩] :=
    set_shr (i2_ok (i2_ok (i2_ok (i2_ok (i2_ok (k := .shr) (fr := true) (i := c) (k' := .shr) (fr' := true) (j := 2147483647) rfl rfl (CP_of (by decide))) (k' := .shr) (fr' := true) (j := 48271) rfl (CM_of (sm31 a0 (by omega)) (sm9 (by decide)))) (i2_ok (i2_ok (k := .shr) (fr := true) (i := 69621) (k' := .shr) (fr' := true) (j := k) rfl rfl (CM_of (sm9 (by decide)) (sm9 (by omega)))) (k' := .shr) (fr' := true) (j := k) rfl (CM_of (sm9 (by omega)) (sm9 (by omega)))) rfl) (i2_ok (k := .shr) (fr := true) (i := 7) (k' := .shr) (fr' := true) (j := k) rfl rfl (CM_of (sm9 (by decide)) (sm9 (by omega)))) rfl) (k' := .shr) (fr' := true) (j := 2147483629) rfl (CP_of (by decide)))
  have e2 : setS 3 (modE (mulE (vE 3) (vE 3)) (cE (.int 2147483587))) [some ⟨.shr, false, .int c⟩, some ⟨.shr, false, .int k⟩, some ⟨.shr, false, .int m⟩, some ⟨.shr, true, .int x⟩] = .nx [some ⟨.shr, false, .int c⟩, some ⟨.shr, false, .int k⟩, some ⟨.shr, false, .int m⟩, some ⟨.shr, true, .int y⟩] :=
    set_shr (i2_ok (i2_ok (k := .shr) (fr := true) (i := x) (k' := .shr) (fr' := true) (j := x) rfl rfl (CM_of (sm31 x0 (by omega)) (sm31 x0 (by omega)))) (k' := .shr) (fr' := true) (j := 2147483587) rfl (CP_of (by decide)))
  have e3 : retS (modE (modE (mulE (vE 3) (addE (vE 3) (cE (.int 48271)))) (cE (.int 2147483563))) (vE 2)) [some ⟨.shr, false, .int c⟩, some ⟨.shr, false, .int k⟩, some ⟨.shr, false, .int m⟩, some ⟨.shr, true, .int y⟩] = .rt ⟨.shr, true, .int (z % m)⟩ :=
    ret_shr (i2_ok (i2_ok (i2_ok (k := .shr) (fr := true) (i := y) rfl (i2_ok (k := .shr) (fr := true) (i := y) (k' := .shr) (fr' := true) (j := 48271) rfl rfl rfl) (CM_of (sm31 y0 (by omega)) (small (M := 4294967296) (lt1000 (by decide)) (by omega)))) (k' := .shr) (fr' := true) (j := 2147483563) rfl (CP_of (by decide))) (k' := .shr) (fr' := true) (j := m) rfl (CP_of hm))
  exact (def_rt rfl ((seq_nx e1).trans ((seq_nx e2).trans e3))).trans rfl
theorem seq_ix {n : Int} {len : Nat} (h0 : 0 ≤ n) (h1 : n < len) : seqIndex? n len = some n.toNat := by
  unfold seqIndex?
  have h : ¬ n < 0 := by omega
  simp [h, h0, h1]
theorem erase_li : ∀ (W : List Int) (m : Nat), (li W).eraseIdx m = li (W.eraseIdx m)
  | [], _ => rfl
  | _ :: _, 0 => rfl
  | x :: W, m + 1 => by
    show D.int x :: (li W).eraseIdx m = D.int x :: li (W.eraseIdx m)
    rw [erase_li W m]
theorem popApp_ok {j i : Nat} {k : FE} {ρ : Mir.Env} {F W : List Int} {f1 f2 : Bool} {kd : Kd} {fr : Bool} {n : Int} (hj : ρ[j]? = some (some ⟨.own, f1, .lst (li F)⟩)) (hi : ρ[i]? = some (some ⟨.own, f2, .lst (li W)⟩)) (hk : k ρ = .ok ⟨kd, fr, .int n⟩) (h0 : 0 ≤ n) (h1 : n < W.length) (hW : W.length ≤ 1000) (hF : F.length ≤ 1000) (ne : j ≠ i) :
    popApp j i k ρ = .nx ((ρ.set i (some ⟨.own, f2, .lst (li (W.eraseIdx n.toNat))⟩)).set j (some ⟨.own, f1 && f2, .lst (li (F ++ [W.getD n.toNat 0]))⟩)) := by
  have o1 : ownL j ρ = .ok (f1, li F) := by unfold ownL; rw [hj]
  have o2 : ownL i ρ = .ok (f2, li W) := by unfold ownL; rw [hi]
  have ix : seqIndex? n (li W).length = some n.toNat := seq_ix h0 (by rw [List.length_map]; exact h1)
  have hl : n.toNat < W.length := by omega
  have gt : (li W)[n.toNat]? = some (.int (W.getD n.toNat 0)) := row_at hl
  have c : j ≠ i ∧ (li F).length < sizeLine ∧ -(2 ^ 63) ≤ n ∧ n < 2 ^ 63 := ⟨ne, by rw [List.length_map, sizeLine_eq]; omega, by omega, by omega⟩
  simp only [popApp, o1, o2, R.at, hk, asI, ix, gt]
  rw [if_pos c]
  rw [erase_li]
  simp [li]
end Sm
set_option Elab.async false
set_option linter.all false
set_option maxRecDepth 100000
set_option maxHeartbeats 1000000
namespace Sm
open PySem L2 Mir Srt
def rngI (m : Nat) : List Int := (List.range m).map fun (i : Nat) => (i : Int)
theorem rngI_len (m : Nat) : (rngI m).length = m := by simp [rngI]
theorem rngI_mem {m : Nat} {x : Int} (h : x ∈ rngI m) : 0 ≤ x ∧ x < m := by
  obtain ⟨i, hi, rfl⟩ := (List.mem_map.mp h)
  have := List.mem_range.mp hi
  omega
theorem rngI_nodup (m : Nat) : (rngI m).Nodup := by
  show List.Pairwise (fun a b => a ≠ b) (List.map _ _)
  rw [List.pairwise_map]
  exact List.Pairwise.imp (fun {a b} h e => h (by omega)) (show List.Pairwise (fun a b => a ≠ b) (List.range m) from List.nodup_range)
theorem rng_li (m : Nat) : rngD 0 m = li (rngI m) := by
  rw [rngD0, rngI, li, List.map_map]; rfl
theorem lrng_ok {f : FE} {ρ : Mir.Env} {k : Kd} {fr : Bool} {m : Nat} (h : f ρ = .ok ⟨k, fr, .int m⟩) (hm : m ≤ 1000) : lrngE f ρ = .ok ⟨.tmp, true, .lst (li (rngI m))⟩ := by
  have c : (0 : Int) ≤ (m : Int) ∧ (m : Int) ≤ 1000 := by omega
  simp only [lrngE, h, R.ok_bind, asI, if_pos c, Int.toNat_natCast, rng_li]
structure Draw (m : Nat) (W F : List Int) (j : Nat) : Prop where
  pm : (W ++ F).Perm (rngI m)
  ln : F.length = j
theorem Draw.wl {m : Nat} {W F : List Int} {j : Nat} (d : Draw m W F j) : W.length + j = m := by
  have := d.pm.length_eq
  rw [List.length_append, d.ln, rngI_len] at this
  exact this
theorem erase_perm : ∀ (W : List Int) (i : Nat), i < W.length → (W.getD i 0 :: W.eraseIdx i).Perm W
  | [], i, h => absurd h (Nat.not_lt_zero i)
  | _ :: _, 0, _ => List.Perm.refl _
  | x :: W, i + 1, h => by
    have ih := erase_perm W i (by simpa using h)
    have e : (x :: W).getD (i + 1) 0 = W.getD i 0 := by simp
    rw [e]
    show (W.getD i 0 :: x :: W.eraseIdx i).Perm (x :: W)
    exact (List.Perm.swap x (W.getD i 0) (W.eraseIdx i)).trans (ih.cons x)
theorem Draw.next {m : Nat} {W F : List Int} {j i : Nat} (d : Draw m W F j) (h : i < W.length) : Draw m (W.eraseIdx i) (F ++ [W.getD i 0]) (j + 1) := by
  refine ⟨List.Perm.trans ?_ d.pm, by simp [d.ln]⟩
  refine List.Perm.trans ?_ ((erase_perm W i h).append_right F)
  rw [← List.append_assoc]
  exact List.perm_append_singleton _ _
theorem Draw.out {m : Nat} {W F : List Int} {j : Nat} (d : Draw m W F j) (hm : m ≤ 5) : F.Nodup ∧ ∀ x ∈ F, 0 ≤ x ∧ x < 5 := by
  refine ⟨?_, fun x hx => ?_⟩
  · have := d.pm.nodup_iff.mpr (rngI_nodup m)
    exact (List.nodup_append.mp this).2.1
  · have := rngI_mem (d.pm.mem_iff.mp (List.mem_append_right W hx))
    omega
abbrev F_chosen (φ : Φ) : FS :=
    (seqS (setS 4 (lrngE (vE 2)))
    (seqS (setS 5 (lstE []))
    (seqS (forS (rng1I (vE 3)) (.nm 6)
      (popApp 5 4 (callE φ [vE 0, addE (vE 1) (vE 6), lenE (vE 4)])))
    (retS (tofE (vE 5))))))
theorem chosen_f {φ : Φ} (hφ : ∀ c k m : Int, k.natAbs ≤ 1000 → 0 < m → ∃ v, 0 ≤ v ∧ v < m ∧ φ [.int c, .int k, .int m] = .ok (sc (.int v))) (c f : Int) (hf : f.natAbs ≤ 100) (m z : Nat) (hm : m ≤ 5) (hz : z ≤ m) :
    ∃ p : List Int, p.length = z ∧ p.Nodup ∧ (∀ x ∈ p, 0 ≤ x ∧ x < 5) ∧ defR 4 7 (F_chosen φ) [.int c, .int f, .int m, .int z] = .ok ⟨.shr, true, .tup (li p)⟩ := by
  have e1 : setS 4 (lrngE (vE 2)) [some ⟨.shr, false, .int c⟩, some ⟨.shr, false, .int f⟩, some ⟨.shr, false, .int m⟩, some ⟨.shr, false, .int z⟩, none, none, none] = .nx [some ⟨.shr, false, .int c⟩, some ⟨.shr, false, .int f⟩, some ⟨.shr, false, .int m⟩, some ⟨.shr, false, .int z⟩, some ⟨.own, true, .lst (li (rngI m))⟩, none, none] :=
    set_tmp (lrng_ok (k := .shr) (fr := true) (m := m) rfl (by omega))
  have e2 : setS 5 (lstE []) [some ⟨.shr, false, .int c⟩, some ⟨.shr, false, .int f⟩, some ⟨.shr, false, .int m⟩, some ⟨.shr, false, .int z⟩, some ⟨.own, true, .lst (li (rngI m))⟩, none, none] = .nx [some ⟨.shr, false, .int c⟩, some ⟨.shr, false, .int f⟩, some ⟨.shr, false, .int m⟩, some ⟨.shr, false, .int z⟩, some ⟨.own, true, .lst (li (rngI m))⟩, some ⟨.own, true, .lst (li [])⟩, none] := rfl
  obtain ⟨ρ', l1, W, F, x6, d, l2⟩ := forL_nat (tg := .nm 6) (b := popApp 5 4 (callE φ [vE 0, addE (vE 1) (vE 6), lenE (vE 4)])) (fr := true) (inj := fun k => .int (k : Int))
    (E := fun j ρ => ∃ W F x6, Draw m W F j ∧ ρ = [some ⟨.shr, false, .int c⟩, some ⟨.shr, false, .int f⟩, some ⟨.shr, false, .int m⟩, some ⟨.shr, false, .int z⟩, some ⟨.own, true, .lst (li W)⟩, some ⟨.own, true, .lst (li F)⟩, x6]) z 0 [some ⟨.shr, false, .int c⟩, some ⟨.shr, false, .int f⟩, some ⟨.shr, false, .int m⟩, some ⟨.shr, false, .int z⟩, some ⟨.own, true, .lst (li (rngI m))⟩, some ⟨.own, true, .lst (li [])⟩, none] ⟨rngI m, [], none, ⟨by rw [List.append_nil], rfl⟩, rfl⟩ fun j _ hj ρ ⟨W, F, x6, d, e⟩ => by
      subst e
      have wl := d.wl
      have fl := d.ln
      obtain ⟨v, v0, v1, hv⟩ := hφ c (f + (j : Int)) (W.length : Nat) (by omega) (by omega)
      have el : lenE (vE 4) [some ⟨.shr, false, .int c⟩, some ⟨.shr, false, .int f⟩, some ⟨.shr, false, .int m⟩, some ⟨.shr, false, .int z⟩, some ⟨.own, true, .lst (li W)⟩, some ⟨.own, true, .lst (li F)⟩, some ⟨.shr, true, .int (j : Int)⟩] = .ok ⟨.shr, true, .int (W.length : Nat)⟩ := by
        refine (len_ok (k := .own) (fr := true) (ds := li W) rfl).trans ?_
        rw [List.length_map]; rfl
      have ec : callE φ [vE 0, addE (vE 1) (vE 6), lenE (vE 4)] [some ⟨.shr, false, .int c⟩, some ⟨.shr, false, .int f⟩, some ⟨.shr, false, .int m⟩, some ⟨.shr, false, .int z⟩, some ⟨.own, true, .lst (li W)⟩, some ⟨.own, true, .lst (li F)⟩, some ⟨.shr, true, .int (j : Int)⟩] = .ok ⟨.shr, true, .int v⟩ :=
        call_sc (rs := [⟨.shr, true, .int c⟩, ⟨.shr, true, .int (f + (j : Int))⟩, ⟨.shr, true, .int (W.length : Nat)⟩]) (evs_cons rfl (evs_cons (i2_ok (k := .shr) (fr := true) (i := f) (k' := .shr) (fr' := true) (j := (j : Int)) rfl rfl rfl) (evs_cons el evs_nil))) hv
      have hl : v.toNat < W.length := by omega
      exact ⟨[some ⟨.shr, false, .int c⟩, some ⟨.shr, false, .int f⟩, some ⟨.shr, false, .int m⟩, some ⟨.shr, false, .int z⟩, some ⟨.own, true, .lst (li W)⟩, some ⟨.own, true, .lst (li F)⟩, some ⟨.shr, true, .int (j : Int)⟩], _, rfl, popApp_ok (F := F) (W := W) (f1 := true) (f2 := true) rfl rfl ec v0 v1 (by omega) (by omega) (by decide), _, _, _, d.next hl, rfl⟩
  rw [Nat.zero_add] at d
  refine ⟨F, d.ln, (d.out hm).1, (d.out hm).2, ?_⟩
  have e3 : forS (rng1I (vE 3)) (.nm 6) (popApp 5 4 (callE φ [vE 0, addE (vE 1) (vE 6), lenE (vE 4)])) [some ⟨.shr, false, .int c⟩, some ⟨.shr, false, .int f⟩, some ⟨.shr, false, .int m⟩, some ⟨.shr, false, .int z⟩, some ⟨.own, true, .lst (li (rngI m))⟩, some ⟨.own, true, .lst (li [])⟩, none] = .nx [some ⟨.shr, false, .int c⟩, some ⟨.shr, false, .int f⟩, some ⟨.shr, false, .int m⟩, some ⟨.shr, false, .int z⟩, some ⟨.own, true, .lst (li W)⟩, some ⟨.own, true, .lst (li F)⟩, x6] := by
    refine (for_ok (fr := true) (ds := (List.range z).map fun (i : Nat) => .int (i : Int)) (rng1_ok (k := .shr) (fr := true) (n := z) rfl (by omega))).trans ?_
    rw [List.range_eq_range', l1, l2]
  have e4 : retS (tofE (vE 5)) [some ⟨.shr, false, .int c⟩, some ⟨.shr, false, .int f⟩, some ⟨.shr, false, .int m⟩, some ⟨.shr, false, .int z⟩, some ⟨.own, true, .lst (li W)⟩, some ⟨.own, true, .lst (li F)⟩, x6] = .rt ⟨.shr, true, .tup (li F)⟩ := ret_shr (tof_ok (k := .own) (fr := true) (ds := li F) rfl)
  exact (def_rt rfl ((seq_nx e1).trans ((seq_nx e2).trans ((seq_nx e3).trans e4)))).trans rfl
end Sm
set_option Elab.async false
set_option linter.all false
set_option maxRecDepth 100000
set_option maxHeartbeats 1000000
namespace Sm
open PySem L2 Mir Srt
theorem p9 {ρ : Mir.Env} : powE (cE (.int 10)) (cE (.int 9)) ρ = .ok (sc (.int 1000000000)) := rfl
abbrev dgb : FS := (seqS (setS 6 (modE (vE 0) (lenE (vE 3))))
      (seqS (setS 0 (fdvE (vE 0) (lenE (vE 3))))
      (popApp 4 3 (vE 6))))
abbrev F_digit : FS :=
    (seqS (setS 3 (lrngE (vE 1)))
    (seqS (setS 4 (lstE []))
    (seqS (forS (rng1I (vE 2)) (.nm 5) dgb)
    (retS (tupE [tofE (vE 4), subE (modE (vE 0) (addE (mulE (cE (.int 2)) (powE (cE (.int 10)) (cE (.int 9)))) (cE (.int 1)))) (powE (cE (.int 10)) (cE (.int 9)))])))))
structure Term (z : Nat) (t : Tm) : Prop where
  ln : t.1.length = z
  nd : t.1.Nodup
  rg : ∀ x ∈ t.1, 0 ≤ x ∧ x < 5
  nb : t.2.natAbs ≤ 2 ^ 31
theorem len_at {W : List Int} {ρ : Mir.Env} {i : Nat} {k : Kd} {fr : Bool} (h : vE i ρ = .ok ⟨k, fr, .lst (li W)⟩) : lenE (vE i) ρ = .ok ⟨.shr, true, .int (W.length : Nat)⟩ := by
  refine (len_ok h).trans ?_
  rw [List.length_map]; rfl
theorem digit_f (c : Int) (m z : Nat) (hm : m ≤ 5) (hz : z ≤ m) : ∃ t : Tm, Term z t ∧ defR 3 7 F_digit [.int c, .int m, .int z] = .ok ⟨.shr, true, mkP t⟩ := by
  have e1 : setS 3 (lrngE (vE 1)) [some ⟨.shr, false, .int c⟩, some ⟨.shr, false, .int m⟩, some ⟨.shr, false, .int z⟩, none, none, none, none] = .nx [some ⟨.shr, false, .int c⟩, some ⟨.shr, false, .int m⟩, some ⟨.shr, false, .int z⟩, some ⟨.own, true, .lst (li (rngI m))⟩, none, none, none] :=
    set_tmp (lrng_ok (k := .shr) (fr := true) (m := m) rfl (by omega))
  have e2 : setS 4 (lstE []) [some ⟨.shr, false, .int c⟩, some ⟨.shr, false, .int m⟩, some ⟨.shr, false, .int z⟩, some ⟨.own, true, .lst (li (rngI m))⟩, none, none, none] = .nx [some ⟨.shr, false, .int c⟩, some ⟨.shr, false, .int m⟩, some ⟨.shr, false, .int z⟩, some ⟨.own, true, .lst (li (rngI m))⟩, some ⟨.own, true, .lst (li [])⟩, none, none] := rfl
  obtain ⟨ρ', l1, c', f0, W, F, x5, x6, d, l2⟩ := forL_nat (tg := .nm 5) (b := dgb) (fr := true) (inj := fun k => .int (k : Int))
    (E := fun j ρ => ∃ c' f0 W F x5 x6, Draw m W F j ∧ ρ = [some ⟨.shr, f0, .int c'⟩, some ⟨.shr, false, .int m⟩, some ⟨.shr, false, .int z⟩, some ⟨.own, true, .lst (li W)⟩, some ⟨.own, true, .lst (li F)⟩, x5, x6]) z 0 [some ⟨.shr, false, .int c⟩, some ⟨.shr, false, .int m⟩, some ⟨.shr, false, .int z⟩, some ⟨.own, true, .lst (li (rngI m))⟩, some ⟨.own, true, .lst (li [])⟩, none, none] ⟨c, false, rngI m, [], none, none, ⟨by rw [List.append_nil], rfl⟩, rfl⟩ fun j _ hj ρ ⟨c', f0, W, F, x5, x6, d, e⟩ => by
      subst e
      have wl := d.wl
      have fl := d.ln
      have wp : (0 : Int) < (W.length : Nat) := by omega
      have v0 := Int.emod_nonneg c' (show ((W.length : Nat) : Int) ≠ 0 by omega)
      have v1 := Int.emod_lt_of_pos c' wp
      have s1 : setS 6 (modE (vE 0) (lenE (vE 3))) [some ⟨.shr, f0, .int c'⟩, some ⟨.shr, false, .int m⟩, some ⟨.shr, false, .int z⟩, some ⟨.own, true, .lst (li W)⟩, some ⟨.own, true, .lst (li F)⟩, some ⟨.shr, true, .int (j : Int)⟩, x6] = .nx [some ⟨.shr, f0, .int c'⟩, some ⟨.shr, false, .int m⟩, some ⟨.shr, false, .int z⟩, some ⟨.own, true, .lst (li W)⟩, some ⟨.own, true, .lst (li F)⟩, some ⟨.shr, true, .int (j : Int)⟩, some ⟨.shr, true, .int (c' % (W.length : Nat))⟩] :=
        set_shr (i2_ok (k := .shr) (fr := f0 || (D.int c').imm) (i := c') rfl (len_at (k := .own) (fr := true) rfl) (CP_of wp))
      have s2 : setS 0 (fdvE (vE 0) (lenE (vE 3))) [some ⟨.shr, f0, .int c'⟩, some ⟨.shr, false, .int m⟩, some ⟨.shr, false, .int z⟩, some ⟨.own, true, .lst (li W)⟩, some ⟨.own, true, .lst (li F)⟩, some ⟨.shr, true, .int (j : Int)⟩, some ⟨.shr, true, .int (c' % (W.length : Nat))⟩] = .nx [some ⟨.shr, true, .int (c' / (W.length : Nat))⟩, some ⟨.shr, false, .int m⟩, some ⟨.shr, false, .int z⟩, some ⟨.own, true, .lst (li W)⟩, some ⟨.own, true, .lst (li F)⟩, some ⟨.shr, true, .int (j : Int)⟩, some ⟨.shr, true, .int (c' % (W.length : Nat))⟩] :=
        set_shr (i2_ok (k := .shr) (fr := f0 || (D.int c').imm) (i := c') rfl (len_at (k := .own) (fr := true) rfl) (CD_of wp (Nat.lt_of_le_of_lt (show (((W.length : Nat) : Int)).natAbs ≤ 5 by omega) (by decide))))
      have hl : (c' % (W.length : Nat)).toNat < W.length := by omega
      exact ⟨[some ⟨.shr, f0, .int c'⟩, some ⟨.shr, false, .int m⟩, some ⟨.shr, false, .int z⟩, some ⟨.own, true, .lst (li W)⟩, some ⟨.own, true, .lst (li F)⟩, some ⟨.shr, true, .int (j : Int)⟩, x6], _, rfl, (seq_nx s1).trans ((seq_nx s2).trans (popApp_ok (k := vE 6) (F := F) (W := W) (f1 := true) (f2 := true) (kd := .shr) (fr := true) rfl rfl rfl v0 v1 (by omega) (by omega) (by decide))), _, _, _, _, _, _, d.next hl, rfl⟩
  rw [Nat.zero_add] at d
  have e3 : forS (rng1I (vE 2)) (.nm 5) dgb [some ⟨.shr, false, .int c⟩, some ⟨.shr, false, .int m⟩, some ⟨.shr, false, .int z⟩, some ⟨.own, true, .lst (li (rngI m))⟩, some ⟨.own, true, .lst (li [])⟩, none, none] = .nx [some ⟨.shr, f0, .int c'⟩, some ⟨.shr, false, .int m⟩, some ⟨.shr, false, .int z⟩, some ⟨.own, true, .lst (li W)⟩, some ⟨.own, true, .lst (li F)⟩, x5, x6] := by
    refine (for_ok (fr := true) (ds := (List.range z).map fun (i : Nat) => .int (i : Int)) (rng1_ok (k := .shr) (fr := true) (n := z) rfl (by omega))).trans ?_
    rw [List.range_eq_range', l1, l2]
  have u0 := Int.emod_nonneg c' (show (2000000001 : Int) ≠ 0 by decide)
  have u1 := Int.emod_lt_of_pos c' (show (0 : Int) < 2000000001 by decide)
  refine ⟨(F, c' % 2000000001 - 1000000000), ⟨d.ln, (d.out hm).1, (d.out hm).2, by show (c' % 2000000001 - 1000000000).natAbs ≤ 2 ^ 31; omega⟩, ?_⟩
  have e4 : retS (tupE [tofE (vE 4), subE (modE (vE 0) (addE (mulE (cE (.int 2)) (powE (cE (.int 10)) (cE (.int 9)))) (cE (.int 1)))) (powE (cE (.int 10)) (cE (.int 9)))]) [some ⟨.shr, f0, .int c'⟩, some ⟨.shr, false, .int m⟩, some ⟨.shr, false, .int z⟩, some ⟨.own, true, .lst (li W)⟩, some ⟨.own, true, .lst (li F)⟩, x5, x6] = .rt ⟨.shr, true, mkP (F, c' % 2000000001 - 1000000000)⟩ := by
    have q : addE (mulE (cE (.int 2)) (powE (cE (.int 10)) (cE (.int 9)))) (cE (.int 1)) [some ⟨.shr, f0, .int c'⟩, some ⟨.shr, false, .int m⟩, some ⟨.shr, false, .int z⟩, some ⟨.own, true, .lst (li W)⟩, some ⟨.own, true, .lst (li F)⟩, x5, x6] = .ok ⟨.shr, true, .int 2000000001⟩ :=
      i2_ok (i2_ok (k := .shr) (fr := true) (i := 2) rfl p9 (CM_of (sm9 (by decide)) (sm9 (by decide)))) (k' := .shr) (fr' := true) (j := 1) rfl rfl
    exact ret_shr ((tup2_ok (k := .shr) (fr := true) (d := .tup (li F)) (tof_ok (k := .own) (fr := true) rfl) (i2_ok (i2_ok (k := .shr) (fr := f0 || (D.int c').imm) (i := c') rfl q (CP_of (by decide))) p9 rfl) (by decide) (by decide)).trans rfl)
  exact (def_rt rfl ((seq_nx e1).trans ((seq_nx e2).trans ((seq_nx e3).trans e4)))).trans rfl
end Sm
set_option Elab.async false
set_option linter.all false
set_option maxRecDepth 100000
set_option maxHeartbeats 1000000
namespace Sm
open PySem L2 Mir Srt
theorem lst3_ok {f g h : FE} {ρ : Mir.Env} {a b c : Int} (h1 : f ρ = .ok ⟨.shr, true, .int a⟩) (h2 : g ρ = .ok ⟨.shr, true, .int b⟩) (h3 : h ρ = .ok ⟨.shr, true, .int c⟩) : lstE [f, g, h] ρ = .ok ⟨.tmp, true, .lst (li [a, b, c])⟩ := by
  have hz : ([D.int a, .int b, .int c] : List D).length ≤ sizeLine := by show 3 ≤ sizeLine; decide
  have e : evs [f, g, h] ρ = .ok [⟨.shr, true, .int a⟩, ⟨.shr, true, .int b⟩, ⟨.shr, true, .int c⟩] := evs_cons h1 (evs_cons h2 (evs_cons h3 evs_nil))
  have g' : gives [⟨.shr, true, .int a⟩, ⟨.shr, true, .int b⟩, ⟨.shr, true, .int c⟩] = .ok (true, [.int a, .int b, .int c]) := rfl
  simp only [lstE, e, R.ok_bind, g']
  exact if_pos hz
abbrev drb (φd φc : Φ) : FS := (ifS (bT (eqE (modE (vE 5) (cE (.int 2))) (cE (.int 1))))
        (appS 4 (callE φd [fdvE (vE 5) (cE (.int 2)), vE 1, vE 2]))
        (seqS (setS 6 (idxE (lstE [subE (modE (fdvE (vE 5) (cE (.int 8))) (cE (.int 7))) (cE (.int 3)), modE (fdvE (vE 5) (cE (.int 8))) (powE (cE (.int 10)) (cE (.int 9))), subE (cE (.int 0)) (modE (fdvE (vE 5) (cE (.int 8))) (powE (cE (.int 10)) (cE (.int 9))))]) (modE (modE (fdvE (vE 5) (cE (.int 2))) (cE (.int 4))) (cE (.int 3)))))
        (appS 4 (tupE [callE φc [fdvE (vE 5) (cE (.int 2)), vE 3, vE 1, vE 2], vE 6]))))
abbrev F_drawn (φd φc φg : Φ) : FS :=
    (seqS (setS 4 (lstE []))
    (seqS (forS (lstI (vE 0)) (.nm 5) (drb φd φc))
    (retS (callE φg [vE 4]))))
abbrev dE (C : D) (m z : Nat) (f : Int) (acc : List Tm) (x5 x6 : Option Res) : Mir.Env := [some ⟨.shr, false, C⟩, some ⟨.shr, false, .int m⟩, some ⟨.shr, false, .int z⟩, some ⟨.shr, false, .int f⟩, some ⟨.own, true, tmsD acc⟩, x5, x6]
theorem d_step {φd φc : Φ} {m z : Nat} {f : Int} (hd : ∀ c : Int, ∃ t : Tm, Term z t ∧ φd [.int c, .int m, .int z] = .ok ⟨.shr, true, mkP t⟩) (hc : ∀ c : Int, ∃ p : List Int, p.length = z ∧ p.Nodup ∧ (∀ x ∈ p, 0 ≤ x ∧ x < 5) ∧ φc [.int c, .int f, .int m, .int z] = .ok ⟨.shr, true, .tup (li p)⟩)
    (C : D) (acc : List Tm) (ha : acc.length ≤ 1000) (c : Int) (x6 : Option Res) : ∃ t x6', Term z t ∧ drb φd φc (dE C m z f acc (some ⟨.shr, false, .int c⟩) x6) = .nx (dE C m z f (acc ++ [t]) (some ⟨.shr, false, .int c⟩) x6') := by
  have t0 : bT (eqE (modE (vE 5) (cE (.int 2))) (cE (.int 1))) (dE C m z f acc (some ⟨.shr, false, .int c⟩) x6) = .ok (decide (c % 2 = 1)) := bT_ok (eq_int (i2_ok (k := .shr) (fr := true) (i := c) (k' := .shr) (fr' := true) (j := 2) rfl rfl (CP_of (by decide))) (k' := .shr) (fr' := true) (j := 1) rfl)
  have hs : (acc.map mkP).length < sizeLine := by rw [List.length_map, sizeLine_eq]; omega
  have fd : ∀ (q : Int) (x6 : Option Res), 0 < q → q.natAbs < 2 ^ 250 → fdvE (vE 5) (cE (.int q)) (dE C m z f acc (some ⟨.shr, false, .int c⟩) x6) = .ok ⟨.shr, true, .int (c / q)⟩ := fun q x6 h1 h2 => i2_ok (k := .shr) (fr := true) (i := c) (k' := .shr) (fr' := true) (j := q) rfl rfl (CD_of h1 h2)
  have app : ∀ t : Tm, ∀ x6 : Option Res, ∀ g : FE, g (dE C m z f acc (some ⟨.shr, false, .int c⟩) x6) = .ok ⟨.shr, true, mkP t⟩ → appS 4 g (dE C m z f acc (some ⟨.shr, false, .int c⟩) x6) = .nx (dE C m z f (acc ++ [t]) (some ⟨.shr, false, .int c⟩) x6) := fun t x6 g hg => by
    refine (app_ok (fr := true) (ds := acc.map mkP) rfl hg (by decide) hs).trans ?_
    show RS.nx [_, _, _, _, some (⟨.own, true, .lst (acc.map mkP ++ [mkP t])⟩ : Res), _, _] = .nx [_, _, _, _, some (⟨.own, true, .lst ((acc ++ [t]).map mkP)⟩ : Res), _, _]
    rw [List.map_append]; rfl
  by_cases w : c % 2 = 1
  · obtain ⟨t, T, e⟩ := hd (c / 2)
    refine ⟨t, x6, T, ?_⟩
    refine (if_t t0).trans ?_
    rw [decide_eq_true w, if_pos rfl]
    exact app t x6 _ (call_sc (rs := [⟨.shr, true, .int (c / 2)⟩, ⟨.shr, true, .int m⟩, ⟨.shr, true, .int z⟩]) (evs_cons (fd 2 x6 (by decide) (by decide)) (evs_cons rfl (evs_cons rfl evs_nil))) e)
  · obtain ⟨p, p1, p2, p3, e⟩ := hc (c / 2)
    have b0 := Int.emod_nonneg (c / 8) (show (7 : Int) ≠ 0 by decide)
    have b1 := Int.emod_lt_of_pos (c / 8) (show (0 : Int) < 7 by decide)
    have c0 := Int.emod_nonneg (c / 8) (show (1000000000 : Int) ≠ 0 by decide)
    have c1 := Int.emod_lt_of_pos (c / 8) (show (0 : Int) < 1000000000 by decide)
    obtain ⟨i, hi, ei⟩ : ∃ i : Nat, i < 3 ∧ (c / 2 % 4) % 3 = (i : Int) := by
      have q0 := Int.emod_nonneg (c / 2 % 4) (show (3 : Int) ≠ 0 by decide)
      have q1 := Int.emod_lt_of_pos (c / 2 % 4) (show (0 : Int) < 3 by decide)
      exact ⟨((c / 2 % 4) % 3).toNat, by omega, by omega⟩
    have e1 : lstE [subE (modE (fdvE (vE 5) (cE (.int 8))) (cE (.int 7))) (cE (.int 3)), modE (fdvE (vE 5) (cE (.int 8))) (powE (cE (.int 10)) (cE (.int 9))), subE (cE (.int 0)) (modE (fdvE (vE 5) (cE (.int 8))) (powE (cE (.int 10)) (cE (.int 9))))] (dE C m z f acc (some ⟨.shr, false, .int c⟩) x6) = .ok ⟨.tmp, true, .lst (li [c / 8 % 7 - 3, c / 8 % 1000000000, 0 - c / 8 % 1000000000])⟩ :=
      lst3_ok (i2_ok (i2_ok (fd 8 x6 (by decide) (by decide)) (k' := .shr) (fr' := true) (j := 7) rfl (CP_of (by decide))) (k' := .shr) (fr' := true) (j := 3) rfl rfl) (i2_ok (fd 8 x6 (by decide) (by decide)) p9 (CP_of (by decide))) (i2_ok (k := .shr) (fr := true) (i := 0) rfl (i2_ok (fd 8 x6 (by decide) (by decide)) p9 (CP_of (by decide))) rfl)
    have e2 : modE (modE (fdvE (vE 5) (cE (.int 2))) (cE (.int 4))) (cE (.int 3)) (dE C m z f acc (some ⟨.shr, false, .int c⟩) x6) = .ok ⟨.shr, true, .int (i : Nat)⟩ := by
      rw [← ei]
      exact i2_ok (i2_ok (fd 2 x6 (by decide) (by decide)) (k' := .shr) (fr' := true) (j := 4) rfl (CP_of (by decide))) (k' := .shr) (fr' := true) (j := 3) rfl (CP_of (by decide))
    have s1 := set_shr (i := 6) (idx_int e1 e2 (row_at (r := [c / 8 % 7 - 3, c / 8 % 1000000000, 0 - c / 8 % 1000000000]) hi))
    have mem := getD_mem (xs := [c / 8 % 7 - 3, c / 8 % 1000000000, 0 - c / 8 % 1000000000]) (d := 0) hi
    have nb : ([c / 8 % 7 - 3, c / 8 % 1000000000, 0 - c / 8 % 1000000000].getD i 0).natAbs ≤ 2 ^ 31 := by
      simp only [List.mem_cons, List.not_mem_nil, or_false] at mem
      rcases mem with q | q | q <;> rw [q] <;> omega
    generalize [c / 8 % 7 - 3, c / 8 % 1000000000, 0 - c / 8 % 1000000000].getD i 0 = v at s1 nb
    refine ⟨(p, v), some ⟨.shr, true, .int v⟩, ⟨p1, p2, p3, nb⟩, ?_⟩
    refine (if_t t0).trans ?_
    rw [decide_eq_false w, if_neg (by decide)]
    refine (seq_nx s1).trans (app (p, v) (some ⟨.shr, true, .int v⟩) _ ?_)
    have ec : callE φc [fdvE (vE 5) (cE (.int 2)), vE 3, vE 1, vE 2] (dE C m z f acc (some ⟨.shr, false, .int c⟩) (some ⟨.shr, true, .int v⟩)) = .ok ⟨.shr, true, .tup (li p)⟩ := call_sc (rs := [⟨.shr, true, .int (c / 2)⟩, ⟨.shr, true, .int f⟩, ⟨.shr, true, .int m⟩, ⟨.shr, true, .int z⟩]) (evs_cons (fd 2 _ (by decide) (by decide)) (evs_cons rfl (evs_cons rfl (evs_cons rfl evs_nil)))) e
    exact (tup2_ok ec (k' := .shr) (fr' := true) (d' := .int v) rfl (by decide) (by decide)).trans rfl
theorem d_loop {φd φc : Φ} {m z : Nat} {f : Int} (hd : ∀ c : Int, ∃ t : Tm, Term z t ∧ φd [.int c, .int m, .int z] = .ok ⟨.shr, true, mkP t⟩) (hc : ∀ c : Int, ∃ p : List Int, p.length = z ∧ p.Nodup ∧ (∀ x ∈ p, 0 ≤ x ∧ x < 5) ∧ φc [.int c, .int f, .int m, .int z] = .ok ⟨.shr, true, .tup (li p)⟩)
    (C : D) : ∀ (cs : List Int) (acc : List Tm) (x5 x6 : Option Res), acc.length + cs.length ≤ 100 → (∀ t ∈ acc, Term z t) → ∃ ts x5' x6', (∀ t ∈ ts, Term z t) ∧ ts.length = acc.length + cs.length ∧ forL (.nm 5) (drb φd φc) false (li cs) (dE C m z f acc x5 x6) = .nx (dE C m z f ts x5' x6')
  | [], acc, x5, x6, _, h => ⟨acc, x5, x6, h, rfl, rfl⟩
  | c :: cs, acc, x5, x6, hz, h => by
    rw [List.length_cons] at hz
    obtain ⟨t, y6, T, e⟩ := d_step hd hc C acc (by omega) c x6
    obtain ⟨ts, x5', x6', g1, g2, g3⟩ := d_loop hd hc C cs (acc ++ [t]) (some ⟨.shr, false, .int c⟩) y6 (by rw [List.length_append, List.length_singleton]; omega) (fun u hu => (List.mem_append.mp hu).elim (h u) fun q => by rw [List.mem_singleton.mp q]; exact T)
    refine ⟨ts, x5', x6', g1, by rw [g2, List.length_append, List.length_singleton, List.length_cons]; omega, ?_⟩
    have bd : Tg.bind false (.nm 5) (.int c) (dE C m z f acc x5 x6) = .ok (dE C m z f acc (some ⟨.shr, false, .int c⟩) x6) := rfl
    show forL (.nm 5) (drb φd φc) false (.int c :: li cs) _ = _
    simp only [forL, bd, R.at, e]
    exact g3
theorem drawn_g {φd φc φg : Φ} (hg : Tells φg) {m z : Nat} {f : Int} (hd : ∀ c : Int, ∃ t : Tm, Term z t ∧ φd [.int c, .int m, .int z] = .ok ⟨.shr, true, mkP t⟩) (hc : ∀ c : Int, ∃ p : List Int, p.length = z ∧ p.Nodup ∧ (∀ x ∈ p, 0 ≤ x ∧ x < 5) ∧ φc [.int c, .int f, .int m, .int z] = .ok ⟨.shr, true, .tup (li p)⟩)
    (hz : z ≤ 5) {cs : List Int} (hl : cs.length ≤ 20) : ∃ S : List Tm, Sum z S ∧ Told S ∧ (∀ t ∈ S, t.2.natAbs ≤ 2 ^ 40) ∧ defR 4 7 (F_drawn φd φc φg) [.lst (li cs), .int m, .int z, .int f] = .ok ⟨.tmp, true, tmsD S⟩ := by
  obtain ⟨ts, x5, x6, g1, g2, g3⟩ := d_loop hd hc (.lst (li cs)) cs [] none none (by rw [List.length_nil]; omega) (fun t h => by cases h)
  rw [List.length_nil, Nat.zero_add] at g2
  refine ⟨sumP ts, sum_of (by omega) (by omega) (fun t ht => (g1 t ht).ln) (fun t ht => (g1 t ht).rg) (fun t ht => (g1 t ht).nd) fun t ht => (g1 t ht).nb, told_sum fun t ht => (g1 t ht).nd, fun p hp => ?_, ?_⟩
  · have := acc_le ts [] (M := 0) (fun _ h => nomatch h) (fun t ht => (g1 t ht).nb) p (outB_mem hp).1
    have h2 : ts.length * 2 ^ 31 ≤ 20 * 2 ^ 31 := Nat.mul_le_mul_right _ (by omega)
    omega
  have F : Fit ts := by
    have := acc_len ts []
    rw [List.length_nil] at this
    exact ⟨fun t ht => by rw [(g1 t ht).ln]; omega, fun t ht => bnd40 (Nat.le_trans (g1 t ht).nb (Nat.pow_le_pow_right (by decide) (by decide))), by omega, ⟨z, fun t ht => (g1 t ht).ln⟩, by omega⟩
  have e1 : setS 4 (lstE []) [some ⟨.shr, false, .lst (li cs)⟩, some ⟨.shr, false, .int m⟩, some ⟨.shr, false, .int z⟩, some ⟨.shr, false, .int f⟩, none, none, none] = .nx (dE (.lst (li cs)) m z f [] none none) := rfl
  have e2 : forS (lstI (vE 0)) (.nm 5) (drb φd φc) (dE (.lst (li cs)) m z f [] none none) = .nx (dE (.lst (li cs)) m z f ts x5 x6) := (for_ok (fr := false) (ds := li cs) rfl).trans g3
  have e3 : callE φg [vE 4] (dE (.lst (li cs)) m z f ts x5 x6) = .ok ⟨.tmp, true, tmsD (sumP ts)⟩ := call_tmp (rs := [⟨.own, true, tmsD ts⟩]) (evs_cons rfl evs_nil) (hg _ F)
  exact (def_rt rfl ((seq_nx e1).trans ((seq_nx e2).trans (ret_tmp e3)))).trans rfl
theorem drawn_f {φd φc φg : Φ} (hg : Tells φg) {m z : Nat} {f : Int} (hd : ∀ c : Int, ∃ t : Tm, Term z t ∧ φd [.int c, .int m, .int z] = .ok ⟨.shr, true, mkP t⟩) (hc : ∀ c : Int, ∃ p : List Int, p.length = z ∧ p.Nodup ∧ (∀ x ∈ p, 0 ≤ x ∧ x < 5) ∧ φc [.int c, .int f, .int m, .int z] = .ok ⟨.shr, true, .tup (li p)⟩)
    (hz : z ≤ 5) {cs : List Int} (hl : cs.length ≤ 20) : ∃ S : List Tm, Sum z S ∧ Told S ∧ defR 4 7 (F_drawn φd φc φg) [.lst (li cs), .int m, .int z, .int f] = .ok ⟨.tmp, true, tmsD S⟩ := by
  obtain ⟨S, a, b, _, d⟩ := drawn_g hg hd hc hz hl
  exact ⟨S, a, b, d⟩
end Sm
set_option Elab.async false
set_option linter.all false
set_option maxRecDepth 100000
set_option maxHeartbeats 1000000
namespace N32
open PySem L2 Mir Sm
theorem t_summed : Tells w_summed := fun ts F => summed_g (φ := w_turn_of) (fun p hp => turn_g p (by omega)) F
theorem t_gath : Tells w__law_gathered := fun ts F => gathered_g F
theorem alls : Alls w__law_same_sum w_added w__law_gathered w_taken w_product w__law_product :=
  ⟨fun S h => ss_f (φ := w__law_whole) (fun v => rfl) h, t_gath, fun ha hb => added_f t_summed ha hb, fun {L a} ha {k} hk => taken_f t_summed ha hk, fun ha hb => prod_f t_summed ha hb, fun ha hb => lprod_f t_gath ha hb⟩
theorem good_ok {L K : Nat} {a b c : List Tm} (ha : Sum L a) (hb : Sum L b) (hc : Sum K c) {k : Int} (hk : k.natAbs ≤ 2 ^ 80) : w__law_good [tmsD a, tmsD b, tmsD c, .int k] = .ok (sc (.bl true)) := good_f alls ha hb hc hk
theorem drawn_ok {m z : Nat} {f : Int} (hf : f.natAbs ≤ 100) (hm : m ≤ 5) (hz : z ≤ m) {cs : List Int} (hl : cs.length ≤ 12) : ∃ S : List Tm, Sum z S ∧ Told S ∧ w__law_drawn_sum [.lst (li cs), .int m, .int z, .int f] = .ok ⟨.tmp, true, tmsD S⟩ :=
  drawn_f (φd := w__law_digit_term) (φc := w__law_chosen) t_gath (fun c => digit_f c m z hm hz) (fun c => chosen_f (φ := w__law_thing) (fun c k m hk hm => thing_f c k m hk hm) c f hf m z hm hz) (by omega) (by omega)
def cutI (xs : List Int) (lo hi : Option Int) : List Int := (xs.drop (HT.sIx xs.length 0 lo)).take (HT.sIx xs.length xs.length hi - HT.sIx xs.length 0 lo)
theorem cut_li (xs : List Int) (lo hi : Option Int) : cutD (li xs) lo hi = li (cutI xs lo hi) := by
  unfold cutD cutI li
  rw [List.length_map, List.map_take, List.map_drop]
theorem cut_len (xs : List Int) (a b : Nat) : (cutI xs (some (a : Int)) (some (b : Int))).length ≤ b - a := by
  unfold cutI
  rw [HT.sIx_nat, HT.sIx_nat, List.length_take]
  omega
def cellv (ns : List Int) (k : Nat) : Int := if k < ns.length then ns.getD k 0 % 2147483647 else 0
theorem cellv_bd (ns : List Int) (k : Nat) : 0 ≤ cellv ns k ∧ cellv ns k < 2147483647 := by
  unfold cellv
  split
  · exact ⟨Int.emod_nonneg _ (by decide), Int.emod_lt_of_pos _ (by decide)⟩
  · decide
theorem cell_ok (ns : List Int) (k : Nat) : w__law_cell [.lst (li ns), .int k] = .ok (sc (.int (cellv ns k))) := by
  refine (def_rt (r := sc (.int (cellv ns k))) rfl ?_).trans rfl
  unfold f__law_cell
  have t : ltE (vE 1) (lenE (vE 0)) (stE 2 [.lst (li ns), .int k]) = .ok (sc (.bl (decide ((k : Int) < (li ns).length)))) := cmp_int (i := (k : Int)) (j := ((li ns).length : Int)) rfl (len_ok (ds := li ns) rfl)
  by_cases h : k < ns.length
  · refine (seq_rt (r := sc (.int (cellv ns k))) ?_)
    refine (if_bT t).trans ?_
    rw [decide_eq_true (by simpa using h)]
    refine (if_pos rfl).trans ?_
    have e := i2_ok (C := CP) (G := fun i j => i % j) (f := idxE (vE 0) (vE 1)) (g := cE (.int 2147483647)) (ρ := [some ⟨.shr, false, .lst (li ns)⟩, some ⟨.shr, false, .int k⟩]) (j := 2147483647) (idx_int (ds := li ns) (i := k) (z := ns.getD k 0) rfl rfl (row_at h)) rfl (decide_eq_true (by decide))
    refine (ret_shr e).trans ?_
    unfold cellv
    rw [if_pos h]
    rfl
  · refine (seq_nx (ρ1 := stE 2 [.lst (li ns), .int k]) ?_).trans ?_
    · refine (if_bT t).trans ?_
      rw [decide_eq_false (by simpa using h)]
      rfl
    · unfold cellv
      rw [if_neg h]
      rfl
abbrev S0 (ns : List Int) : Option Res := some ⟨.shr, false, .lst (li ns)⟩
theorem cell_e (ns : List Int) (k : Nat) (r : List (Option Res)) : callE w__law_cell [vE 0, cE (.int k)] (S0 ns :: r) = .ok ⟨.shr, true, .int (cellv ns k)⟩ := call_sc (rs := [⟨.shr, false, .lst (li ns)⟩, ⟨.shr, true, .int k⟩]) (evs_cons rfl (evs_cons rfl evs_nil)) (cell_ok ns k)
theorem slc_e {ns : List Int} {r : List (Option Res)} {lo hi : FO} {a b : Option Int} (h1 : lo (S0 ns :: r) = .ok a) (h2 : hi (S0 ns :: r) = .ok b) : slcE (vE 0) lo hi (S0 ns :: r) = .ok ⟨.tmp, false, .lst (li (cutI ns a b))⟩ := by
  refine (slc_ok (k := .shr) (fr := false) (ds := li ns) rfl h1 h2).trans ?_
  rw [cut_li]
theorem min_ok {f g : FE} {ρ : Mir.Env} {k k' : Kd} {fr fr' : Bool} {i j : Int} (h1 : f ρ = .ok ⟨k, fr, .int i⟩) (h2 : g ρ = .ok ⟨k', fr', .int j⟩) : minE f g ρ = .ok ⟨.shr, true, .int (if j < i then j else i)⟩ := by simp only [minE, h1, h2, R.ok_bind, asI]; rfl
abbrev E1 (ns : List Int) (x1 x2 x3 x4 x5 x6 x7 x8 x9 x10 x11 x12 : Option Res) : Mir.Env := [S0 ns, x1, x2, x3, x4, x5, x6, x7, x8, x9, x10, x11, x12]
abbrev iR (i : Int) : Option Res := some ⟨.shr, true, .int i⟩
abbrev oR (S : List Tm) : Option Res := some ⟨.own, true, tmsD S⟩
theorem sum_at {m z q : Nat} {f : Int} (hf : f.natAbs ≤ 100) (hm : m ≤ 5) (hz : z ≤ m) (hq : q ≤ 12) {ns : List Int} {r : List (Option Res)} {lo hi : FO} {a : Nat} {fz : FE} (h1 : lo (S0 ns :: r) = .ok (some (a : Int))) (h2 : hi (S0 ns :: r) = .ok (some ((a + q : Nat) : Int))) (v1 : vE 1 (S0 ns :: r) = .ok ⟨.shr, true, .int m⟩) (vz : fz (S0 ns :: r) = .ok ⟨.shr, true, .int z⟩) :
    ∃ S, Sum z S ∧ Told S ∧ callE w__law_drawn_sum [slcE (vE 0) lo hi, vE 1, fz, cE (.int f)] (S0 ns :: r) = .ok ⟨.tmp, true, tmsD S⟩ := by
  obtain ⟨S, s1, s2, s3⟩ := drawn_ok (m := m) (z := z) hf hm hz (cs := cutI ns (some (a : Int)) (some ((a + q : Nat) : Int))) (by have := cut_len ns a (a + q); omega)
  exact ⟨S, s1, s2, call_tmp (rs := [⟨.tmp, false, .lst (li (cutI ns (some (a : Int)) (some ((a + q : Nat) : Int))))⟩, ⟨.shr, true, .int m⟩, ⟨.shr, true, .int z⟩, ⟨.shr, true, .int f⟩]) (evs_cons (slc_e h1 h2) (evs_cons v1 (evs_cons vz (evs_cons rfl evs_nil)))) s3⟩
end N32
set_option Elab.async false
set_option linter.all false
set_option maxRecDepth 100000
set_option maxHeartbeats 1000000
namespace N32
open PySem L2 Mir Sm
abbrev U : List Tm := [([], 1)]
abbrev kpD (a b c : List Tm) : D := .lst [tmsD a, tmsD b, tmsD c]
theorem ss_ok {S : List Tm} {L : Nat} (h : Sum L S) : w__law_same_sum [tmsD S, tmsD S] = .ok (sc (.bl true)) := alls.s S fun t ht => by rw [h.sz t ht]; have := h.hL; omega
theorem g_e {ρ : Mir.Env} {f0 f1 f2 f3 : FE} {k0 k1 k2 k3 : Kd} {b0 b1 b2 b3 : Bool} {L K : Nat} {a b c : List Tm} (ha : Sum L a) (hb : Sum L b) (hc : Sum K c) {k : Int} (hk : k.natAbs ≤ 2 ^ 80) (h0 : f0 ρ = .ok ⟨k0, b0, tmsD a⟩) (h1 : f1 ρ = .ok ⟨k1, b1, tmsD b⟩) (h2 : f2 ρ = .ok ⟨k2, b2, tmsD c⟩) (h3 : f3 ρ = .ok ⟨k3, b3, .int k⟩) :
    callE w__law_good [f0, f1, f2, f3] ρ = .ok ⟨.shr, true, .bl true⟩ := call_sc (rs := [⟨k0, b0, tmsD a⟩, ⟨k1, b1, tmsD b⟩, ⟨k2, b2, tmsD c⟩, ⟨k3, b3, .int k⟩]) (evs_cons h0 (evs_cons h1 (evs_cons h2 (evs_cons h3 evs_nil)))) (good_ok ha hb hc hk)
theorem p_e {ρ : Mir.Env} {f0 f1 : FE} {k0 k1 : Kd} {b0 b1 : Bool} {L K : Nat} {a b : List Tm} (ha : Sum L a) (hb : Sum K b) (h0 : f0 ρ = .ok ⟨k0, b0, tmsD a⟩) (h1 : f1 ρ = .ok ⟨k1, b1, tmsD b⟩) : callE w_product [f0, f1] ρ = .ok ⟨.tmp, true, tmsD (sumP (prodT a b))⟩ :=
  call_tmp (rs := [⟨k0, b0, tmsD a⟩, ⟨k1, b1, tmsD b⟩]) (evs_cons h0 (evs_cons h1 evs_nil)) (alls.p ha hb)
theorem a_e {ρ : Mir.Env} {f0 f1 : FE} {k0 k1 : Kd} {b0 b1 : Bool} {L : Nat} {a b : List Tm} (ha : Sum L a) (hb : Sum L b) (h0 : f0 ρ = .ok ⟨k0, b0, tmsD a⟩) (h1 : f1 ρ = .ok ⟨k1, b1, tmsD b⟩) : callE w_added [f0, f1] ρ = .ok ⟨.tmp, true, tmsD (sumP (a ++ b))⟩ :=
  call_tmp (rs := [⟨k0, b0, tmsD a⟩, ⟨k1, b1, tmsD b⟩]) (evs_cons h0 (evs_cons h1 evs_nil)) (alls.a ha hb)
theorem s_e {ρ : Mir.Env} {f0 f1 : FE} {k0 k1 : Kd} {b0 b1 : Bool} {L : Nat} {a : List Tm} (ha : Sum L a) (h0 : f0 ρ = .ok ⟨k0, b0, tmsD a⟩) (h1 : f1 ρ = .ok ⟨k1, b1, tmsD a⟩) : callE w__law_same_sum [f0, f1] ρ = .ok ⟨.shr, true, .bl true⟩ :=
  call_sc (rs := [⟨k0, b0, tmsD a⟩, ⟨k1, b1, tmsD a⟩]) (evs_cons h0 (evs_cons h1 evs_nil)) (ss_ok ha)
theorem two_t {f g : FE} {ρ : Mir.Env} (h1 : f ρ = .ok ⟨.shr, true, .bl true⟩) (h2 : g ρ = .ok ⟨.shr, true, .bl true⟩) : orT (notT (bT f)) (notT (bT g)) ρ = .ok false := (orT_ok (notT_ok (bT_ok h1)) fun _ => notT_ok (bT_ok h2)).trans rfl
theorem sumP_small {ts : List Tm} (F : Fit ts) : ((sumP ts).map mkP).length < sizeLine := by
  have h1 := outB_len (acc [] ts)
  have h2 := F.ks
  rw [List.length_map, sizeLine_eq]
  have : (sumP ts).length ≤ (acc [] ts).length := h1
  omega
theorem pl_tms (S : List Tm) : (tmsD S).pl 6 = true := by
  show (D.lst (S.map mkP)).pl 6 = true
  simp only [D.pl]
  refine pls_all fun d hd => ?_
  obtain ⟨t, _, rfl⟩ := List.mem_map.mp hd
  show (D.tup [.tup (li t.1), .int t.2]).pl 5 = true
  simp [D.pl, D.pls, pls_li]
end N32
set_option Elab.async false
set_option linter.all false
set_option maxRecDepth 100000
set_option maxHeartbeats 1000000
namespace N32
open PySem L2 Mir Sm
abbrev lend : FS := (seqS (setS 9 (lstE [lofE (vE 5), lofE (vE 6), lofE (vE 7)]))
    (seqS (setS 10 (lstE []))
    (seqS (setS 11 (lstE [tupE [tupE [], cE (.int 1)]]))
    (seqS (ifS (orT (notT (bT (callE w__law_good [vE 5, vE 6, vE 7, vE 8]))) (notT (bT (callE w__law_good [vE 6, vE 5, vE 5, cE (.int 1)]))))
      (retS (cE (.bl false)))
      nilS)
    (seqS (ifS (orT (notT (bT (callE w__law_good [vE 7, vE 10, vE 5, cE (.int 0)]))) (notT (bT (callE w__law_good [vE 10, vE 5, vE 7, vE 8]))))
      (retS (cE (.bl false)))
      nilS)
    (seqS (ifS (orT (notT (bT (callE w__law_same_sum [callE w_product [vE 11, vE 5], vE 5]))) (notT (bT (callE w__law_same_sum [callE w_product [vE 5, vE 11], vE 5]))))
      (retS (cE (.bl false)))
      nilS)
    (seqS (frzS 6 (frzS 10 (forS (lstI (lstE [vE 10, vE 6])) (.nm 12)
      (seqS (appT (callE w_added [vE 5, vE 12]) (idxE (vE 11) (cE (.int 0))))
      (appT (callE w_added [vE 12, vE 5]) (idxE (vE 11) (cE (.int 0))))))))
    (seqS (appT (callE w_taken [vE 5, cE (.int 1)]) (idxE (vE 11) (cE (.int 0))))
    (seqS (appT (callE w_product [vE 5, vE 11]) (idxE (vE 11) (cE (.int 0))))
    (seqS (appT (callE w_product [vE 11, vE 5]) (idxE (vE 11) (cE (.int 0))))
    (seqS (ifS (orT (bT (neE (vE 10) (lstE []))) (bT (neE (vE 11) (lstE [tupE [tupE [], cE (.int 1)]]))))
      (retS (cE (.bl false)))
      nilS)
    (frzS 7 (frzS 6 (frzS 5 (retS (andE (eqE (lstE [vE 5, vE 6, vE 7]) (vE 9)) (callE w__law_good [vE 5, vE 6, vE 7, vE 8])))))))))))))))))
theorem lend_ok (ns : List Int) (x1 x2 x3 x4 : Option Res) {z y : Nat} {a b c : List Tm} (ha : Sum z a) (ta : Told a) (hb : Sum z b) (hc : Sum y c) {k : Int} (hk : k.natAbs ≤ 2 ^ 80) :
    lend (E1 ns x1 x2 x3 x4 (oR a) (oR b) (oR c) (iR k) none none none none) = .rt ⟨.shr, true, .bl true⟩ := by
  have n0 : Sum z [] := sum_nil ha.hL
  have n1 : Sum y [] := sum_nil hc.hL
  have hu := sum_unit
  have e1 : setS 9 (lstE [lofE (vE 5), lofE (vE 6), lofE (vE 7)]) (E1 ns x1 x2 x3 x4 (oR a) (oR b) (oR c) (iR k) none none none none) = .nx (E1 ns x1 x2 x3 x4 (oR a) (oR b) (oR c) (iR k) (some ⟨.own, true, kpD a b c⟩) none none none) := rfl
  have e2 : setS 10 (lstE []) (E1 ns x1 x2 x3 x4 (oR a) (oR b) (oR c) (iR k) (some ⟨.own, true, kpD a b c⟩) none none none) = .nx (E1 ns x1 x2 x3 x4 (oR a) (oR b) (oR c) (iR k) (some ⟨.own, true, kpD a b c⟩) (oR []) none none) := rfl
  have e3 : setS 11 (lstE [tupE [tupE [], cE (.int 1)]]) (E1 ns x1 x2 x3 x4 (oR a) (oR b) (oR c) (iR k) (some ⟨.own, true, kpD a b c⟩) (oR []) none none) = .nx (E1 ns x1 x2 x3 x4 (oR a) (oR b) (oR c) (iR k) (some ⟨.own, true, kpD a b c⟩) (oR []) (oR U) none) := rfl
  refine (seq_nx e1).trans ((seq_nx e2).trans ((seq_nx e3).trans ?_))
  have e4 : ifS (orT (notT (bT (callE w__law_good [vE 5, vE 6, vE 7, vE 8]))) (notT (bT (callE w__law_good [vE 6, vE 5, vE 5, cE (.int 1)])))) (retS (cE (.bl false))) nilS (E1 ns x1 x2 x3 x4 (oR a) (oR b) (oR c) (iR k) (some ⟨.own, true, kpD a b c⟩) (oR []) (oR U) none) = .nx (E1 ns x1 x2 x3 x4 (oR a) (oR b) (oR c) (iR k) (some ⟨.own, true, kpD a b c⟩) (oR []) (oR U) none) :=
    (if_t (two_t (g_e (k0 := .own) (b0 := true) (k1 := .own) (b1 := true) (k2 := .own) (b2 := true) (k3 := .shr) (b3 := true) ha hb hc hk rfl rfl rfl rfl) (g_e (k0 := .own) (b0 := true) (k1 := .own) (b1 := true) (k2 := .own) (b2 := true) (k3 := .shr) (b3 := true) hb ha ha (k := 1) (by decide) rfl rfl rfl rfl))).trans rfl
  have e5 : ifS (orT (notT (bT (callE w__law_good [vE 7, vE 10, vE 5, cE (.int 0)]))) (notT (bT (callE w__law_good [vE 10, vE 5, vE 7, vE 8])))) (retS (cE (.bl false))) nilS (E1 ns x1 x2 x3 x4 (oR a) (oR b) (oR c) (iR k) (some ⟨.own, true, kpD a b c⟩) (oR []) (oR U) none) = .nx (E1 ns x1 x2 x3 x4 (oR a) (oR b) (oR c) (iR k) (some ⟨.own, true, kpD a b c⟩) (oR []) (oR U) none) :=
    (if_t (two_t (g_e (k0 := .own) (b0 := true) (k1 := .own) (b1 := true) (k2 := .own) (b2 := true) (k3 := .shr) (b3 := true) hc n1 ha (k := 0) (by decide) rfl rfl rfl rfl) (g_e (k0 := .own) (b0 := true) (k1 := .own) (b1 := true) (k2 := .own) (b2 := true) (k3 := .shr) (b3 := true) n0 ha hc hk rfl rfl rfl rfl))).trans rfl
  refine (seq_nx e4).trans ((seq_nx e5).trans ?_)
  have q1 : callE w_product [vE 11, vE 5] (E1 ns x1 x2 x3 x4 (oR a) (oR b) (oR c) (iR k) (some ⟨.own, true, kpD a b c⟩) (oR []) (oR U) none) = .ok ⟨.tmp, true, tmsD a⟩ := by
    refine (p_e (k0 := .own) (b0 := true) (k1 := .own) (b1 := true) hu ha rfl rfl).trans ?_
    rw [prod_unit_l, ta.same]
  have q2 : callE w_product [vE 5, vE 11] (E1 ns x1 x2 x3 x4 (oR a) (oR b) (oR c) (iR k) (some ⟨.own, true, kpD a b c⟩) (oR []) (oR U) none) = .ok ⟨.tmp, true, tmsD a⟩ := by
    refine (p_e (k0 := .own) (b0 := true) (k1 := .own) (b1 := true) ha hu rfl rfl).trans ?_
    rw [prod_unit_r, ta.same]
  have e6 : ifS (orT (notT (bT (callE w__law_same_sum [callE w_product [vE 11, vE 5], vE 5]))) (notT (bT (callE w__law_same_sum [callE w_product [vE 5, vE 11], vE 5])))) (retS (cE (.bl false))) nilS (E1 ns x1 x2 x3 x4 (oR a) (oR b) (oR c) (iR k) (some ⟨.own, true, kpD a b c⟩) (oR []) (oR U) none) = .nx (E1 ns x1 x2 x3 x4 (oR a) (oR b) (oR c) (iR k) (some ⟨.own, true, kpD a b c⟩) (oR []) (oR U) none) :=
    (if_t (two_t (s_e (k1 := .own) (b1 := true) ha q1 rfl) (s_e (k1 := .own) (b1 := true) ha q2 rfl))).trans rfl
  refine (seq_nx e6).trans ?_
  have wr : ∀ (B N : Option Res) (x12 : Option Res), ∃ r, idxE (vE 11) (cE (.int 0)) (E1 ns x1 x2 x3 x4 (oR a) B (oR c) (iR k) (some ⟨.own, true, kpD a b c⟩) N (oR U) x12) = .ok r := fun B N x12 => ⟨_, rfl⟩
  have step : ∀ (S : List Tm), Sum z S → (seqS (appT (callE w_added [vE 5, vE 12]) (idxE (vE 11) (cE (.int 0)))) (appT (callE w_added [vE 12, vE 5]) (idxE (vE 11) (cE (.int 0))))) (E1 ns x1 x2 x3 x4 (oR a) (some ⟨.shr, true, tmsD b⟩) (oR c) (iR k) (some ⟨.own, true, kpD a b c⟩) (some ⟨.shr, true, tmsD []⟩) (oR U) (some ⟨.shr, true, tmsD S⟩)) = .nx (E1 ns x1 x2 x3 x4 (oR a) (some ⟨.shr, true, tmsD b⟩) (oR c) (iR k) (some ⟨.own, true, kpD a b c⟩) (some ⟨.shr, true, tmsD []⟩) (oR U) (some ⟨.shr, true, tmsD S⟩)) := fun S hS => by
    obtain ⟨r, er⟩ := wr (some ⟨.shr, true, tmsD b⟩) (some ⟨.shr, true, tmsD []⟩) (some ⟨.shr, true, tmsD S⟩)
    exact (seq_nx (appT_ok (a_e (k0 := .own) (b0 := true) (k1 := .shr) (b1 := true) ha hS rfl rfl) er (sumP_small (ha.fit2 hS)))).trans (appT_ok (a_e (k0 := .shr) (b0 := true) (k1 := .own) (b1 := true) hS ha rfl rfl) er (sumP_small (hS.fit2 ha)))
  have e7 : frzS 6 (frzS 10 (forS (lstI (lstE [vE 10, vE 6])) (.nm 12) (seqS (appT (callE w_added [vE 5, vE 12]) (idxE (vE 11) (cE (.int 0)))) (appT (callE w_added [vE 12, vE 5]) (idxE (vE 11) (cE (.int 0))))))) (E1 ns x1 x2 x3 x4 (oR a) (oR b) (oR c) (iR k) (some ⟨.own, true, kpD a b c⟩) (oR []) (oR U) none) = .nx (E1 ns x1 x2 x3 x4 (oR a) (some ⟨.shr, true, tmsD b⟩) (oR c) (iR k) (some ⟨.own, true, kpD a b c⟩) (some ⟨.shr, true, tmsD []⟩) (oR U) (some ⟨.shr, true, tmsD b⟩)) := by
    refine (frz_go (e := ⟨.own, true, tmsD b⟩) rfl).trans ((frz_go (e := ⟨.own, true, tmsD []⟩) rfl).trans ?_)
    refine (for_ok (fr := true) (ds := [tmsD [], tmsD b]) rfl).trans ?_
    have b1 : ∀ (S : List Tm) (x12 : Option Res), Tg.bind true (.nm 12) (tmsD S) (E1 ns x1 x2 x3 x4 (oR a) (some ⟨.shr, true, tmsD b⟩) (oR c) (iR k) (some ⟨.own, true, kpD a b c⟩) (some ⟨.shr, true, tmsD []⟩) (oR U) x12) = .ok (E1 ns x1 x2 x3 x4 (oR a) (some ⟨.shr, true, tmsD b⟩) (oR c) (iR k) (some ⟨.own, true, kpD a b c⟩) (some ⟨.shr, true, tmsD []⟩) (oR U) (some ⟨.shr, true, tmsD S⟩)) := fun S x12 => rfl
    show forL _ _ _ _ (E1 ns x1 x2 x3 x4 (oR a) (some ⟨.shr, true, tmsD b⟩) (oR c) (iR k) (some ⟨.own, true, kpD a b c⟩) (some ⟨.shr, true, tmsD []⟩) (oR U) none) = _
    simp only [forL, b1, R.at, step [] n0, step b hb]
  refine (seq_nx e7).trans ?_
  obtain ⟨r, er⟩ := wr (some ⟨.shr, true, tmsD b⟩) (some ⟨.shr, true, tmsD []⟩) (some ⟨.shr, true, tmsD b⟩)
  have one : (1 : Int).natAbs ≤ 2 ^ 80 := by decide
  have e8 := appT_ok (call_tmp (φ := w_taken) (fs := [vE 5, cE (.int 1)]) (rs := [⟨.own, true, tmsD a⟩, ⟨.shr, true, .int 1⟩]) (evs_cons rfl (evs_cons rfl evs_nil)) (alls.t ha one)) er (sumP_small (ha.fitT one))
  have e9 := appT_ok (p_e (f0 := vE 5) (f1 := vE 11) (ρ := E1 ns x1 x2 x3 x4 (oR a) (some ⟨.shr, true, tmsD b⟩) (oR c) (iR k) (some ⟨.own, true, kpD a b c⟩) (some ⟨.shr, true, tmsD []⟩) (oR U) (some ⟨.shr, true, tmsD b⟩)) (k0 := .own) (b0 := true) (k1 := .own) (b1 := true) ha hu rfl rfl) er (sumP_small (ha.fitP hu))
  have e10 := appT_ok (p_e (f0 := vE 11) (f1 := vE 5) (ρ := E1 ns x1 x2 x3 x4 (oR a) (some ⟨.shr, true, tmsD b⟩) (oR c) (iR k) (some ⟨.own, true, kpD a b c⟩) (some ⟨.shr, true, tmsD []⟩) (oR U) (some ⟨.shr, true, tmsD b⟩)) (k0 := .own) (b0 := true) (k1 := .own) (b1 := true) hu ha rfl rfl) er (sumP_small (hu.fitP ha))
  refine (seq_nx e8).trans ((seq_nx e9).trans ((seq_nx e10).trans ?_))
  have e11 : ifS (orT (bT (neE (vE 10) (lstE []))) (bT (neE (vE 11) (lstE [tupE [tupE [], cE (.int 1)]])))) (retS (cE (.bl false))) nilS (E1 ns x1 x2 x3 x4 (oR a) (some ⟨.shr, true, tmsD b⟩) (oR c) (iR k) (some ⟨.own, true, kpD a b c⟩) (some ⟨.shr, true, tmsD []⟩) (oR U) (some ⟨.shr, true, tmsD b⟩)) = .nx (E1 ns x1 x2 x3 x4 (oR a) (some ⟨.shr, true, tmsD b⟩) (oR c) (iR k) (some ⟨.own, true, kpD a b c⟩) (some ⟨.shr, true, tmsD []⟩) (oR U) (some ⟨.shr, true, tmsD b⟩)) := by
    refine (if_t (b := false) ?_).trans rfl
    refine (orT_ok (bT_ok (ne_ok (r := ⟨.shr, true, tmsD []⟩) (r' := ⟨.tmp, true, tmsD []⟩) (b := true) rfl rfl (eqv_self 6 (pl_tms []) (by decide)))) fun _ => bT_ok (ne_ok (r := ⟨.own, true, tmsD U⟩) (r' := ⟨.tmp, true, tmsD U⟩) (b := true) rfl rfl (eqv_self 6 (pl_tms U) (by decide)))).trans rfl
  refine (seq_nx e11).trans ?_
  refine (frz_go (e := ⟨.own, true, tmsD c⟩) rfl).trans ((frz_go (e := ⟨.shr, true, tmsD b⟩) rfl).trans ((frz_go (e := ⟨.own, true, tmsD a⟩) rfl).trans ?_))
  show retS _ (E1 ns x1 x2 x3 x4 (some ⟨.shr, true, tmsD a⟩) (some ⟨.shr, true, tmsD b⟩) (some ⟨.shr, true, tmsD c⟩) (iR k) (some ⟨.own, true, kpD a b c⟩) (some ⟨.shr, true, tmsD []⟩) (oR U) (some ⟨.shr, true, tmsD b⟩)) = _
  have pk : (kpD a b c).pl 7 = true := by
    show D.pls [tmsD a, tmsD b, tmsD c] 6 = true
    refine pls_all fun d hd => ?_
    simp only [List.mem_cons, List.not_mem_nil, or_false] at hd
    rcases hd with q | q | q <;> rw [q]
    · exact pl_tms a
    · exact pl_tms b
    · exact pl_tms c
  exact ret_shr ((andE_ok (eq_ok (r := ⟨.tmp, true, kpD a b c⟩) (r' := ⟨.own, true, kpD a b c⟩) (b := true) rfl rfl (eqv_self 7 pk (by decide))) fun _ => g_e (k0 := .shr) (b0 := true) (k1 := .shr) (b1 := true) (k2 := .shr) (b2 := true) (k3 := .shr) (b3 := true) ha hb hc hk rfl rfl rfl rfl).trans rfl)
end N32
set_option Elab.async false
set_option linter.all false
set_option maxRecDepth 100000
set_option maxHeartbeats 1000000
namespace N32
open PySem L2 Mir Sm
theorem law_ok (ns : List Int) : w_law [.lst (ns.map .int)] = .ok (sc (.bl true)) := by
  have c0 := cellv_bd ns 0
  have c1 := cellv_bd ns 1
  have c2 := cellv_bd ns 2
  have m0 := Int.emod_nonneg (cellv ns 0) (show (5 : Int) ≠ 0 by decide)
  have m1 := Int.emod_lt_of_pos (cellv ns 0) (show (0 : Int) < 5 by decide)
  obtain ⟨m, hm⟩ := Int.eq_ofNat_of_zero_le (show 0 ≤ 1 + cellv ns 0 % 5 by omega)
  have hm5 : m ≤ 5 := by omega
  have z0 := Int.emod_nonneg (cellv ns 1) (show ((m : Int) + 1) ≠ 0 by omega)
  have z1 := Int.emod_lt_of_pos (cellv ns 1) (show 0 < (m : Int) + 1 by omega)
  obtain ⟨z, hz⟩ := Int.eq_ofNat_of_zero_le z0
  have y0 := Int.emod_nonneg (cellv ns 1 / 6) (show ((m : Int) + 1) ≠ 0 by omega)
  have y1 := Int.emod_lt_of_pos (cellv ns 1 / 6) (show 0 < (m : Int) + 1 by omega)
  obtain ⟨y, hy⟩ := Int.eq_ofNat_of_zero_le y0
  have hzm : z ≤ m := by omega
  have hym : y ≤ m := by omega
  let ln : Nat := (cutI ns (some ((3 : Nat) : Int)) none).length
  obtain ⟨q, hq⟩ : ∃ q : Nat, (if (ln : Int) / 3 < 12 then (ln : Int) / 3 else 12) = (q : Int) := Int.eq_ofNat_of_zero_le (by split <;> omega)
  have hq12 : q ≤ 12 := by split at hq <;> omega
  have e1 : setS 1 (addE (cE (.int 1)) (modE (callE w__law_cell [vE 0, cE (.int 0)]) (cE (.int 5)))) (E1 ns none none none none none none none none none none none none) = .nx (E1 ns (iR m) none none none none none none none none none none none) := by
    rw [← hm]
    exact set_shr (i2_ok (k := .shr) (fr := true) (i := 1) rfl (i2_ok (cell_e ns 0 _) (k' := .shr) (fr' := true) (j := 5) rfl (CP_of (by decide))) rfl)
  have v1 : ∀ x2 x3 x4 x5 x6 x7 x8 x9 x10 x11 x12, addE (vE 1) (cE (.int 1)) (E1 ns (iR m) x2 x3 x4 x5 x6 x7 x8 x9 x10 x11 x12) = .ok ⟨.shr, true, .int ((m : Int) + 1)⟩ := fun _ _ _ _ _ _ _ _ _ _ _ => i2_ok (k := .shr) (fr := true) (i := (m : Int)) (k' := .shr) (fr' := true) (j := 1) rfl rfl rfl
  have e2 : setS 2 (modE (callE w__law_cell [vE 0, cE (.int 1)]) (addE (vE 1) (cE (.int 1)))) (E1 ns (iR m) none none none none none none none none none none none) = .nx (E1 ns (iR m) (iR z) none none none none none none none none none none) := by
    rw [show iR (z : Int) = iR (cellv ns 1 % ((m : Int) + 1)) by rw [hz]]
    exact set_shr (i2_ok (cell_e ns 1 _) (v1 _ _ _ _ _ _ _ _ _ _ _) (CP_of (by omega)))
  have e3 : setS 3 (modE (fdvE (callE w__law_cell [vE 0, cE (.int 1)]) (cE (.int 6))) (addE (vE 1) (cE (.int 1)))) (E1 ns (iR m) (iR z) none none none none none none none none none none) = .nx (E1 ns (iR m) (iR z) (iR y) none none none none none none none none none) := by
    rw [show iR (y : Int) = iR (cellv ns 1 / 6 % ((m : Int) + 1)) by rw [hy]]
    exact set_shr (i2_ok (i2_ok (cell_e ns 1 _) (k' := .shr) (fr' := true) (j := 6) rfl (CD_of (by decide) (by decide))) (v1 _ _ _ _ _ _ _ _ _ _ _) (CP_of (by omega)))
  have e4 : setS 4 (minE (cE (.int 12)) (fdvE (lenE (slcE (vE 0) (soO (cE (.int 3))) (noO))) (cE (.int 3)))) (E1 ns (iR m) (iR z) (iR y) none none none none none none none none none) = .nx (E1 ns (iR m) (iR z) (iR y) (iR q) none none none none none none none none) := by
    rw [show iR (q : Int) = iR (if (ln : Int) / 3 < 12 then (ln : Int) / 3 else 12) by rw [hq]]
    have sl := slc_e (ns := ns) (r := [iR m, iR z, iR y, none, none, none, none, none, none, none, none, none]) (lo := soO (cE (.int 3))) (hi := noO) (a := some ((3 : Nat) : Int)) (b := none) rfl rfl
    have le : lenE (slcE (vE 0) (soO (cE (.int 3))) (noO)) (E1 ns (iR m) (iR z) (iR y) none none none none none none none none none) = .ok ⟨.shr, true, .int (ln : Nat)⟩ := by
      refine (len_ok sl).trans ?_
      rw [List.length_map]; rfl
    exact set_shr (min_ok (k := .shr) (fr := true) (i := 12) rfl (i2_ok le (k' := .shr) (fr' := true) (j := 3) rfl (CD_of (by decide) (by decide))))
  have f3 : ∀ x5 x6 x7, soO (addE (cE (.int 3)) (vE 4)) (E1 ns (iR m) (iR z) (iR y) (iR q) x5 x6 x7 none none none none none) = .ok (some ((3 + q : Nat) : Int)) := fun x5 x6 x7 => (so_ok (k := .shr) (fr := true) (i := 3 + (q : Int)) (i2_ok (k := .shr) (fr := true) (i := 3) (k' := .shr) (fr' := true) (j := (q : Int)) rfl rfl rfl)).trans (by rw [Int.natCast_add]; rfl)
  have fk : ∀ (n : Int) (N : Nat), n = (N : Int) → n.natAbs ≤ 1000 → ∀ x5 x6 x7, soO (addE (cE (.int 3)) (mulE (cE (.int n)) (vE 4))) (E1 ns (iR m) (iR z) (iR y) (iR q) x5 x6 x7 none none none none none) = .ok (some ((3 + N * q : Nat) : Int)) := fun n N hn hb x5 x6 x7 =>
    (so_ok (k := .shr) (fr := true) (i := 3 + n * (q : Int)) (i2_ok (k := .shr) (fr := true) (i := 3) rfl (i2_ok (k := .shr) (fr := true) (i := n) (k' := .shr) (fr' := true) (j := (q : Int)) rfl rfl (CM_of (sm9 (by omega)) (sm9 (by omega)))) rfl)).trans (by rw [Int.natCast_add, Int.natCast_mul, hn]; rfl)
  obtain ⟨a, ha, ta, ea⟩ := sum_at (m := m) (z := z) (q := q) (f := 3) (by decide) hm5 hzm hq12 (ns := ns) (r := [iR m, iR z, iR y, iR q, none, none, none, none, none, none, none, none]) (a := 3) (lo := soO (cE (.int 3))) (fz := vE 2) rfl (f3 none none none) rfl rfl
  have e5 := set_tmp (i := 5) ea
  obtain ⟨b, hb, tb, eb⟩ := sum_at (m := m) (z := z) (q := q) (f := 13) (by decide) hm5 hzm hq12 (ns := ns) (r := [iR m, iR z, iR y, iR q, oR a, none, none, none, none, none, none, none]) (a := 3 + q) (hi := soO (addE (cE (.int 3)) (mulE (cE (.int 2)) (vE 4)))) (fz := vE 2) (f3 _ _ _) ((fk 2 2 rfl (by decide) _ _ _).trans (by rw [show 3 + 2 * q = 3 + q + q by omega])) rfl rfl
  have e6 := set_tmp (i := 6) eb
  obtain ⟨c, hc, tc, ec⟩ := sum_at (m := m) (z := y) (q := q) (f := 23) (by decide) hm5 hym hq12 (ns := ns) (r := [iR m, iR z, iR y, iR q, oR a, oR b, none, none, none, none, none, none]) (a := 3 + 2 * q) (fz := vE 3) (fk 2 2 rfl (by decide) _ _ _) ((fk 3 3 rfl (by decide) _ _ _).trans (by rw [show 3 + 3 * q = 3 + 2 * q + q by omega])) rfl rfl
  have e7 := set_tmp (i := 7) ec
  have d0 := Int.emod_nonneg (cellv ns 2) (show (100000 : Int) ≠ 0 by decide)
  have d1 := Int.emod_lt_of_pos (cellv ns 2) (show (0 : Int) < 100000 by decide)
  have e8 : setS 8 (subE (modE (callE w__law_cell [vE 0, cE (.int 2)]) (powE (cE (.int 10)) (cE (.int 5)))) (mulE (cE (.int 5)) (powE (cE (.int 10)) (cE (.int 4))))) (E1 ns (iR m) (iR z) (iR y) (iR q) (oR a) (oR b) (oR c) none none none none none) = .nx (E1 ns (iR m) (iR z) (iR y) (iR q) (oR a) (oR b) (oR c) (iR (cellv ns 2 % 100000 - 5 * 10000)) none none none none) :=
    set_shr (i2_ok (i2_ok (cell_e ns 2 _) (k' := .shr) (fr' := true) (j := 100000) rfl (CP_of (by decide))) (i2_ok (k := .shr) (fr := true) (i := 5) (k' := .shr) (fr' := true) (j := 10000) rfl rfl (CM_of (sm9 (by decide)) (sm9 (by decide)))) rfl)
  obtain ⟨k, hk, e9⟩ : ∃ k : Int, k.natAbs ≤ 2 ^ 80 ∧ ifS (bT (eqE (modE (callE w__law_cell [vE 0, cE (.int 2)]) (cE (.int 3))) (cE (.int 1)))) (setS 8 (mulE (vE 8) (addE (powE (cE (.int 10)) (cE (.int 15))) (cE (.int 7))))) nilS (E1 ns (iR m) (iR z) (iR y) (iR q) (oR a) (oR b) (oR c) (iR (cellv ns 2 % 100000 - 5 * 10000)) none none none none) = .nx (E1 ns (iR m) (iR z) (iR y) (iR q) (oR a) (oR b) (oR c) (iR k) none none none none) := by
    have t0 : bT (eqE (modE (callE w__law_cell [vE 0, cE (.int 2)]) (cE (.int 3))) (cE (.int 1))) (E1 ns (iR m) (iR z) (iR y) (iR q) (oR a) (oR b) (oR c) (iR (cellv ns 2 % 100000 - 5 * 10000)) none none none none) = .ok (decide (cellv ns 2 % 3 = 1)) := bT_ok (eq_int (i2_ok (cell_e ns 2 _) (k' := .shr) (fr' := true) (j := 3) rfl (CP_of (by decide))) (k' := .shr) (fr' := true) (j := 1) rfl)
    by_cases w : cellv ns 2 % 3 = 1
    · refine ⟨(cellv ns 2 % 100000 - 5 * 10000) * 1000000000000007, by omega, (if_t t0).trans ?_⟩
      rw [decide_eq_true w, if_pos rfl]
      exact set_shr (i2_ok (k := .shr) (fr := true) (i := cellv ns 2 % 100000 - 5 * 10000) rfl (i2_ok (k := .shr) (fr := true) (i := 1000000000000000) (k' := .shr) (fr' := true) (j := 7) rfl rfl rfl) (CM_of (sm9 (by omega)) (small (M := 1000000000000007) (lt1000 (by decide)) (by decide))))
    · refine ⟨cellv ns 2 % 100000 - 5 * 10000, by omega, (if_t t0).trans ?_⟩
      rw [decide_eq_false w, if_neg (by decide)]; rfl
  have ee := lend_ok ns (iR m) (iR z) (iR y) (iR q) ha ta hb hc hk
  have e : f_law (E1 ns none none none none none none none none none none none none) = .rt ⟨.shr, true, .bl true⟩ := (seq_nx e1).trans ((seq_nx e2).trans ((seq_nx e3).trans ((seq_nx e4).trans ((seq_nx e5).trans ((seq_nx e6).trans ((seq_nx e7).trans ((seq_nx e8).trans ((seq_nx e9).trans ee))))))))
  exact (def_rt rfl e).trans rfl
end N32
open PySem PySem.W PyProof.Rows
set_option maxRecDepth 100000 in
set_option maxHeartbeats 0 in
theorem PySem.Challenge.cw_flatmeet_k32_sums_and_products_holds : PySem.Challenge.rw_flatmeet_k32_sums_and_products.Holds := by
  w_on; o_law; k_head; (case hw => w_witness2)
  k_fill
  refine N32.walk (l := PySem.Challenge.rw_flatmeet_k32_sums_and_products) rfl rfl (fun ns _ => N32.law_ok ns) (fun w h Y => PySem.W.kIn_of Y) ?L ?F
  case L => intro P; kernel_rfl
  case F =>
    intro w mg fa h KX G hmg
    refine' N32.all_mk KX G hmg ⟨?n0, ?l0, ?c0, ?k0⟩ ⟨?n1, ?l1, ?c1, ?k1⟩ ⟨?n2, ?l2, ?c2, ?k2⟩ ⟨?n3, ?l3, ?c3, ?k3⟩ ⟨?n4, ?l4, ?c4, ?k4⟩ ⟨?n5, ?l5, ?c5, ?k5⟩ ⟨?n6, ?l6, ?c6, ?k6⟩ ⟨?n7, ?l7, ?c7, ?k7⟩ ⟨?n8, ?l8, ?c8, ?k8⟩ ⟨?n9, ?l9, ?c9, ?k9⟩ ⟨?n10, ?l10, ?c10, ?k10⟩ ⟨?n11, ?l11, ?c11, ?k11⟩ ⟨?n12, ?l12, ?c12, ?k12⟩ ⟨?n13, ?l13, ?c13, ?k13⟩ ⟨?n14, ?l14, ?c14, ?k14⟩ ⟨?n15, ?l15, ?c15, ?k15⟩ ?z0 ?z1 ?z2 ?z3 ?z4 ?z5 ?z6 ?z7 ?z8 ?z9 ?z10 ?z11 ?z12 
    (case n0 => k_is); (case l0 => k_is); (case c0 => k_is); (case k0 => k_is)
    (case n1 => k_is); (case l1 => k_is); (case c1 => k_is); (case k1 => k_is)
    (case n2 => k_is); (case l2 => k_is); (case c2 => k_is); (case k2 => k_is)
    (case n3 => k_is); (case l3 => k_is); (case c3 => k_is); (case k3 => k_is)
    (case n4 => k_is); (case l4 => k_is); (case c4 => k_is); (case k4 => k_is)
    (case n5 => k_is); (case l5 => k_is); (case c5 => k_is); (case k5 => k_is)
    (case n6 => k_is); (case l6 => k_is); (case c6 => k_is); (case k6 => k_is)
    (case n7 => k_is); (case l7 => k_is); (case c7 => k_is); (case k7 => k_is)
    (case n8 => k_is); (case l8 => k_is); (case c8 => k_is); (case k8 => k_is)
    (case n9 => k_is); (case l9 => k_is); (case c9 => k_is); (case k9 => k_is)
    (case n10 => k_is); (case l10 => k_is); (case c10 => k_is); (case k10 => k_is)
    (case n11 => k_is); (case l11 => k_is); (case c11 => k_is); (case k11 => k_is)
    (case n12 => k_is); (case l12 => k_is); (case c12 => k_is); (case k12 => k_is)
    (case n13 => k_is); (case l13 => k_is); (case c13 => k_is); (case k13 => k_is)
    (case n14 => k_is); (case l14 => k_is); (case c14 => k_is); (case k14 => k_is)
    (case n15 => k_is); (case l15 => k_is); (case c15 => k_is); (case k15 => k_is)
    (case z0 => k_is); (case z1 => k_is); (case z2 => k_is); (case z3 => k_is); (case z4 => k_is); (case z5 => k_is); (case z6 => k_is); (case z7 => k_is); (case z8 => k_is); (case z9 => k_is); (case z10 => k_is); (case z11 => k_is); (case z12 => k_is)
