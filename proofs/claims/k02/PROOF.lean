import PyProof.Rows.All
import Wide.All
import OpenK.AllK
import Wide.FinOn
import Lean
import PyProof.EqAt
import PyProof.EqKinds
import PyProof.TupleCall
import PyProof.ZipIter
import PyProof.ListNew
import PySem.Sem
import PyProof.WalksEnum
import PyProof.EnumMake
import PySem.Challenge.RW_flatmeet_k02_rows_of_unlike_lengths
set_option Elab.async false
set_option linter.all false
set_option maxRecDepth 100000
namespace L2
open PySem PySem.Spec PyProof.Rows
abbrev Key := Sum Int Str
def keyIs : Key → Value → Bool
  | .inl k, v => Value.isInt k v
  | .inr x, v => Value.isStrOf x v
def keyH (w : World) : Key → Int
  | .inl k => hashInt k
  | .inr x => hashStr w x
theorem keyIs_shape : ∀ {k : Key} {v : Value}, keyIs k v = true → (∃ i t, k = Sum.inl i ∧ v = Value.int i t) ∨ (∃ x t, k = Sum.inr x ∧ v = Value.str x t)
  | .inl i, v, h => by
    obtain ⟨t, e⟩ := Value.isInt_shape (k := i) (v := v) h
    exact .inl ⟨i, t, rfl, e⟩
  | .inr x, v, h => by
    obtain ⟨t, e⟩ := Value.isStrOf_shape (x := x) (v := v) h
    exact .inr ⟨x, t, rfl, e⟩
theorem key_ll (a b : Int) : decide ((Sum.inl a : Key) = Sum.inl b) = (a == b) := by
  by_cases e : a = b
  · subst e; simp
  · have h : ¬ (Sum.inl a : Key) = Sum.inl b := fun q => e (Sum.inl.inj q)
    rw [decide_eq_false h]
    exact (beq_eq_false_iff_ne.mpr e).symm
theorem key_rr (a b : Str) : decide ((Sum.inr a : Key) = Sum.inr b) = decide (a = b) := by
  by_cases e : a = b
  · subst e; simp
  · have h : ¬ (Sum.inr a : Key) = Sum.inr b := fun q => e (Sum.inr.inj q)
    rw [decide_eq_false h, decide_eq_false e]
theorem key_lr (a : Int) (b : Str) : decide ((Sum.inl a : Key) = Sum.inr b) = false := decide_eq_false (fun q => nomatch q)
theorem key_rl (a : Str) (b : Int) : decide ((Sum.inr a : Key) = Sum.inl b) = false := decide_eq_false (fun q => nomatch q)
def mixKind (prog : Program) (w : World) : PySem.KeyKind prog w Key where
  is := keyIs
  hash := keyH w
  inj := fun v a b ha hb => by
    rcases keyIs_shape ha with ⟨i, t, rfl, rfl⟩ | ⟨x, t, rfl, rfl⟩
    · rcases keyIs_shape hb with ⟨j, u, rfl, e⟩ | ⟨y, u, rfl, e⟩
      · injection e with e1 _; rw [e1]
      · exact nomatch e
    · rcases keyIs_shape hb with ⟨j, u, rfl, e⟩ | ⟨y, u, rfl, e⟩
      · exact nomatch e
      · injection e with e1 _; rw [e1]
  byValue := fun k v h => by
    rcases keyIs_shape h with ⟨i, t, rfl, rfl⟩ | ⟨x, t, rfl, rfl⟩ <;> rfl
  pyHash := fun hv h => by
    rcases keyIs_shape hv with ⟨i, t, rfl, rfl⟩ | ⟨x, t, rfl, rfl⟩
    · exact wpAny_pyHash_int h
    · exact wpAny_pyHash_str h
  eqBool := fun hu hv h => by
    rcases keyIs_shape hu with ⟨i, t, rfl, rfl⟩ | ⟨x, t, rfl, rfl⟩
    · rcases keyIs_shape hv with ⟨j, u, rfl, rfl⟩ | ⟨y, u, rfl, rfl⟩
      · rw [key_ll] at h; exact wpAny_eqBool_int h
      · rw [key_lr] at h; exact SeqAt.EqAt.int_str i t y u _ _ _ _ h
    · rcases keyIs_shape hv with ⟨j, u, rfl, rfl⟩ | ⟨y, u, rfl, rfl⟩
      · rw [key_rl] at h; exact SeqAt.EqAt.str_int x t j u _ _ _ _ h
      · rw [key_rr] at h; exact wpAny_eqBool_str h
  «strs» := fun k x t v h => by
    rcases keyIs_shape h with ⟨i, u, rfl, e⟩ | ⟨y, u, rfl, e⟩
    · exact nomatch e
    · injection e with e1 _
      subst e1
      cases v <;> rfl
end L2
namespace L2
open PySem PySem.Spec PyProof.Rows
inductive V where
  | non | bl (b : Bool) | int (i : Int) | str (x : Str) | byt (b : Array UInt8) | flt (b : UInt64) | ref (a : Addr) | ty (n : String)
  deriving DecidableEq
def RelV : V → Value → Prop
  | .non, u => u = Value.none
  | .bl b, u => u = Value.bool b
  | .int i, u => ∃ t, u = Value.int i t
  | .str x, u => ∃ t, u = Value.str x t
  | .byt b, u => ∃ t, u = Value.bytes b t
  | .flt b, u => ∃ t, u = Value.float b t
  | .ref a, u => u = Value.ref a
  | .ty n, u => u = Value.type n
abbrev Vals : List V → List Value → Prop := Paired RelV
theorem Vals.length {xs : List V} {us : List Value} (r : Vals xs us) : xs.length = us.length := Paired.length r
theorem Vals.get : ∀ {xs : List V} {us : List Value} {i : Nat} {x : V}, Vals xs us → xs[i]? = some x → ∃ u, us[i]? = some u ∧ RelV x u
  | _, _, _, _, .nil, e => by simp at e
  | _, _, 0, _, .cons r _, e => by simp at e; subst e; exact ⟨_, rfl, r⟩
  | _, _, i + 1, x, .cons _ t, e => by
    obtain ⟨u, h1, h2⟩ := Vals.get (i := i) (x := x) t (by simpa using e)
    exact ⟨u, by simpa using h1, h2⟩
theorem Vals.set {x : V} {u : Value} (r : RelV x u) : ∀ {xs : List V} {us : List Value} (i : Nat), Vals xs us → Vals (xs.set i x) (us.set i u)
  | _, _, _, .nil => .nil
  | _, _, 0, .cons _ t => .cons r t
  | _, _, i + 1, .cons q t => .cons q (Vals.set r i t)
theorem Vals.append : ∀ {xs ys : List V} {us ws : List Value}, Vals xs us → Vals ys ws → Vals (xs ++ ys) (us ++ ws)
  | _, _, _, _, .nil, s => s
  | _, _, _, _, .cons r t, s => .cons r (Vals.append t s)
theorem Vals.take : ∀ {xs : List V} {us : List Value} (n : Nat), Vals xs us → Vals (xs.take n) (us.take n)
  | _, _, 0, _ => .nil
  | _, _, _ + 1, .nil => .nil
  | _, _, n + 1, .cons r t => .cons r (Vals.take n t)
theorem Vals.drop : ∀ {xs : List V} {us : List Value} (n : Nat), Vals xs us → Vals (xs.drop n) (us.drop n)
  | _, _, 0, r => r
  | _, _, _ + 1, .nil => .nil
  | _, _, n + 1, .cons _ t => Vals.drop n t
def RelO : Option V → Option Value → Prop
  | some v, some u => RelV v u
  | none, none => True
  | _, _ => False
def KV {κ : Type} : List (κ × V) → List (κ × Value) → Prop := Paired fun (p : κ × V) (q : κ × Value) => p.1 = q.1 ∧ RelV p.2 q.2
def kV : Key → V
  | .inl i => .int i
  | .inr x => .str x
inductive HO where
  /-- a list -/
  | lst (xs : List V)
  /-- a tuple (never changes) -/
  | tup (xs : List V)
  /-- a dict whose keys are ints and texts; one whose keys are tuples of ints and texts (the empty one is both) -/
  | dK (kvs : List (Key × V)) | dT (kvs : List (List Key × V))
  /-- a set of ints: its members, its size -/
  | set (S : Int → Bool) (n : Nat)
  /-- an instance of the class at C, its dict at dx, its attributes -/
  | ins (C dx : Addr) (fs : List (Str × V))
  /-- the dict of the instance at x -/
  | own (x : Addr)
  /-- the dict of an exception -/
  | xd (fs : List (Str × V))
  /-- a bound method, f of x -/
  | met (f x : Addr)
  /-- a range object lo, lo + 1, .. below hi -/
  | rng (lo hi : Int)
  /-- a thing that is known to the object (the script; a dict while a loop walks it): read, never written while it is so -/
  | frz (o : Obj) (u : HO)
  /-- a code object's table -/
  | tbl (ps : Array Value)
  /-- any other thing, by what is true of its one object (a def of one's own: SetO a S n := HO.ext fun h => ..) -/
  | ext (φ : Heap → Prop)
abbrev Hp := Addr → Option HO
def upd (H : Hp) (a : Addr) (o : HO) : Hp := fun b => if b = a then some o else H b
theorem upd_same {H : Hp} {a : Addr} {o : HO} : upd H a o a = some o := by unfold upd; rw [if_pos rfl]
theorem upd_ne {H : Hp} {a b : Addr} {o : HO} (h : b ≠ a) : upd H a o b = H b := by unfold upd; rw [if_neg h]
theorem ne_of_none {H : Hp} {a b : Addr} {o : HO} (h : H a = some o) (h' : H b = none) : a ≠ b := by
  intro e; subst e; rw [h] at h'; cases h'
section
variable (P : Program) (w : World)
def ObjOk (H : Hp) (h : Heap) (a : Addr) : HO → Prop
  | .lst xs => xs.length ≤ sizeLine ∧ ∃ (its : List Value) (n : Nat), Vals xs its ∧ h.get? a = some { cls := .type "list", data := .seq its.toArray n }
  | .tup xs => xs.length ≤ sizeLine ∧ ∃ its : List Value, Vals xs its ∧ IsTup h a its.toArray
  | .dK kvs => kvs.length ≤ sizeLine ∧ (a == sysModules) = false ∧ ∃ vs, KV kvs vs ∧ h.DictOf (mixKind P w) a vs
  | .dT kvs => kvs.length ≤ sizeLine ∧ (a == sysModules) = false ∧ ∃ xs : List (List Key × Addr × Value),
      Paired (fun (p : List Key × V) (q : List Key × Addr × Value) => p.1 = q.1 ∧ H q.2.1 = some (.tup (p.1.map kV)) ∧ RelV p.2 q.2.2) kvs xs ∧
      ∃ o es ep, h.get? a = some o ∧ o.ExactDict ∧ o.data = .dict es ep ∧ es.toList = xs.map (entryOfKey (tupleKind (mixKind P w))) ∧ (xs.map (·.1)).Nodup
  | .set S n => h.SetOf (intKind P w) a S n
  | .ins C dx fs => H dx = some (.own a) ∧ fs.length ≤ 1000 ∧ dx ≠ a ∧ h.get? a = some (PySem.W.instObj C dx) ∧
      ∃ mA, h.Ns1 dx mA ∧ (∀ f, RelO (fs.lookup f) (mA f)) ∧ PySem.Within mA (fs.map (·.1))
  | .own _ => ∃ o, h.get? a = some o
  | .xd fs => ∃ mA, h.Ns1 a mA ∧ ∀ f, RelO (fs.lookup f) (mA f)
  | .rng lo hi => ∃ t u v, h.get? a = some { cls := .type "range", data := .fields #[.int lo t, .int hi u, .int 1 v] }
  | .frz o u => h.get? a = some o ∧ ObjOk H h a u
  | .tbl ps => h.get? a = some { cls := .none, data := .fields ps }
  | .met f x => h.get? a = some (PySem.W.methodObj (.ref f) (.ref x))
  | .ext φ => φ h ∧ (∃ o, h.get? a = some o) ∧ ∀ h1 h2 : Heap, φ h1 → (∀ o, h1.get? a = some o → h2.get? a = some o) → φ h2
def HOk (H : Hp) (h : Heap) : Prop := ∀ a o, H a = some o → ObjOk P w H h a o
end
section
variable {P : Program} {w : World} {H H' : Hp} {h h' : Heap} {a : Addr} {o : HO}
theorem ObjOk.lt (x : ObjOk P w H h a o) : a < h.objs.size := by
  cases o with
  | lst xs => obtain ⟨_, _, _, _, e⟩ := x; exact Heap.lt_size e
  | tup xs => obtain ⟨_, _, _, p⟩ := x; exact p.lt
  | dK kvs => obtain ⟨_, _, _, _, o, _, _, e, _⟩ := x; exact Heap.lt_size e
  | dT kvs => obtain ⟨_, _, _, _, o, _, _, e, _⟩ := x; exact Heap.lt_size e
  | set S n => obtain ⟨o, _, _, _, e, _⟩ := x; exact Heap.lt_size e
  | ins C dx fs => obtain ⟨_, _, _, e, _⟩ := x; exact Heap.lt_size e
  | own y => obtain ⟨_, e⟩ := x; exact Heap.lt_size e
  | xd fs => obtain ⟨_, ⟨_, _, _, e, _⟩, _⟩ := x; exact Heap.lt_size e
  | rng lo hi => obtain ⟨_, _, _, e⟩ := x; exact Heap.lt_size e
  | frz ob u => obtain ⟨e, _⟩ := x; exact Heap.lt_size e
  | tbl ps => exact Heap.lt_size (show h.get? a = some _ from x)
  | met f y => exact Heap.lt_size (show h.get? a = some _ from x)
  | ext φ => obtain ⟨_, ⟨_, e⟩, _⟩ := x; exact Heap.lt_size e
theorem Paired.mapP {α β : Type} {F G : α → β → Prop} : ∀ {l₁ : List α} {l₂ : List β}, Paired F l₁ l₂ → (∀ a b, F a b → G a b) → Paired G l₁ l₂
  | _, _, .nil, _ => .nil
  | _, _, .cons r t, f => .cons (f _ _ r) (Paired.mapP t f)
theorem ObjOk.stay (x : ObjOk P w H h a o) (k : ∀ b u, (b = a ∨ H b = some (.own a)) → h.get? b = some u → h'.get? b = some u)
    (ho : ∀ b, H b = some (.own a) → H' b = some (.own a)) (ht : ∀ b xs, H b = some (.tup xs) → H' b = some (.tup xs)) : ObjOk P w H' h' a o := by
  induction o with
  | lst xs => obtain ⟨z, its, n, r, e⟩ := x; exact ⟨z, its, n, r, k _ _ (.inl rfl) e⟩
  | tup xs => obtain ⟨z, its, r, ob, e, c⟩ := x; exact ⟨z, its, r, ob, k _ _ (.inl rfl) e, c⟩
  | dK kvs => obtain ⟨z, y, vs, r, ob, es, ep, e, c⟩ := x; exact ⟨z, y, vs, r, ob, es, ep, k _ _ (.inl rfl) e, c⟩
  | dT kvs =>
    obtain ⟨z, y, xs, r, ob, es, ep, e, c⟩ := x
    exact ⟨z, y, xs, Paired.mapP r fun p q z => ⟨z.1, ht _ _ z.2.1, z.2.2⟩, ob, es, ep, k _ _ (.inl rfl) e, c⟩
  | set S n => obtain ⟨ob, es, ep, t, e, c⟩ := x; exact ⟨ob, es, ep, t, k _ _ (.inl rfl) e, c⟩
  | ins C dx fs =>
    obtain ⟨d, z, ne, e, mA, ⟨od, es, ep, e2, c⟩, r⟩ := x
    exact ⟨ho _ d, z, ne, k _ _ (.inl rfl) e, mA, ⟨od, es, ep, k _ _ (.inr d) e2, c⟩, r⟩
  | own y => obtain ⟨ob, e⟩ := x; exact ⟨ob, k _ _ (.inl rfl) e⟩
  | xd fs => obtain ⟨mA, ⟨od, es, ep, e, c⟩, r⟩ := x; exact ⟨mA, ⟨od, es, ep, k _ _ (.inl rfl) e, c⟩, r⟩
  | rng lo hi => obtain ⟨t, u, v, e⟩ := x; exact ⟨t, u, v, k _ _ (.inl rfl) e⟩
  | frz ob u ih => obtain ⟨e, q⟩ := x; exact ⟨k _ _ (.inl rfl) e, ih q⟩
  | tbl ps =>
    have e : h.get? a = some { cls := .none, data := .fields ps } := x
    show h'.get? a = some { cls := .none, data := .fields ps }
    exact k a _ (.inl rfl) e
  | met f y =>
    have e : h.get? a = some (PySem.W.methodObj (.ref f) (.ref y)) := x
    show h'.get? a = some (PySem.W.methodObj (.ref f) (.ref y))
    exact k a _ (.inl rfl) e
  | ext φ => obtain ⟨p, ⟨o, e⟩, st⟩ := x; exact ⟨st _ _ p fun o q => k _ _ (.inl rfl) q, ⟨o, k _ _ (.inl rfl) e⟩, st⟩
theorem HOk.lt (x : HOk P w H h) (e : H a = some o) : a < h.objs.size := (x a o e).lt
theorem HOk.fresh (x : HOk P w H h) (e : h.objs.size ≤ a) : H a = none := by
  cases q : H a with
  | none => rfl
  | some u => exact absurd (Nat.lt_of_lt_of_le (x.lt q) e) (Nat.lt_irrefl _)
theorem HOk.kept (x : HOk P w H h) (k : ∀ b u, h.get? b = some u → h'.get? b = some u) : HOk P w H h' := fun a o e =>
  (x a o e).stay (fun b u _ q => k b u q) (fun _ q => q) fun _ _ q => q
theorem HOk.laid (x : HOk P w H h) (k : ∀ b u, h.get? b = some u → h'.get? b = some u) (hp : h.objs.size ≤ a) (new : ObjOk P w (upd H a o) h' a o) : HOk P w (upd H a o) h' := fun b u e => by
  have hn := x.fresh hp
  by_cases hb : b = a
  · subst hb; rw [upd_same] at e; cases e; exact new
  · rw [upd_ne hb] at e
    exact (x b u e).stay (fun c v _ q => k c v q) (fun c q => by rw [upd_ne (ne_of_none q hn)]; exact q) fun c xs q => by rw [upd_ne (ne_of_none q hn)]; exact q
end
def Rd (H : Hp) (a : Addr) (u : HO) : Prop := H a = some u ∨ ∃ o, H a = some (.frz o u)
theorem Rd.of {H : Hp} {a : Addr} {u : HO} (h : H a = some u) : Rd H a u := .inl h
theorem Rd.ok {P : Program} {w : World} {H : Hp} {h : Heap} {a : Addr} {u : HO} (r : Rd H a u) (x : HOk P w H h) : ObjOk P w H h a u := by
  rcases r with r | ⟨o, r⟩
  · exact x a u r
  · obtain ⟨_, q⟩ := x a _ r
    exact q
def Mut : Option HO → Prop
  | some (.lst _) => True
  | some (.dK _) => True
  | some (.dT _) => True
  | some (.set _ _) => True
  | some (.ins _ _ _) => True
  | some (.ext _) => True
  | _ => False
section
variable {P : Program} {w : World} {H : Hp} {h h' : Heap} {x e : Addr} {o' : HO}
theorem HOk.write (ok : HOk P w H h) (mu : Mut (H x)) (he : e = x ∨ H e = some (.own x)) (k : ∀ b u, b ≠ e → h.get? b = some u → h'.get? b = some u) (heo : ∃ u, h'.get? e = some u)
    (new : ObjOk P w (upd H x o') h' x o') : HOk P w (upd H x o') h' := fun b u q => by
  have nown : ∀ c y, H c = some (.own y) → c ≠ x := fun c y r z => by subst z; rw [r] at mu; exact mu
  have ntup : ∀ c xs, H c = some (.tup xs) → c ≠ x := fun c xs r z => by subst z; rw [r] at mu; exact mu
  by_cases hb : b = x
  · subst hb; rw [upd_same] at q; cases q; exact new
  · rw [upd_ne hb] at q
    by_cases hbe : b = e
    · have q' : H b = some (.own x) := by
        rcases he with z | z
        · exact absurd (hbe.trans z) hb
        · rw [hbe]; exact z
      rw [q] at q'; cases q'
      obtain ⟨v, hv⟩ := heo
      exact ⟨v, by rw [hbe]; exact hv⟩
    · refine (ok b u q).stay (fun c v hc r => k c v ?_ r) (fun c r => by rw [upd_ne (nown c b r)]; exact r) fun c xs r => by rw [upd_ne (ntup c xs r)]; exact r
      rcases hc with rfl | hc
      · exact hbe
      · rintro rfl
        rcases he with z | z
        · exact nown c b hc z
        · rw [hc] at z; cases z; exact hb rfl
end
structure Un (fs ex : List Addr) (H H' : Hp) (h h' : Heap) : Prop where
  keep : ∀ b o, h.get? b = some o → H b = none → b ∉ fs → b ∉ ex → h'.get? b = some o
  slot : ∀ b o, h.get? b = some o → H b = none → b ∈ fs → b ∉ ex → ∃ sl, h'.get? b = some { o with slots := sl }
  free : ∀ b o, h.get? b = some o → H b = none → b ∉ ex → H' b = none
  there : ∀ b o, h.get? b = some o → b ∉ ex → ∃ o', h'.get? b = some o'
  tups : ∀ b xs, H b = some (.tup xs) → H' b = some (.tup xs)
  frzs : ∀ b o u, H b = some (.frz o u) → H' b = some (.frz o u)
  tbls : ∀ b ps, H b = some (.tbl ps) → ∃ more, H' b = some (.tbl (ps ++ more))
section
variable {fs fs' ex ex' : List Addr} {H H1 H2 : Hp} {h h1 h2 h' : Heap} {a x e : Addr} {o : HO}
theorem Un.any (u : Un fs ex H H1 h h1) {b : Addr} {ob : Obj} (q : h.get? b = some ob) (n : H b = none) (hx : b ∉ ex) : ∃ sl, h1.get? b = some { ob with slots := sl } := by
  by_cases hb : b ∈ fs
  · exact u.slot b ob q n hb hx
  · exact ⟨ob.slots, u.keep b ob q n hb hx⟩
theorem Un.trans (a : Un fs ex H H1 h h1) (b : Un fs ex H1 H2 h1 h2) : Un fs ex H H2 h h2 where
  keep := fun c ob q n hc hx => b.keep c ob (a.keep c ob q n hc hx) (a.free c ob q n hx) hc hx
  slot := fun c ob q n hc hx => by
    obtain ⟨sl, e1⟩ := a.slot c ob q n hc hx
    obtain ⟨sl', e2⟩ := b.slot c _ e1 (a.free c ob q n hx) hc hx
    exact ⟨sl', e2⟩
  free := fun c ob q n hx => by
    obtain ⟨o', e1⟩ := a.there c ob q hx
    exact b.free c o' e1 (a.free c ob q n hx) hx
  there := fun c ob q hx => by
    obtain ⟨o', e1⟩ := a.there c ob q hx
    exact b.there c o' e1 hx
  tups := fun c xs q => b.tups c xs (a.tups c xs q)
  frzs := fun c ob xs q => b.frzs c ob xs (a.frzs c ob xs q)
  tbls := fun c ps q => by
    obtain ⟨m1, e1⟩ := a.tbls c ps q
    obtain ⟨m2, e2⟩ := b.tbls c _ e1
    exact ⟨m1 ++ m2, by rw [e2, Array.append_assoc]⟩
theorem Un.kept (k : ∀ b u, h.get? b = some u → h'.get? b = some u) : Un fs ex H H h h' :=
  ⟨fun b ob q _ _ _ => k b ob q, fun b ob q _ _ _ => ⟨ob.slots, k b ob q⟩, fun _ _ _ n _ => n, fun b ob q _ => ⟨ob, k b ob q⟩, fun _ _ q => q, fun _ _ _ q => q, fun _ ps q => ⟨#[], by rw [q]; simp⟩⟩
theorem Un.refl : Un fs ex H H h h := Un.kept fun _ _ q => q
theorem Un.laid (k : ∀ b u, h.get? b = some u → h'.get? b = some u) (hp : h.objs.size ≤ a) (hn : H a = none) : Un fs ex H (upd H a o) h h' where
  keep := fun b u q _ _ _ => k b u q
  slot := fun b u q _ _ _ => ⟨u.slots, k b u q⟩
  free := fun b u q n _ => by rw [upd_ne (Nat.ne_of_lt (Nat.lt_of_lt_of_le (Heap.lt_size q) hp))]; exact n
  there := fun b u q _ => ⟨u, k b u q⟩
  tups := fun b xs q => by rw [upd_ne (ne_of_none q hn)]; exact q
  frzs := fun b u xs q => by rw [upd_ne (ne_of_none q hn)]; exact q
  tbls := fun b ps q => ⟨#[], by rw [upd_ne (ne_of_none q hn), q]; simp⟩
theorem Un.write (mu : Mut (H x)) (he : e = x ∨ H e = some (.own x)) (k : ∀ b u, b ≠ e → h.get? b = some u → h'.get? b = some u) (heo : ∃ u, h'.get? e = some u) : Un fs ex H (upd H x o) h h' := by
  have hx : ∀ b, H b = none → b ≠ x := fun b n z => by subst z; rw [n] at mu; exact mu
  have hb : ∀ b, H b = none → b ≠ e := fun b n z => by
    subst z
    rcases he with r | r
    · exact hx b n r
    · rw [n] at r; cases r
  have hm : ∀ b u, H b = some u → ¬ Mut (some u) → b ≠ x := fun b u q nm z => by subst z; rw [q] at mu; exact nm mu
  refine ⟨fun b u q n _ _ => k b u (hb b n) q, fun b u q n _ _ => ⟨u.slots, k b u (hb b n) q⟩, fun b u q n _ => by rw [upd_ne (hx b n)]; exact n, fun b u q _ => ?_,
    fun b xs q => by rw [upd_ne (hm b _ q fun z => z)]; exact q, fun b u xs q => by rw [upd_ne (hm b _ q fun z => z)]; exact q, fun b ps q => ⟨#[], by rw [upd_ne (hm b _ q fun z => z), q]; simp⟩⟩
  by_cases hbe : b = e
  · subst hbe; exact heo
  · exact ⟨u, k b u hbe q⟩
theorem Un.mono (u : Un fs ex H H1 h h1) (hs : ∀ b ∈ fs, b ∈ fs') (hx : ∀ b ∈ ex, b ∈ ex') : Un fs' ex' H H1 h h1 :=
  ⟨fun b ob q n hb he => u.keep b ob q n (fun z => hb (hs b z)) fun z => he (hx b z), fun _ _ q n _ he => u.any q n fun z => he (hx _ z), fun b ob q n he => u.free b ob q n fun z => he (hx b z), fun b ob q he => u.there b ob q fun z => he (hx b z), u.tups, u.frzs, u.tbls⟩
end
def trk (h : Heap) (H : Hp) : List Addr := (List.range h.objs.size).filter fun a => (H a).isSome
def hidT (h : Heap) (H : Hp) : Heap := PySem.W.hideAll h (trk h H)
theorem hidT_size (h : Heap) (H : Hp) : (hidT h H).objs.size = h.objs.size := PySem.W.hideAll_size _ _
theorem hidT_get {h : Heap} {H : Hp} {b : Addr} {o : Obj} (e : h.get? b = some o) (n : H b = none) : (hidT h H).get? b = some o :=
  PySem.W.hideAll_get _ e fun hm => by
    have q : (H b).isSome = true := (List.mem_filter.mp hm).2
    rw [n] at q; simp at q
theorem of_hidT {h : Heap} {H : Hp} {b : Addr} {o : Obj} (e : (hidT h H).get? b = some o) : h.get? b = some o ∧ H b = none := by
  have e' : h.get? b = some o := PySem.W.of_hideAll (trk h H) e
  refine ⟨e', ?_⟩
  cases q : H b with
  | none => rfl
  | some x =>
    have hm : b ∈ trk h H := List.mem_filter.mpr ⟨List.mem_range.mpr (Heap.lt_size e'), by simp [q]⟩
    have z : (hidT h H).get? b = none := PySem.W.hideAll_none (trk h H) hm
    rw [z] at e; cases e
def allNews (g h : Heap) (L : Addr) : List (Addr × Obj) := (List.range h.objs.size).filterMap fun a => if a = L ∨ (g.get? a).isSome = true then none else (h.get? a).map fun o => (a, o)
def rest (g h : Heap) (L d : Addr) : List (Addr × Obj) := (allNews g h L).filter fun p => decide (p.1 ≠ d)
end L2
namespace L2
open PySem PySem.Spec PyProof.Rows
structure Mod (K : PySem.W.Frag) (mg : Str → Option Value) (base : Heap) : Prop where
  kin : K.In base
  glob : base.Ns mainGlobals mg
  blt : ∃ mb, base.Ns builtinsNs mb ∧ ∀ x : Str, x ≠ "__name__" → mb x = bootBuiltins x
  nolimit : base.NoLimit
structure Cx where
  prog : Program
  w : World
  K : PySem.W.Frag
  mg : Str → Option Value
  base : Heap
  A : Around
  N : List Str
  s₀ : Shared
  H₀ : Hp
  env : Env
  outer : List Env
  stack : List Env
  ex : List Addr
  fn : Str → Bool
  calm : Bool
  pn : List (Addr × Obj)
  xe : Value → Shared → Prop
def frs (l : List Env) : List Addr := l.filterMap (·.frame)
abbrev Cx.fs (X : Cx) : List Addr := frs X.outer
def Vis (sc : Scope) (x : Str) : Prop := sc.names.lookup x = some .local ∨ sc.names.lookup x = some .cell ∨ sc.names.lookup x = some .free
def Loc (sc : Scope) (x : Str) : Prop := sc.names.lookup x = some .local ∨ sc.names.lookup x = some .cell
def Look (env : Env) (h : Heap) (m : Str → Option Value) (x : Str) (u : Value) : Prop :=
  (env.kindOf x = some .local ∧ m x = some u) ∨ ((env.kindOf x = some .cell ∨ env.kindOf x = some .free) ∧ ∃ c, env.cells.lookup x = some c ∧ h.IsCell c (some u))
structure Cx.Ok (X : Cx) : Prop where
  mod : Mod X.K X.mg X.base
  kind : X.env.scope.kind = .function
  glob : X.env.globals = mainGlobals
  blt : X.env.builtins = builtinsNs
  above : X.s₀.heap.objs.size ≤ X.env.locals
  inj : ∀ x y c, X.env.cells.lookup x = some c → X.env.cells.lookup y = some c → x = y
  has : ∀ x, (X.env.kindOf x = some .cell ∨ X.env.kindOf x = some .free) → ∃ c, X.env.cells.lookup x = some c
  cab : ∀ x c, X.fn x = true → X.env.cells.lookup x = some c → X.s₀.heap.objs.size ≤ c
  hd : X.calm = true → X.A.handled = none
  frames : X.A.frames = some X.stack
  stk : X.stack = X.outer ∨ (X.stack = X.env :: X.outer ∧ X.env.frame = some X.env.locals)
  exf : ∀ b ∈ X.ex, b ≠ X.env.locals ∧ ∀ x c, X.env.cells.lookup x = some c → c ≠ b
  bs : ∀ b o, X.base.get? b = some o → X.s₀.heap.get? b = some o ∧ X.H₀ b = none
  bsz : X.base.objs.size ≤ X.s₀.heap.objs.size
  noex : ∀ b o, X.base.get? b = some o → b ∉ X.ex
  exfs : ∀ b ∈ X.ex, b ∉ X.fs
  funs : X.s₀.heap.FunFrames X.base X.outer
  frf : ∀ b ∈ X.fs, X.H₀ b = none
structure Inv (X : Cx) (pins : List (Addr × Obj)) (σ : List (Option V)) (H : Hp) (s : Shared) : Prop where
  ok : X.Ok
  os : s.os = X.s₀.os
  bare : AllBare s.gens
  base : Un X.fs X.ex X.H₀ H X.s₀.heap s.heap
  loc : ∃ m, s.heap.Ns X.env.locals m ∧ ∀ (i : Nat) (x : Str) (v : V), X.N[i]? = some x → σ[i]? = some (some v) → Vis X.env.scope x → ∃ u, RelV v u ∧ Look X.env s.heap m x u
  cell : ∀ x c, X.env.cells.lookup x = some c → ∃ v, s.heap.IsCell c v
  free : H X.env.locals = none
  freeC : ∀ x c, X.env.cells.lookup x = some c → H c = none
  pin : ∀ p ∈ X.pn ++ pins, s.heap.get? p.1 = some p.2 ∧ H p.1 = none ∧ p.1 ≠ X.env.locals ∧ p.1 ∉ X.fs ∧ ∀ v, p.2.data ≠ .cell v
  hok : HOk X.prog X.w H s.heap
  len : σ.length = X.N.length
section
variable {X : Cx} {pins : List (Addr × Obj)} {σ : List (Option V)} {H H' : Hp} {s : Shared} {h' : Heap}
theorem Cx.Ok.nofr (ok : X.Ok) {b : Addr} {o : Obj} (e : X.base.get? b = some o) : b ∉ X.fs := fun hb => by
  have := (ok.funs.mem hb).1
  rw [e] at this; cases this
theorem Inv.bs (I : Inv X pins σ H s) : ∀ b o, X.base.get? b = some o → s.heap.get? b = some o ∧ H b = none := fun b o e =>
  ⟨I.base.keep b o (I.ok.bs b o e).1 (I.ok.bs b o e).2 (I.ok.nofr e) (I.ok.noex b o e), I.base.free b o (I.ok.bs b o e).1 (I.ok.bs b o e).2 (I.ok.noex b o e)⟩
theorem Inv.bk (I : Inv X pins σ H s) : ∀ b o, X.base.get? b = some o → s.heap.get? b = some o := fun b o e => (I.bs b o e).1
theorem Inv.mod (I : Inv X pins σ H s) : Mod X.K X.mg X.base := I.ok.mod
theorem Inv.kIn (I : Inv X pins σ H s) : X.K.In s.heap := I.ok.mod.kin.keeps I.bk
theorem Inv.nolimit (I : Inv X pins σ H s) : s.heap.NoLimit := I.ok.mod.nolimit.keeps I.bk
theorem Inv.fr (I : Inv X pins σ H s) : ∃ m, Fr X.base X.env.locals s.heap m :=
  let ⟨m, hn, _⟩ := I.loc
  ⟨m, hn, I.bk, Nat.le_trans I.ok.bsz I.ok.above⟩
theorem Inv.lt (I : Inv X pins σ H s) : X.env.locals < s.heap.objs.size := let ⟨_, hn, _⟩ := I.loc; hn.lt
theorem Inv.sz (I : Inv X pins σ H s) : X.s₀.heap.objs.size ≤ s.heap.objs.size := Nat.le_trans I.ok.above (Nat.le_of_lt I.lt)
theorem Inv.nofs (I : Inv X pins σ H s) {a : Addr} (h : s.heap.objs.size ≤ a) : a ∉ X.fs := fun hb => by
  obtain ⟨_, o, ho, _⟩ := I.ok.funs.mem hb
  exact absurd (Nat.lt_of_lt_of_le (Heap.lt_size ho) (Nat.le_trans I.sz h)) (Nat.lt_irrefl _)
theorem Inv.cne (I : Inv X pins σ H s) : ∀ x c, X.env.cells.lookup x = some c → c ≠ X.env.locals := fun x c e z => by
  obtain ⟨v, o, ho, hd⟩ := I.cell x c e
  obtain ⟨m, ⟨o', es, ep, ho', hd', _⟩, _⟩ := I.loc
  rw [z, ho'] at ho; cases ho; rw [hd'] at hd; cases hd
theorem Inv.funs (I : Inv X pins σ H s) : s.heap.FunFrames X.base X.outer := by
  have all : ∀ (l : List Env), (∀ b ∈ frs l, b ∈ X.fs) → X.s₀.heap.FunFrames X.base l → s.heap.FunFrames X.base l := by
    intro l
    induction l with
    | nil => intro _ _; trivial
    | cons env r ih =>
      intro hs hl
      obtain ⟨hk, ⟨L, o, hf, hn, ho, hd⟩, hr⟩ := hl
      have hL : L ∈ X.fs := hs L (by unfold frs; rw [List.filterMap_cons, hf]; exact List.mem_cons_self)
      obtain ⟨sl, e⟩ := I.base.slot L o ho (I.ok.frf L hL) hL fun z => I.ok.exfs L z hL
      exact ⟨hk, ⟨L, _, hf, hn, e, hd⟩, ih (fun b hb => hs b (by unfold frs; rw [List.filterMap_cons, hf]; exact List.mem_cons_of_mem _ hb)) hr⟩
  exact all X.outer (fun _ hb => hb) I.ok.funs
theorem Inv.stack (I : Inv X pins σ H s) : s.heap.FunFrames X.base X.stack := by
  rcases I.ok.stk with e | ⟨e, hf⟩
  · rw [e]; exact I.funs
  · rw [e]
    obtain ⟨m, hn, _⟩ := I.loc
    refine .cons (by rw [I.ok.kind]; decide) hf hn ?_ I.funs
    exact Heap.get?_none_of_le (Nat.le_trans I.ok.bsz I.ok.above)
theorem Inv.stkSub (I : Inv X pins σ H s) : ∀ b ∈ frs X.stack, b ∈ X.env.locals :: X.fs := fun b hb => by
  rcases I.ok.stk with e | ⟨e, hf⟩
  · rw [e] at hb; exact List.mem_cons_of_mem _ hb
  · rw [e] at hb
    unfold frs at hb
    rw [List.filterMap_cons, hf] at hb
    exact hb
theorem Inv.stkFree (I : Inv X pins σ H s) : ∀ b ∈ frs X.stack, H b = none := fun b hb => by
  rcases List.mem_cons.mp (I.stkSub b hb) with e | hb
  · rw [e]; exact I.free
  · obtain ⟨_, o, ho, _⟩ := I.ok.funs.mem hb
    exact I.base.free b o ho (I.ok.frf b hb) fun z => I.ok.exfs b z hb
theorem Inv.step {g' : Array GenState} {t' : Nat} {d' : Drawn} {ch : List Addr} (I : Inv X pins σ H s)
    (hch : ∀ b ∈ ch, (b ∈ X.ex ∨ X.s₀.heap.objs.size ≤ b) ∧ b ≠ X.env.locals ∧ (∀ x c, X.env.cells.lookup x = some c → c ≠ b) ∧ ∀ p ∈ X.pn ++ pins, p.1 ≠ b)
    (keep : ∀ b o, b ≠ X.env.locals → b ∉ X.fs → b ∉ ch → s.heap.get? b = some o → H b = none → h'.get? b = some o)
    (slot : ∀ b o, b ≠ X.env.locals → b ∈ X.fs → b ∉ ch → s.heap.get? b = some o → H b = none → ∃ sl, h'.get? b = some { o with slots := sl }) (free : ∀ b o, b ∉ ch → s.heap.get? b = some o → H b = none → H' b = none)
    (there : ∀ b o, b ∉ ch → s.heap.get? b = some o → ∃ o', h'.get? b = some o')
    (tups : ∀ b xs, H b = some (.tup xs) → H' b = some (.tup xs)) (frzs : ∀ b o u, H b = some (.frz o u) → H' b = some (.frz o u)) (tbls : ∀ b ps, H b = some (.tbl ps) → ∃ more, H' b = some (.tbl (ps ++ more)))
    (ns : ∀ m, s.heap.Ns X.env.locals m → h'.Ns X.env.locals m) (hok : HOk X.prog X.w H' h') (hg : AllBare g') :
    Inv X pins σ H' { s with heap := h', gens := g', drawn := d', toks := t' } := by
  have neL : ∀ b o, X.s₀.heap.get? b = some o → b ≠ X.env.locals := fun b o e => Nat.ne_of_lt (Nat.lt_of_lt_of_le (Heap.lt_size e) I.ok.above)
  have neC : ∀ b o, X.s₀.heap.get? b = some o → b ∉ X.ex → b ∉ ch := fun b o e hx hb => by
    rcases (hch b hb).1 with z | z
    · exact hx z
    · exact absurd (Nat.lt_of_lt_of_le (Heap.lt_size e) z) (Nat.lt_irrefl _)
  have cellK : ∀ x c, X.env.cells.lookup x = some c → ∀ v, s.heap.IsCell c v → h'.IsCell c v := fun x c e v ⟨o, ho, hd⟩ => by
    have nch : c ∉ ch := fun z => (hch c z).2.2.1 x c e rfl
    by_cases hc : c ∈ X.fs
    · obtain ⟨sl, q⟩ := slot c o (I.cne x c e) hc nch ho (I.freeC x c e)
      exact ⟨_, q, hd⟩
    · exact ⟨o, keep c o (I.cne x c e) hc nch ho (I.freeC x c e), hd⟩
  refine ⟨I.ok, I.os, hg, ⟨fun b o e n hb hx => ?_, fun b o e n hb hx => ?_, fun b o e n hx => ?_, fun b o e hx => ?_, fun b xs e => tups b xs (I.base.tups b xs e), fun b o xs e => frzs b o xs (I.base.frzs b o xs e), fun b ps e => ?_⟩, ?_, fun x c e => ?_, ?_, fun x c e => ?_, fun p hp => ?_, hok, I.len⟩
  · exact keep b o (neL b o e) hb (neC b o e hx) (I.base.keep b o e n hb hx) (I.base.free b o e n hx)
  · obtain ⟨sl, e1⟩ := I.base.slot b o e n hb hx
    obtain ⟨sl', e2⟩ := slot b _ (neL b o e) hb (neC b o e hx) e1 (I.base.free b o e n hx)
    exact ⟨sl', e2⟩
  · obtain ⟨o', e1⟩ := I.base.there b o e hx
    exact free b o' (neC b o e hx) e1 (I.base.free b o e n hx)
  · obtain ⟨o', e1⟩ := I.base.there b o e hx
    exact there b o' (neC b o e hx) e1
  · obtain ⟨m1, e1⟩ := I.base.tbls b ps e
    obtain ⟨m2, e2⟩ := tbls b _ e1
    exact ⟨m1 ++ m2, by rw [e2, Array.append_assoc]⟩
  · obtain ⟨m, hn, hl⟩ := I.loc
    refine ⟨m, ns m hn, fun i x v e1 e2 e3 => ?_⟩
    obtain ⟨u, r, l⟩ := hl i x v e1 e2 e3
    refine ⟨u, r, ?_⟩
    rcases l with l | ⟨k, c, e, z⟩
    · exact .inl l
    · exact .inr ⟨k, c, e, cellK x c e _ z⟩
  · obtain ⟨v, z⟩ := I.cell x c e
    exact ⟨v, cellK x c e v z⟩
  · obtain ⟨m, ⟨o, _, _, ho, _⟩, _⟩ := I.loc
    exact free _ o (fun z => (hch _ z).2.1 rfl) ho I.free
  · obtain ⟨v, o, ho, hd⟩ := I.cell x c e
    exact free c o (fun z => (hch c z).2.2.1 x c e rfl) ho (I.freeC x c e)
  · obtain ⟨e, n, ne, nf, d⟩ := I.pin p hp
    have nch : p.1 ∉ ch := fun z => (hch p.1 z).2.2.2 p hp rfl
    exact ⟨keep p.1 p.2 ne nf nch e n, free p.1 p.2 nch e n, ne, nf, d⟩
theorem Inv.un {t' : Nat} (I : Inv X pins σ H s) (u : Un X.fs [] H H' s.heap h') (hok : HOk X.prog X.w H' h') : Inv X pins σ H' { s with heap := h', toks := t' } := by
  obtain ⟨m, ⟨o, es, ep, ho, r⟩, _⟩ := id I.loc
  obtain ⟨sl, hL⟩ := u.any ho I.free (by simp)
  exact I.step (g' := s.gens) (d' := s.drawn) (ch := []) (fun _ z => nomatch z) (fun b o _ hb _ e n => u.keep b o e n hb (by simp)) (fun b o _ hb _ e n => u.slot b o e n hb (by simp)) (fun b o _ e n => u.free b o e n (by simp)) (fun b o _ e => u.there b o e (by simp)) u.tups u.frzs u.tbls (fun m' hm => by
    obtain ⟨o', es', ep', ho', r'⟩ := hm
    rw [ho] at ho'; cases ho'
    exact ⟨_, es', ep', hL, r'⟩) hok I.bare
theorem Inv.call {g' : Array GenState} {t' : Nat} {d' : Drawn} {ch : List Addr} (I : Inv X pins σ H s) (u : Un (frs X.stack) ch H H' s.heap h') (hok : HOk X.prog X.w H' h') (hg : AllBare g')
    (hch : ∀ b ∈ ch, (b ∈ X.ex ∨ X.s₀.heap.objs.size ≤ b) ∧ b ≠ X.env.locals ∧ (∀ x c, X.env.cells.lookup x = some c → c ≠ b) ∧ ∀ p ∈ X.pn ++ pins, p.1 ≠ b) :
    Inv X pins σ H' { s with heap := h', gens := g', drawn := d', toks := t' } := by
  obtain ⟨m, ⟨o, es, ep, ho, r⟩, _⟩ := id I.loc
  obtain ⟨sl, hL⟩ := u.any ho I.free fun z => (hch _ z).2.1 rfl
  exact I.step (ch := ch) hch (fun b o hL hb hc e n => u.keep b o e n (fun z => (List.mem_cons.mp (I.stkSub b z)).elim hL hb) hc) (fun b o _ _ hc e n => u.any e n hc) (fun b o hc e n => u.free b o e n hc) (fun b o hc e => u.there b o e hc) u.tups u.frzs u.tbls (fun m' hm => by
    obtain ⟨o', es', ep', ho', r'⟩ := hm
    rw [ho] at ho'; cases ho'
    exact ⟨_, es', ep', hL, r'⟩) hok hg
theorem Inv.turned {t' : Nat} {it : Addr} (I : Inv X pins σ H s) (k : ∀ b o, b ≠ it → s.heap.get? b = some o → h'.get? b = some o) (hn : H it = none) (hL : it ≠ X.env.locals)
    (h1 : it ∈ X.ex ∨ X.s₀.heap.objs.size ≤ it) (h2 : ∀ x c, X.env.cells.lookup x = some c → c ≠ it) (h3 : ∀ p ∈ X.pn ++ pins, p.1 ≠ it) : Inv X pins σ H { s with heap := h', toks := t' } := by
  have nit : ∀ b u, H b = some u → b ≠ it := fun b u e z => by rw [z, hn] at e; cases e
  refine I.step (g' := s.gens) (d' := s.drawn) (ch := [it]) (fun b hb => ?_) (fun b o _ _ hc e _ => k b o (fun z => hc (by simp [z])) e) (fun b o _ _ hc e _ => ⟨o.slots, k b o (fun z => hc (by simp [z])) e⟩) (fun _ _ _ _ n => n)
    (fun b o hc e => ⟨o, k b o (fun z => hc (by simp [z])) e⟩) (fun _ _ e => e) (fun _ _ _ e => e) (fun b ps e => ⟨#[], by rw [e]; simp⟩) (fun m hm => ?_) (fun b u e => ?_) I.bare
  · have e : b = it := by simpa using hb
    subst e
    exact ⟨h1, hL, h2, h3⟩
  · obtain ⟨o, es, ep, ho, r⟩ := hm
    exact ⟨o, es, ep, k _ o (Ne.symm hL) ho, r⟩
  · refine (I.hok b u e).stay (fun c v hc q => k c v ?_ q) (fun _ q => q) fun _ _ q => q
    rcases hc with z | z
    · rw [z]; exact nit b u e
    · exact nit c _ z
theorem Inv.tok (I : Inv X pins σ H s) (t : Nat) : Inv X pins σ H { s with toks := t } := I.un (h' := s.heap) (t' := t) Un.refl I.hok
theorem Inv.kept {t' : Nat} (I : Inv X pins σ H s) (k : ∀ b u, s.heap.get? b = some u → h'.get? b = some u) : Inv X pins σ H { s with heap := h', toks := t' } := I.un (Un.kept k) (I.hok.kept k)
theorem Inv.laid {a : Addr} {o : HO} {t' : Nat} (I : Inv X pins σ H s) (k : ∀ b u, s.heap.get? b = some u → h'.get? b = some u) (hp : s.heap.objs.size ≤ a) (new : ObjOk X.prog X.w (upd H a o) h' a o) :
    Inv X pins σ (upd H a o) { s with heap := h', toks := t' } := I.un (Un.laid k hp (I.hok.fresh hp)) (I.hok.laid k hp new)
theorem Inv.write {x e : Addr} {o : HO} {t' : Nat} (I : Inv X pins σ H s) (mu : Mut (H x)) (he : e = x ∨ H e = some (.own x)) (k : ∀ b u, b ≠ e → s.heap.get? b = some u → h'.get? b = some u) (heo : ∃ u, h'.get? e = some u)
    (new : ObjOk X.prog X.w (upd H x o) h' x o) : Inv X pins σ (upd H x o) { s with heap := h', toks := t' } := I.un (Un.write mu he k heo) (I.hok.write mu he k heo new)
theorem Inv.weak {σ' : List (Option V)} (I : Inv X pins σ H s) (hl : σ'.length = σ.length) (w : ∀ (i : Nat) v, σ'[i]? = some (some v) → σ[i]? = some (some v)) : Inv X pins σ' H s :=
  ⟨I.ok, I.os, I.bare, I.base, let ⟨m, hn, hl'⟩ := I.loc; ⟨m, hn, fun i x v e1 e2 e3 => hl' i x v e1 (w i v e2) e3⟩, I.cell, I.free, I.freeC, I.pin, I.hok, hl.trans I.len⟩
theorem Inv.pins_of {pins' : List (Addr × Obj)} (I : Inv X pins σ H s) (h : ∀ p ∈ pins', s.heap.get? p.1 = some p.2 ∧ H p.1 = none ∧ p.1 ≠ X.env.locals ∧ p.1 ∉ X.fs ∧ ∀ v, p.2.data ≠ .cell v) : Inv X pins' σ H s :=
  ⟨I.ok, I.os, I.bare, I.base, I.loc, I.cell, I.free, I.freeC, fun p hp => (List.mem_append.mp hp).elim (fun z => I.pin p (List.mem_append_left _ z)) (h p), I.hok, I.len⟩
theorem nodup_ix {N : List Str} (hN : N.Nodup) {i j : Nat} {x : Str} (a : N[i]? = some x) (b : N[j]? = some x) : i = j := by
  obtain ⟨h1, e1⟩ := List.getElem?_eq_some_iff.mp a
  obtain ⟨h2, e2⟩ := List.getElem?_eq_some_iff.mp b
  exact (List.getElem_inj hN).mp (e1.trans e2.symm)
theorem store_ok2 {M : Model} {A : Around} {E : Value → Shared → Prop} {i : Nat} {x : Str} {v : V} {u : Value} {Q : Unit → Shared → Prop} (I : Inv X pins σ H s) (hN : X.N.Nodup) (hi : X.N[i]? = some x) (hx : Loc X.env.scope x) (r : RelV v u)
    (h : ∀ s', Inv X pins (σ.set i (some v)) H s' → (∃ a, Heap.SameBut a s.heap s'.heap ∧ (a = X.env.locals ∨ X.env.cells.lookup x = some a)) → Q () s') (hf : X.fn x = true ∨ X.env.scope.names.lookup x = some .local := by first | exact .inl rfl | exact .inr rfl | assumption) : wpAny M A (storeName X.env x u) Q E s := by
  obtain ⟨m, hn, hl⟩ := id I.loc
  have hcls : (X.env.scope.kind == .class || (X.env.scope.kind == .module && X.env.locals != X.env.globals)) = false := by rw [I.ok.kind]; rfl
  have hiσ : i < σ.length := by rw [I.len]; exact (List.getElem?_eq_some_iff.mp hi).1
  have cne := I.cne
  have tracked : ∀ {a : Addr} {h' : Heap}, (∃ o, s.heap.get? a = some o ∧ H a = none) → Heap.SameBut a s.heap h' → HOk X.prog X.w H h' := fun {a h'} ha hs b ob e => by
    obtain ⟨_, _, hfree⟩ := ha
    refine (I.hok b ob e).stay (fun c w' hc q => (hs.2 c ?_).trans q) (fun _ q => q) fun _ _ q => q
    rintro rfl
    rcases hc with rfl | hc
    · rw [hfree] at e; cases e
    · rw [hfree] at hc; cases hc
  rcases hx with hk | hk
  · refine wpAny_storeName_local hk hn (fun h' hn' hs => ?_) hcls
    obtain ⟨oL, _, _, hoL, _⟩ := id hn
    refine h _ ⟨I.ok, I.os, I.bare, ⟨fun b o e n hb hx => ?_, fun b o e n hb hx => ?_, I.base.free, fun b o e hx => ?_, I.base.tups, I.base.frzs, I.base.tbls⟩, ⟨_, hn', fun j y v' e1 e2 e3 => ?_⟩, fun y c e => ?_, I.free, I.freeC, fun p hp => ?_, tracked ⟨oL, hoL, I.free⟩ hs, by simpa using I.len⟩ ⟨_, hs, .inl rfl⟩
    · exact (hs.2 b (Nat.ne_of_lt (Nat.lt_of_lt_of_le (Heap.lt_size e) I.ok.above))).trans (I.base.keep b o e n hb hx)
    · obtain ⟨sl, e1⟩ := I.base.slot b o e n hb hx
      exact ⟨sl, (hs.2 b (Nat.ne_of_lt (Nat.lt_of_lt_of_le (Heap.lt_size e) I.ok.above))).trans e1⟩
    · obtain ⟨o', e1⟩ := I.base.there b o e hx
      exact ⟨o', (hs.2 b (Nat.ne_of_lt (Nat.lt_of_lt_of_le (Heap.lt_size e) I.ok.above))).trans e1⟩
    · by_cases hj : j = i
      · subst hj
        rw [hi] at e1; cases e1
        rw [List.getElem?_set_self hiσ] at e2
        cases e2
        exact ⟨u, r, .inl ⟨hk, by simp⟩⟩
      · rw [List.getElem?_set_ne (Ne.symm hj)] at e2
        obtain ⟨u', r', q⟩ := hl j y v' e1 e2 e3
        refine ⟨u', r', ?_⟩
        rcases q with ⟨k, e⟩ | ⟨k, c, e, z⟩
        · refine .inl ⟨k, ?_⟩
          have : y ≠ x := fun e => hj (nodup_ix hN e1 (e ▸ hi))
          simp [this, e]
        · exact .inr ⟨k, c, e, z.sameBut hs (cne y c e)⟩
    · obtain ⟨w', z⟩ := I.cell y c e
      exact ⟨w', z.sameBut hs (cne y c e)⟩
    · obtain ⟨e, n, ne, nf, d⟩ := I.pin p hp
      exact ⟨(hs.2 p.1 ne).trans e, n, ne, nf, d⟩
  · have hfn : X.fn x = true := by
      rcases hf with z | z
      · exact z
      · rw [z] at hk; cases hk
    obtain ⟨c, hc⟩ := I.ok.has x (.inl hk)
    obtain ⟨w', z⟩ := I.cell x c hc
    refine wpAny_storeName_cell I.ok.kind hk hc z (fun h' hc' hs => ?_)
    obtain ⟨oc, hoc, hocd⟩ := id z
    refine h { s with heap := h' } ⟨I.ok, I.os, I.bare, ⟨fun b o e n hb hx => ?_, fun b o e n hb hx => ?_, I.base.free, fun b o e hx => ?_, I.base.tups, I.base.frzs, I.base.tbls⟩, ⟨m, hn.sameBut hs (Ne.symm (cne x c hc)), fun j y v' e1 e2 e3 => ?_⟩, fun y c' e => ?_, I.free, I.freeC, fun p hp => ?_, tracked ⟨oc, hoc, I.freeC x c hc⟩ hs, by simpa using I.len⟩ ⟨c, hs, .inr hc⟩
    · exact (hs.2 b (Nat.ne_of_lt (Nat.lt_of_lt_of_le (Heap.lt_size e) (I.ok.cab x c hfn hc)))).trans (I.base.keep b o e n hb hx)
    · obtain ⟨sl, e1⟩ := I.base.slot b o e n hb hx
      exact ⟨sl, (hs.2 b (Nat.ne_of_lt (Nat.lt_of_lt_of_le (Heap.lt_size e) (I.ok.cab x c hfn hc)))).trans e1⟩
    · obtain ⟨o', e1⟩ := I.base.there b o e hx
      exact ⟨o', (hs.2 b (Nat.ne_of_lt (Nat.lt_of_lt_of_le (Heap.lt_size e) (I.ok.cab x c hfn hc)))).trans e1⟩
    · by_cases hj : j = i
      · subst hj
        rw [hi] at e1; cases e1
        rw [List.getElem?_set_self hiσ] at e2
        cases e2
        exact ⟨u, r, .inr ⟨.inl hk, c, hc, hc'⟩⟩
      · rw [List.getElem?_set_ne (Ne.symm hj)] at e2
        obtain ⟨u', r', q⟩ := hl j y v' e1 e2 e3
        refine ⟨u', r', ?_⟩
        rcases q with q | ⟨k, c', e, z'⟩
        · exact .inl q
        · refine .inr ⟨k, c', e, z'.sameBut hs ?_⟩
          rintro rfl
          exact hj (nodup_ix hN e1 (I.ok.inj _ _ _ e hc ▸ hi))
    · by_cases hcc : c' = c
      · subst hcc; exact ⟨_, hc'⟩
      · obtain ⟨w2, z2⟩ := I.cell y c' e
        exact ⟨w2, z2.sameBut hs hcc⟩
    · obtain ⟨e, n, ne, nf, d⟩ := I.pin p hp
      refine ⟨(hs.2 p.1 ?_).trans e, n, ne, nf, d⟩
      intro q
      rw [q, hoc] at e
      have q' : oc = p.2 := Option.some.inj e
      exact d w' (by rw [← q']; exact hocd)
theorem store_ok {M : Model} {A : Around} {E : Value → Shared → Prop} {i : Nat} {x : Str} {v : V} {u : Value} {Q : Unit → Shared → Prop} (I : Inv X pins σ H s) (hN : X.N.Nodup) (hi : X.N[i]? = some x) (hx : Loc X.env.scope x) (r : RelV v u)
    (h : ∀ s', Inv X pins (σ.set i (some v)) H s' → Q () s') (hf : X.fn x = true ∨ X.env.scope.names.lookup x = some .local := by first | exact .inl rfl | exact .inr rfl | assumption) : wpAny M A (storeName X.env x u) Q E s :=
  store_ok2 I hN hi hx r (fun s' I' _ => h s' I') hf
theorem Inv.call' {s' : Shared} {ch : List Addr} (I : Inv X pins σ H s) (ho : s'.os = s.os) (u : Un (frs X.stack) ch H H' s.heap s'.heap) (hok : HOk X.prog X.w H' s'.heap) (hg : AllBare s'.gens)
    (hch : ∀ b ∈ ch, (b ∈ X.ex ∨ X.s₀.heap.objs.size ≤ b) ∧ b ≠ X.env.locals ∧ (∀ x c, X.env.cells.lookup x = some c → c ≠ b) ∧ ∀ p ∈ X.pn ++ pins, p.1 ≠ b) : Inv X pins σ H' s' := by
  obtain ⟨h', g', d', t', o'⟩ := s'
  have e : o' = s.os := ho
  subst e
  exact I.call (g' := g') (t' := t') (d' := d') u hok hg hch
end
abbrev XK := Value → Option Addr → Hp → Prop
abbrev St := List (Option V)
abbrev VK := V → Hp → Prop
abbrev TE := St → Hp → VK → Prop
abbrev TT := St → Hp → (Bool → Hp → Prop) → Prop
abbrev TA := St → Hp → (List V → Hp → Prop) → Prop
structure Ends where
  nx : St → Hp → Prop
  rt : VK
  bk : St → Hp → Prop := fun _ _ => False
  ct : St → Hp → Prop := fun _ _ => False
abbrev TS := Ends → St → Hp → Prop
def EP (X : Cx) (pins : List (Addr × Obj)) (σ : St) (Q : VK) (u : Value) (s' : Shared) : Prop := ∃ v H', Inv X pins σ H' s' ∧ RelV v u ∧ Q v H'
def TP (X : Cx) (pins : List (Addr × Obj)) (σ : St) (Q : Bool → Hp → Prop) (b : Bool) (s' : Shared) : Prop := ∃ H', Inv X pins σ H' s' ∧ Q b H'
def AP (X : Cx) (pins : List (Addr × Obj)) (σ : St) (Q : List V → Hp → Prop) (us : List Value) (s' : Shared) : Prop := ∃ vs H', Inv X pins σ H' s' ∧ Vals vs us ∧ Q vs H'
def SP (X : Cx) (pins : List (Addr × Obj)) (D : Ends) (f : Flow) (s' : Shared) : Prop :=
  match f with
  | .next => ∃ σ' H', Inv X pins σ' H' s' ∧ D.nx σ' H'
  | .brk => ∃ σ' H', Inv X pins σ' H' s' ∧ D.bk σ' H'
  | .cont => ∃ σ' H', Inv X pins σ' H' s' ∧ D.ct σ' H'
  | .ret u => ∃ v σ' H', Inv X pins σ' H' s' ∧ RelV v u ∧ D.rt v H'
def PE (X : Cx) (e : Expr) (t : TE) : Prop :=
  ∀ (pins : List (Addr × Obj)) (s : Shared) (σ : St) (H : Hp) (Q : VK), Inv X pins σ H s → t σ H Q → wpAny (model X.prog X.w) X.A (eval e X.env) (EP X pins σ Q) X.xe s
def PT (X : Cx) (e : Expr) (t : TT) : Prop :=
  ∀ (pins : List (Addr × Obj)) (s : Shared) (σ : St) (H : Hp) (Q : Bool → Hp → Prop), Inv X pins σ H s → t σ H Q → wpAny (model X.prog X.w) X.A (isTrue e X.env (eval e X.env)) (TP X pins σ Q) X.xe s
def PW (X : Cx) (e : Expr) (t : TT) : Prop :=
  ∀ (whole : Sem Value) (pins : List (Addr × Obj)) (s : Shared) (σ : St) (H : Hp) (Q : Bool → Hp → Prop), Inv X pins σ H s → t σ H Q → wpAny (model X.prog X.w) X.A (isTrue e X.env whole) (TP X pins σ Q) X.xe s
theorem PW.pt {X : Cx} {e : Expr} {t : TT} (h : PW X e t) : PT X e t := h _
def PA (X : Cx) (es : List Expr) (t : TA) : Prop :=
  ∀ (pos : Pos) (pins : List (Addr × Obj)) (s : Shared) (σ : St) (H : Hp) (Q : List V → Hp → Prop), Inv X pins σ H s → t σ H Q → wpAny (model X.prog X.w) X.A (spliced (backTo pos (starEach es X.env))) (AP X pins σ Q) X.xe s
def PS (X : Cx) (st : Stmt) (t : TS) : Prop :=
  ∀ (pins : List (Addr × Obj)) (s : Shared) (σ : St) (H : Hp) (D : Ends), Inv X pins σ H s → t D σ H → wpAny (model X.prog X.w) X.A (exec st X.env) (SP X pins D) X.xe s
def PSs (X : Cx) (st : List Stmt) (t : TS) : Prop :=
  ∀ (pins : List (Addr × Obj)) (s : Shared) (σ : St) (H : Hp) (D : Ends), Inv X pins σ H s → t D σ H → wpAny (model X.prog X.w) X.A (execs st X.env) (SP X pins D) X.xe s
theorem thn {α : Type} {t : Sem α} {Q Q' : α → Shared → Prop} {M : Model} {A : Around} {E : Value → Shared → Prop} {s : Shared} (h : wpAny M A t Q E s) (hQ : ∀ a s, Q a s → Q' a s) : wpAny M A t Q' E s := wpAny_mono h hQ fun _ _ x => x
end L2
namespace L2
open PySem PySem.Spec PyProof.Rows
section
variable {X : Cx}
def tVar (i : Nat) : TE := fun σ H Q => ∃ v, σ[i]? = some (some v) ∧ Q v H
def tC (v : V) : TE := fun _ H Q => Q v H
theorem pe_var {i : Nat} {x : Str} {pos : Pos} (hN : X.N[i]? = some x) (hv : Vis X.env.scope x) (hd : (x == ("__debug__" : Str)) = false := by decide) (hcd : (x == ("__classdict__" : Str)) = false := by decide) : PE X (.Name x pos) (tVar i) := by
  intro pins s σ H Q I h
  obtain ⟨v, e, h⟩ := h
  obtain ⟨m, hn, hl⟩ := I.loc
  obtain ⟨u, r, l⟩ := hl i x v hN e hv
  have fin : EP X pins σ Q u s := ⟨v, H, I, r, h⟩
  rcases l with ⟨hk, hm⟩ | ⟨hk, c, hc, hcell⟩
  · exact wpAny_Name (wpAny_loadName_local I.ok.kind hk hn hm fin) hd
  · rcases hk with hk | hk
    · exact wpAny_Name (wpAny_loadName_cell I.ok.kind hk hc hcell fin) hd
    · exact wpAny_Name (wpAny_loadName_free I.ok.kind hk hc hcell fin hcd) hd
theorem pe_int {i j pos} : PE X (.Constant (.int i) j pos) (tC (.int i)) := fun _ _ _ H _ I h => wpAny_Constant_int ⟨.int i, H, I.tok _, ⟨_, rfl⟩, h⟩
theorem pe_bl {b j pos} : PE X (.Constant (.bool b) j pos) (tC (.bl b)) := fun _ _ _ H _ I h => Constant_bool ⟨.bl b, H, I, rfl, h⟩
theorem pe_non {j pos} : PE X (.Constant .none j pos) (tC .non) := fun _ _ _ H _ I h => Constant_none ⟨.non, H, I, rfl, h⟩
theorem pe_str {x j pos} : PE X (.Constant (.str x) j pos) (tC (.str x)) := fun _ _ _ H _ I h => Calls.Constant_str ⟨.str x, H, I.tok _, ⟨_, rfl⟩, h⟩
def Gl (X : Cx) (x : Str) : Prop := X.env.kindOf x = some .globalImplicit
theorem ld_glob {E : Value → Shared → Prop} {pins : List (Addr × Obj)} {s : Shared} {σ : St} {H : Hp} {x : Str} {u : Value} {pos : Pos} {Q : Value → Shared → Prop} (I : Inv X pins σ H s) (hg : Gl X x) (hm : X.mg x = some u) (h : Q u s)
    (hd : (x == ("__debug__" : Str)) = false := by decide) : wpAny (model X.prog X.w) X.A (eval (.Name x pos) X.env) Q E s :=
  Calls.Name_function_global I.ok.kind hg (Calls.loadGlobal_global (by rw [I.ok.glob]; exact I.mod.glob.keeps I.bk) hm h) hd
theorem ld_blt {E : Value → Shared → Prop} {pins : List (Addr × Obj)} {s : Shared} {σ : St} {H : Hp} {x : Str} {u : Value} {pos : Pos} {Q : Value → Shared → Prop} (I : Inv X pins σ H s) (hg : Gl X x) (hm : X.mg x = none) (hv : bootBuiltins x = some u) (h : Q u s)
    (hn : x ≠ "__name__" := by decide) (hd : (x == ("__debug__" : Str)) = false := by decide) : wpAny (model X.prog X.w) X.A (eval (.Name x pos) X.env) Q E s := by
  obtain ⟨mb, h1, h2⟩ := I.mod.blt
  exact Calls.Name_function_global I.ok.kind hg (Calls.loadGlobal_builtin (by rw [I.ok.glob]; exact I.mod.glob.keeps I.bk) hm (by rw [I.ok.blt]; exact h1.keeps I.bk) ((h2 x hn).trans hv) h) hd
theorem pe_glob {x : Str} {v : V} {u : Value} {pos : Pos} (hg : Gl X x) (hm : X.mg x = some u) (r : RelV v u) (hd : (x == ("__debug__" : Str)) = false := by decide) : PE X (.Name x pos) (tC v) :=
  fun _ _ _ H _ I h => ld_glob I hg hm ⟨v, H, I, r, h⟩ hd
theorem pe_bltn {x : Str} {v : V} {u : Value} {pos : Pos} (hg : Gl X x) (hm : X.mg x = none) (hv : bootBuiltins x = some u) (r : RelV v u) (hn : x ≠ "__name__" := by decide) (hd : (x == ("__debug__" : Str)) = false := by decide) : PE X (.Name x pos) (tC v) :=
  fun _ _ _ H _ I h => ld_blt I hg hm hv ⟨v, H, I, r, h⟩ hn hd
variable {a b : Expr} {ta tb : TE} {pos : Pos}
def PC (X : Cx) (op : CmpOp) (a b : Expr) (t : TE) : Prop :=
  ∀ (pins : List (Addr × Obj)) (s : Shared) (σ : St) (H : Hp) (Q : VK), Inv X pins σ H s → t σ H Q →
    wpAny (model X.prog X.w) X.A (eval a X.env) (fun v s₁ => wpAny (model X.prog X.w) X.A (eval b X.env) (fun u s₂ => wpAny (model X.prog X.w) X.A (compareOp op v u) (EP X pins σ Q) X.xe s₂) X.xe s₁) X.xe s
theorem nobehind (b : Expr) {op : CmpOp} (h : op ≠ .In) (h2 : op ≠ .NotIn) : behindInMarks op b = false := by
  have e1 : (op == CmpOp.In) = false := by cases op <;> first | rfl | exact absurd rfl h
  have e2 : (op == CmpOp.NotIn) = false := by cases op <;> first | rfl | exact absurd rfl h2
  cases b <;> simp [behindInMarks, e1, e2]
def tNotN (ta : TE) : TE := fun σ H Q => ta σ H fun x H1 => Q (.bl (!decide (x = .non))) H1
theorem RelV.none_iff {x : V} {v : Value} (r : RelV x v) : (v == Value.none) = decide (x = .non) := by
  cases x with
  | non => cases r; rfl
  | bl _ => cases r; rfl
  | int _ => obtain ⟨t, rfl⟩ := r; rfl
  | str _ => obtain ⟨t, rfl⟩ := r; rfl
  | byt _ => obtain ⟨t, rfl⟩ := r; rfl
  | flt _ => obtain ⟨t, rfl⟩ := r; rfl
  | ref _ => cases r; rfl
  | ty _ => cases r; rfl
theorem pc_notN {j pos'} (ha : PE X a ta) : PC X .IsNot a (.Constant .none j pos') (tNotN ta) := by
  intro pins s σ H Q I h
  refine thn (ha pins s σ H _ I h) fun v s1 ⟨x, H1, I1, r1, q1⟩ => ?_
  exact Constant_none (isnot_none_gen ⟨.bl _, H1, I1, by rw [r1.none_iff]; rfl, q1⟩)
def tB (t : TE) : TT := fun σ H Q => t σ H fun x H1 => ∃ c, x = .bl c ∧ Q c H1
theorem pt_cmp {op : CmpOp} {t : TE} (h : PC X op a b t) (h1 : behindInMarks op b = false := by first | exact nobehind _ (by decide) (by decide) | rfl) : PT X (.Compare a [op] [b] pos) (tB t) := by
  intro pins s σ H Q I hw
  refine wpAny_isTrue_Compare1 (thn (h pins s σ H _ I hw) fun v s1 h1 => thn h1 fun u s2 h2 => thn h2 fun c s3 ⟨x, H1, I1, r1, q1⟩ => ?_) h1
  obtain ⟨d, rfl, q⟩ := q1
  cases r1
  exact wpAny_truthy_bool ⟨H1, I1, q⟩
theorem pt_val {e : Expr} {t : TE} (h : PE X e t) (he : ∀ whole, isTrue e X.env whole = (do let v ← whole; standAt e.pos; holding [v] (truthy v)) := by intro _; rfl) : PT X e (tB t) := by
  intro pins s σ H Q I hw
  refine isTrue_plain (thn (h pins s σ H _ I hw) fun v s1 ⟨x, H1, I1, r1, q1⟩ => ?_) (he _)
  obtain ⟨d, rfl, q⟩ := q1
  cases r1
  exact wpAny_truthy_bool ⟨H1, I1, q⟩
variable {tA tB' : TT} {rest : List Expr}
def tAnd (t u : TT) : TT := fun σ H Q => t σ H fun c H1 => if c = true then u σ H1 Q else Q false H1
def tNot (t : TT) : TT := fun σ H Q => t σ H fun c H1 => Q (!c) H1
theorem pw_and1 (ha : PT X a tA) : PW X (.BoolOp .And [a] pos) tA := by
  intro wh pins s σ H Q I h
  refine isTrue_and (thn (ha pins s σ H Q I h) fun c s1 e => ?_)
  cases c with
  | true => exact isTrue_and_nil e
  | false => exact e
theorem pw_and (ha : PT X a tA) (hb : PW X (.BoolOp .And (b :: rest) pos) tB') : PW X (.BoolOp .And (a :: b :: rest) pos) (tAnd tA tB') := by
  intro wh pins s σ H Q I h
  refine isTrue_and (thn (ha pins s σ H _ I h) fun c s1 ⟨H1, I1, q1⟩ => ?_)
  cases c with
  | true => exact hb wh pins s1 σ H1 Q I1 q1
  | false => exact ⟨H1, I1, q1⟩
theorem pt_not (ha : PT X a tA) : PT X (.UnaryOp .Not a pos) (tNot tA) := by
  intro pins s σ H Q I h
  exact isTrue_not (ha pins s σ H (fun c H1 => Q (!c) H1) I h)
def tAndV (ta tb : TE) : TE := fun σ H Q => ta σ H fun x H1 => ∃ c, x = .bl c ∧ if c = true then tb σ H1 Q else Q (.bl false) H1
theorem pe_one {op} {t : TE} (h : PE X a t) : PE X (.BoolOp op [a] pos) t := fun pins s σ H Q I hw => BoolOp_one (h pins s σ H Q I hw)
theorem pe_and (ha : PE X a ta) (hb : PE X (.BoolOp .And (b :: rest) pos) tb) : PE X (.BoolOp .And (a :: b :: rest) pos) (tAndV ta tb) := by
  intro pins s σ H Q I h
  refine BoolOp_and (thn (ha pins s σ H _ I h) fun v s1 ⟨x, H1, I1, r1, q1⟩ => ?_)
  obtain ⟨c, rfl, q1⟩ := q1
  cases r1
  refine wpAny_truthy_bool ?_
  cases c with
  | true => exact hb pins s1 σ H1 Q I1 q1
  | false => exact ⟨.bl false, H1, I1, rfl, q1⟩
end
end L2
namespace L2
open PySem PySem.Spec PyProof.Rows
def SqL (K : PySem.W.Frag) (H : Hp) (a : Addr) (xs : List V) : Prop :=
  Rd H a (.lst xs) ∨
    ∃ (o : Obj) (its : Array Value) (n : Nat), K.lookup a = some o ∧ o.cls = .type "list" ∧ o.dict = none ∧ o.data = .seq its n ∧ its.size ≤ sizeLine ∧ Vals xs its.toList
def SqT (K : PySem.W.Frag) (H : Hp) (a : Addr) (xs : List V) : Prop :=
  Rd H a (.tup xs) ∨
    ∃ (o : Obj) (its : Array Value) (n : Nat), K.lookup a = some o ∧ o.cls = .type "tuple" ∧ o.data = .seq its n ∧ its.size ≤ sizeLine ∧ Vals xs its.toList
def absV : Value → Option V
  | .none => some .non
  | .bool b => some (.bl b)
  | .int i _ => some (.int i)
  | .str x _ => some (.str x)
  | .bytes b _ => some (.byt b)
  | .float b _ => some (.flt b)
  | .ref a => some (.ref a)
  | .type n => some (.ty n)
  | _ => none
theorem RelV.abs {x : V} {u : Value} (r : RelV x u) : absV u = some x := by
  cases x with
  | non => cases r; rfl
  | bl _ => cases r; rfl
  | int _ => obtain ⟨t, rfl⟩ := r; rfl
  | str _ => obtain ⟨t, rfl⟩ := r; rfl
  | byt _ => obtain ⟨t, rfl⟩ := r; rfl
  | flt _ => obtain ⟨t, rfl⟩ := r; rfl
  | ref _ => cases r; rfl
  | ty _ => cases r; rfl
theorem RelV.inj {x y : V} {u : Value} (r : RelV x u) (q : RelV y u) : x = y := Option.some.inj (r.abs.symm.trans q.abs)
theorem Vals.inj : ∀ {xs ys : List V} {us : List Value}, Vals xs us → Vals ys us → xs = ys
  | _, _, _, .nil, .nil => rfl
  | _, _, _, .cons r t, .cons r' t' => by rw [r.inj r', Vals.inj t t']
section
variable {X : Cx} {pins : List (Addr × Obj)} {σ : St} {H : Hp} {s : Shared} {a : Addr} {xs ys : List V}
theorem SqL.of {K : PySem.W.Frag} (h : H a = some (.lst xs)) : SqL K H a xs := .inl (.inl h)
theorem SqT.of {K : PySem.W.Frag} (h : H a = some (.tup xs)) : SqT K H a xs := .inl (.inl h)
theorem Inv.list (I : Inv X pins σ H s) (h : SqL X.K H a xs) : ∃ its : List Value, Vals xs its ∧ PlainL s.heap a its.toArray ∧ xs.length ≤ sizeLine := by
  rcases h with h | ⟨o, its, n, hk, hc, hd, hs, hz, r⟩
  · obtain ⟨z, its, n, r, e⟩ := h.ok I.hok
    exact ⟨its, r, ⟨_, n, e, rfl, rfl, rfl⟩, z⟩
  · refine ⟨its.toList, r, ⟨o, n, I.kIn a o hk, hc, hd, by simpa using hs⟩, ?_⟩
    have e := r.length
    simp only [Array.length_toList] at e
    omega
theorem Inv.tuple (I : Inv X pins σ H s) (h : SqT X.K H a xs) : ∃ its : List Value, Vals xs its ∧ IsTup s.heap a its.toArray ∧ xs.length ≤ sizeLine := by
  rcases h with h | ⟨o, its, n, hk, hc, hs, hz, r⟩
  · obtain ⟨z, its, r, p⟩ := h.ok I.hok
    exact ⟨its, r, p, z⟩
  · refine ⟨its.toList, r, ⟨o, I.kIn a o hk, hc, n, by simpa using hs⟩, ?_⟩
    have e := r.length
    simp only [Array.length_toList] at e
    omega
theorem Inv.list_inj (I : Inv X pins σ H s) (h : SqL X.K H a xs) (h' : SqL X.K H a ys) : xs = ys := by
  obtain ⟨its, r, ⟨o, n, e, _, _, d⟩, _⟩ := I.list h
  obtain ⟨its', r', ⟨o', n', e', _, _, d'⟩, _⟩ := I.list h'
  rw [e] at e'; cases e'
  rw [d] at d'
  injection d' with d1 _
  have : its = its' := by simpa using congrArg Array.toList d1
  subst this
  exact r.inj r'
end
abbrev Cx.wish (X : Cx) (E : Value → Shared → Prop) : Cx := { X with xe := E }
abbrev Cx.nox (X : Cx) : Cx := X.wish fun _ _ => False
theorem Cx.Ok.wish {X : Cx} (ok : X.Ok) (E : Value → Shared → Prop) : (X.wish E).Ok :=
  ⟨ok.mod, ok.kind, ok.glob, ok.blt, ok.above, ok.inj, ok.has, ok.cab, ok.hd, ok.frames, ok.stk, ok.exf, ok.bs, ok.bsz, ok.noex, ok.exfs, ok.funs, ok.frf⟩
theorem Cx.Ok.unwish {X : Cx} {E : Value → Shared → Prop} (ok : (X.wish E).Ok) : X.Ok :=
  ⟨ok.mod, ok.kind, ok.glob, ok.blt, ok.above, ok.inj, ok.has, ok.cab, ok.hd, ok.frames, ok.stk, ok.exf, ok.bs, ok.bsz, ok.noex, ok.exfs, ok.funs, ok.frf⟩
section
variable {X : Cx} {pins : List (Addr × Obj)} {σ : St} {H : Hp} {s : Shared} {E : Value → Shared → Prop}
theorem Inv.wish (I : Inv X pins σ H s) (E : Value → Shared → Prop) : Inv (X.wish E) pins σ H s := ⟨I.ok.wish E, I.os, I.bare, I.base, I.loc, I.cell, I.free, I.freeC, I.pin, I.hok, I.len⟩
theorem Inv.unwish (I : Inv (X.wish E) pins σ H s) : Inv X pins σ H s := ⟨I.ok.unwish, I.os, I.bare, I.base, I.loc, I.cell, I.free, I.freeC, I.pin, I.hok, I.len⟩
theorem SP.unwish {D : Ends} {f : Flow} {s' : Shared} (h : SP (X.wish E) pins D f s') : SP X pins D f s' := by
  cases f with
  | next => obtain ⟨σ', H', I, q⟩ := h; exact ⟨σ', H', I.unwish, q⟩
  | brk => obtain ⟨σ', H', I, q⟩ := h; exact ⟨σ', H', I.unwish, q⟩
  | cont => obtain ⟨σ', H', I, q⟩ := h; exact ⟨σ', H', I.unwish, q⟩
  | ret u => obtain ⟨v, σ', H', I, r, q⟩ := h; exact ⟨v, σ', H', I.unwish, r, q⟩
theorem PE.nox {e : Expr} {t : TE} (h : PE X.nox e t) : PE X e t := fun pins s σ H Q I hw =>
  wpAny_mono (h pins s σ H Q (I.wish _) hw) (fun _ _ ⟨v, H', I', r, q⟩ => ⟨v, H', I'.unwish, r, q⟩) fun _ _ z => False.elim z
theorem PT.nox {e : Expr} {t : TT} (h : PT X.nox e t) : PT X e t := fun pins s σ H Q I hw =>
  wpAny_mono (h pins s σ H Q (I.wish _) hw) (fun _ _ ⟨H', I', q⟩ => ⟨H', I'.unwish, q⟩) fun _ _ z => False.elim z
theorem PSs.nox {st : List Stmt} {t : TS} (h : PSs X.nox st t) : PSs X st t := fun pins s σ H D I hw =>
  wpAny_mono (h pins s σ H D (I.wish _) hw) (fun _ _ q => q.unwish) fun _ _ z => False.elim z
end
section
variable {X : Cx} {st : Stmt} {rest : List Stmt} {t u : TS} {e : Expr} {te : TE} {pos : Pos}
def tNext : TS := fun D σ H => D.nx σ H
def tSeq (t u : TS) : TS := fun D σ H => t { D with nx := u D } σ H
theorem pss_nil : PSs X [] tNext := fun _ _ σ H _ I h => wpAny_execs_nil ⟨σ, H, I, h⟩
theorem pss_cons (h1 : PS X st t) (h2 : PSs X rest u) : PSs X (st :: rest) (tSeq t u) := by
  intro pins s σ H D I h
  refine wpAny_execs_cons (thn (h1 pins s σ H { D with nx := u D } I h) fun f s1 q => ?_)
  cases f with
  | next =>
    obtain ⟨σ', H', I', q⟩ := q
    exact h2 pins s1 σ' H' D I' q
  | ret v => exact q
  | brk => exact q
  | cont => exact q
theorem pss_one (h1 : PS X st t) : PSs X [st] t := by
  intro pins s σ H D I h
  refine wpAny_execs_cons (thn (h1 pins s σ H D I h) fun f s1 q => ?_)
  cases f with
  | next => exact wpAny_execs_nil q
  | ret v => exact q
  | brk => exact q
  | cont => exact q
theorem Inv.quiet {pins : List (Addr × Obj)} {σ : St} {H : Hp} {s : Shared} (I : Inv X pins σ H s) : interactive X.env = false := by simp [interactive, I.ok.kind]
def tDrop (te : TE) : TS := fun D σ H => te σ H fun _ H1 => D.nx σ H1
theorem ps_expr (he : PE X e te) (hs : swapsWith e none pos.line X.env = pure false := by rfl) : PS X (.Expr e pos) (tDrop te) := by
  intro pins s σ H D I h
  exact wpAny_Expr_any (thn (he pins s σ H _ I h) fun v s1 ⟨x, H1, I1, r1, q1⟩ => ⟨σ, H1, I1, q1⟩) I.quiet hs
def tRet (te : TE) : TS := fun D σ H => te σ H D.rt
theorem ps_ret (he : PE X e te) : PS X (.Return (some e) pos) (tRet te) := by
  intro pins s σ H D I h
  exact wpAny_Return_some (thn (he pins s σ H _ I h) fun v s1 ⟨x, H1, I1, r1, q1⟩ => ⟨x, σ, H1, I1, r1, q1⟩)
def tIfS (c : TT) (t u : TS) : TS := fun D σ H => c σ H fun b H1 => if b = true then t D σ H1 else u D σ H1
theorem ps_if {c : Expr} {a b : List Stmt} {tc : TT} (hc : PT X c tc) (ha : PSs X a t) (hb : PSs X b u) : PS X (.If c a b pos) (tIfS tc t u) := by
  intro pins s σ H D I h
  refine wpAny_If (thn (hc pins s σ H _ I h) fun d s1 ⟨H1, I1, q1⟩ => ?_)
  cases d with
  | true => exact ha pins s1 σ H1 D I1 q1
  | false => exact hb pins s1 σ H1 D I1 q1
end
abbrev TG := V → St → Hp → (St → Hp → Prop) → Prop
abbrev TGs := List V → St → Hp → (St → Hp → Prop) → Prop
def PG (X : Cx) (target : Expr) (t : TG) : Prop :=
  ∀ (pins : List (Addr × Obj)) (s : Shared) (σ : St) (H : Hp) (v : V) (u : Value) (Q : St → Hp → Prop), Inv X pins σ H s → RelV v u → t v σ H Q →
    wpAny (model X.prog X.w) X.A (assign target X.env u) (fun _ s' => ∃ σ' H', Inv X pins σ' H' s' ∧ Q σ' H') X.xe s
def PGs (X : Cx) (ts : List Expr) (t : TGs) : Prop :=
  ∀ (pins : List (Addr × Obj)) (s : Shared) (σ : St) (H : Hp) (vs : List V) (us : List Value) (Q : St → Hp → Prop), Inv X pins σ H s → Vals vs us → t vs σ H Q →
    wpAny (model X.prog X.w) X.A (assignInOrder ((assignEach ts X.env).map (·.2)) us) (fun _ s' => ∃ σ' H', Inv X pins σ' H' s' ∧ Q σ' H') X.xe s
section
variable {X : Cx} {pos : Pos}
def gName (i : Nat) : TG := fun v σ H Q => Q (σ.set i (some v)) H
theorem pg_name {i : Nat} {x : Str} (hN : X.N.Nodup) (hi : X.N[i]? = some x) (hx : Loc X.env.scope x) (hf : X.fn x = true ∨ X.env.scope.names.lookup x = some .local := by first | exact .inl rfl | exact .inr rfl | assumption) : PG X (.Name x pos) (gName i) := by
  intro pins s σ H v u Q I r h
  exact wpAny_assign_Name (store_ok I hN hi hx r (fun s' I' => ⟨_, H, I', h⟩) hf)
def gNil : TGs := fun vs σ H Q => vs = [] ∧ Q σ H
def gCons (t : TG) (u : TGs) : TGs := fun vs σ H Q => ∃ v r, vs = v :: r ∧ t v σ H fun σ' H' => u r σ' H' Q
theorem pgs_nil : PGs X [] gNil := by
  intro pins s σ H vs us Q I r h
  obtain ⟨e, h⟩ := h
  subst e
  cases r
  exact assignInOrder_nil ⟨σ, H, I, h⟩
theorem pgs_cons {e : Expr} {es : List Expr} {t : TG} {u : TGs} (h1 : PG X e t) (h2 : PGs X es u)
    (hs : (assignEach (e :: es) X.env).map (·.2) = assign e X.env :: (assignEach es X.env).map (·.2) := by rfl) : PGs X (e :: es) (gCons t u) := by
  intro pins s σ H vs us Q I r h
  obtain ⟨v, vr, e1, h⟩ := h
  subst e1
  cases r with
  | cons r rr =>
    rw [hs]
    refine assignInOrder_cons (thn (h1 pins s σ H _ _ _ I r h) fun _ s1 ⟨σ1, H1, I1, q1⟩ => ?_)
    exact h2 pins s1 σ1 H1 _ _ Q I1 rr q1
def gTup (K : PySem.W.Frag) (n : Nat) (t : TGs) : TG := fun v σ H Q => ∃ a xs, v = .ref a ∧ SqT K H a xs ∧ xs.length = n ∧ t xs σ H Q
theorem pg_tup {es : List Expr} {k : Nat} {t : TGs} {n : Nat} (hc : X.calm = true) (h : PGs X es t)
    (hn : (assignEach es X.env).length = n := by rfl) (hst : (assignEach es X.env).findIdx? (·.1) = none := by rfl) : PG X (.Tuple es k pos) (gTup X.K n t) := by
  intro pins s σ H v u Q I r hw
  obtain ⟨a, xs, e1, hq, hl, hw⟩ := hw
  subst e1
  cases r
  obtain ⟨its, rv, ht, hz⟩ := I.tuple hq
  refine assign_Tuple_tuple (I.ok.hd hc) ht (by simp [hn, ← hl, rv.length]) hst fun h' hx => ?_
  have I1 : Inv X pins σ H { s with heap := h' } := I.kept (t' := s.toks) fun b o e => hx b o (Nat.ne_of_lt (Heap.lt_size e)) e
  exact h pins _ σ H xs _ Q I1 (by simpa using rv) hw
def tAsg (te : TE) (g : TG) : TS := fun D σ H => te σ H fun x H1 => g x σ H1 D.nx
theorem ps_set {i : Nat} {x : Str} {e : Expr} {te : TE} {pos' : Pos} (hN : X.N.Nodup) (hi : X.N[i]? = some x) (hx : Loc X.env.scope x) (he : PE X e te) (hs : swapsWith e (some (.Name x pos')) pos.line X.env = pure false := by rfl) (hf : X.fn x = true ∨ X.env.scope.names.lookup x = some .local := by first | exact .inl rfl | exact .inr rfl | assumption) :
    PS X (.Assign [.Name x pos'] e pos) (tAsg te (gName i)) := by
  intro pins s σ H D I h
  refine wpAny_Assign_Name (thn (he pins s σ H _ I h) fun v s1 ⟨y, H1, I1, r1, q1⟩ => ?_) hs
  exact store_ok I1 hN hi hx r1 (fun s2 I2 => ⟨_, H1, I2, q1⟩) hf
end
section
variable {X : Cx} {pos : Pos}
end
structure It where
  go : Nat → Hp → Prop
  yld : Nat → Hp → V → Hp → Prop
  stop : Nat → Hp → Prop
def FpOk (X : Cx) (pins : List (Addr × Obj)) (H : Hp) (b : Addr) : Prop :=
  H b = none ∧ b ≠ X.env.locals ∧ b ∉ X.fs ∧ (b ∈ X.ex ∨ X.s₀.heap.objs.size ≤ b) ∧ (∀ x c, X.env.cells.lookup x = some c → c ≠ b) ∧ ∀ p ∈ X.pn ++ pins, p.1 ≠ b
theorem Inv.fpOk {X : Cx} {pins : List (Addr × Obj)} {σ : St} {H H' : Hp} {s : Shared} {b : Addr} (I : Inv X pins σ H s) (hb : s.heap.objs.size ≤ b) (hn : H' b = none) : FpOk X pins H' b := by
  refine ⟨hn, Nat.ne_of_gt (Nat.lt_of_lt_of_le I.lt hb), I.nofs hb, .inr (Nat.le_trans I.sz hb), fun x c e z => ?_, fun p hp z => ?_⟩
  · obtain ⟨v, q⟩ := I.cell x c e
    exact absurd (Nat.lt_of_lt_of_le q.lt (by rw [z]; exact hb)) (Nat.lt_irrefl _)
  · exact absurd (Nat.lt_of_lt_of_le (Heap.lt_size (I.pin p hp).1) (by rw [z]; exact hb)) (Nat.lt_irrefl _)
structure Turn (P : Program) (w : World) (K : PySem.W.Frag) (tg : Expr) (J : It) (fp : List Addr) (it : Addr) (tn : Nat → Heap → Prop) : Prop where
  mem : it ∈ fp
  obj : ∀ i h, tn i h → ∀ b ∈ fp, ∃ o, h.get? b = some o ∧ ∀ v, o.data ≠ .cell v
  keep : ∀ i h h', tn i h → (∀ b ∈ fp, ∀ o, h.get? b = some o → h'.get? b = some o) → tn i h'
  item : ∀ (X : Cx), X.prog = P → X.w = w → X.K = K → X.calm = true → ∀ (i : Nat) (pins : List (Addr × Obj)) (s : Shared) (σ : St) (H : Hp) (E : Value → Shared → Prop), Inv X pins σ H s → (∀ b ∈ fp, FpOk X pins H b) → tn i s.heap → J.go i H →
    wpAny (model P w) X.A (pyNext (.ref it)) (fun r s1 => ∃ u, r = some u ∧
      wpAny (model P w) X.A (letOwnedTupleGo tg (.ref it) u) (fun _ s2 => ∃ x H', Inv X pins σ H' s2 ∧ RelV x u ∧ J.yld i H x H' ∧ tn (i + 1) s2.heap ∧ ∀ b ∈ fp, H' b = none) E s1) E s
  done : ∀ (X : Cx), X.prog = P → X.w = w → X.K = K → X.calm = true → ∀ (i : Nat) (pins : List (Addr × Obj)) (s : Shared) (σ : St) (H : Hp) (E : Value → Shared → Prop), Inv X pins σ H s → (∀ b ∈ fp, FpOk X pins H b) → tn i s.heap → J.stop i H →
    wpAny (model P w) X.A (pyNext (.ref it)) (fun r s1 => r = none ∧ Inv X pins σ H s1) E s
  self : ∀ (A : Around) (i : Nat) (s : Shared) (Q : Value → Shared → Prop) (E : Value → Shared → Prop), tn i s.heap → Q (.ref it) s → wpAny (model P w) A (pyIter (.ref it)) Q E s
abbrev TI := St → Hp → (It → Hp → Prop) → Prop
def PIE (X : Cx) (pins : List (Addr × Obj)) (σ : St) (tg : Expr) (R : It → Hp → Prop) (itv : Value) (s2 : Shared) : Prop :=
  ∃ (it : Addr) (fp : List Addr) (tn : Nat → Heap → Prop) (J : It) (H' : Hp), itv = .ref it ∧ Inv X pins σ H' s2 ∧ Turn X.prog X.w X.K tg J fp it tn ∧ tn 0 s2.heap ∧ (∀ b ∈ fp, FpOk X pins H' b) ∧ R J H'
def PI (X : Cx) (tg iter : Expr) (wi : TI) : Prop :=
  ∀ (pins : List (Addr × Obj)) (s : Shared) (σ : St) (H : Hp) (R : It → Hp → Prop), Inv X pins σ H s → wi σ H R →
    wpAny (model X.prog X.w) X.A (eval iter X.env) (fun v s1 => wpAny (model X.prog X.w) X.A (pyIter v) (PIE X pins σ tg R) X.xe s1) X.xe s
theorem go_of {M : Model} {A : Around} {E : Value → Shared → Prop} {s : Shared} {tg : Expr} {it : Addr} {u : Value} {o : Obj} {n : String} {vs : Array Value} {Q : Unit → Shared → Prop} (ho : s.heap.get? it = some o) (hc : o.cls = .type n) (hd : o.data = .fields vs)
    (hn : ["enumerate", "zip", "dict_itemiterator", "dict_reverseitemiterator", "odict_iterator", "itertools.zip_longest", "itertools.pairwise"].contains n = false) (hQ : Q () s) : wpAny M A (letOwnedTupleGo tg (.ref it) u) Q E s := by
  unfold letOwnedTupleGo
  cases tg <;> first
    | exact wpAny_pure hQ
    | (cases u <;> first
        | exact wpAny_pure hQ
        | (refine wpAny_bind (wpAny_load ho ?_)
           rw [hc, hd]
           show wpAny M A (if (["enumerate", "zip", "dict_itemiterator", "dict_reverseitemiterator", "odict_iterator", "itertools.zip_longest", "itertools.pairwise"].contains n && vs[0]? == some (rawInt _)) = true then _ else _) Q E s
           rw [if_neg (by intro h; rw [hn, Bool.false_and] at h; cases h)]
           exact wpAny_pure hQ))
def Itl (K : PySem.W.Frag) (a : Addr) : It :=
  ⟨fun i H => ∃ xs x, SqL K H a xs ∧ xs[i]? = some x, fun i H x H' => H' = H ∧ ∀ xs, SqL K H a xs → xs[i]? = some x, fun i H => ∃ xs, SqL K H a xs ∧ xs.length ≤ i⟩
def Itr (lo : Int) (n : Nat) : It := ⟨fun i _ => i < n, fun i H x H' => H' = H ∧ x = .int (lo + i), fun i _ => n ≤ i⟩
theorem turn_list {P : Program} {w : World} {K : PySem.W.Frag} {tg : Expr} (a it : Addr) : Turn P w K tg (Itl K a) [it] it (fun i h => h.IsListIter it a i) where
  mem := by simp
  obj := fun i h st b hb => by
    have e : b = it := by simpa using hb
    subst e
    obtain ⟨o, e, c, d⟩ := st
    exact ⟨o, e, fun v z => by rw [d] at z; cases z⟩
  keep := fun i h h' st k => st.at fun o e => k it (by simp) o e
  item := by
    intro X hP hw hK hc i pins s σ H E I hf st hg
    subst hP hw hK
    obtain ⟨xs, x, hq, hx⟩ := hg
    obtain ⟨its, rv, p, hz⟩ := I.list hq
    obtain ⟨u, hu, ru⟩ := rv.get hx
    obtain ⟨f0, f1, f2, f3, f4, f5⟩ := hf it (by simp)
    refine wpAny_pyNext_list_item st p.isList (x := u) (by simpa using hu) fun h' st' sb => ?_
    have I1 : Inv X pins σ H { s with heap := h' } := I.turned (t' := s.toks) (fun b o hb e => (sb.2 b hb).trans e) f0 f1 f3 f4 f5
    obtain ⟨o, e, c, d⟩ := id st'
    exact ⟨u, rfl, go_of (s := { s with heap := h' }) e c d (by decide) ⟨x, H, I1, ru, ⟨rfl, fun ys hy => by rw [I.list_inj hy hq]; exact hx⟩, st', fun b hb => (hf b hb).1⟩⟩
  done := by
    intro X hP hw hK hc i pins s σ H E I hf st hg
    subst hP hw hK
    obtain ⟨xs, hq, hx⟩ := hg
    obtain ⟨its, rv, p, hz⟩ := I.list hq
    obtain ⟨f0, f1, f2, f3, f4, f5⟩ := hf it (by simp)
    have hl := rv.length
    exact wpAny_pyNext_list_end (I.ok.hd hc) st p.isList (by simp; omega) fun h' eb => ⟨rfl, I.turned (t' := s.toks) (fun b o hb e => eb b o hb e) f0 f1 f3 f4 f5⟩
  self := fun _ _ _ _ _ st h => wpAny_pyIter_listiter st h
theorem turn_range {P : Program} {w : World} {K : PySem.W.Frag} {tg : Expr} (it : Addr) (lo : Int) (n : Nat) : Turn P w K tg (Itr lo n) [it] it (fun i h => IsRangeIter h it (lo + (i : Nat) * 1) ((n : Int) - (i : Nat)) 1) where
  mem := by simp
  obj := fun i h st b hb => by
    have e : b = it := by simpa using hb
    subst e
    exact ⟨_, st, fun v z => by
      have z' : Data.fields _ = Data.cell v := z
      cases z'⟩
  keep := fun i h h' st k => k it (by simp) _ st
  item := by
    intro X hP hw hK hc i pins s σ H E I hf st hg
    subst hP hw hK
    obtain ⟨f0, f1, f2, f3, f4, f5⟩ := hf it (by simp)
    have W := Walks.range (prog := X.prog) (w := X.w) (I.ok.hd hc) it lo 1 n
    refine W.item i s _ _ hg st fun v h' tk hv st' kk => ?_
    obtain ⟨t, rfl⟩ := hv
    have I1 : Inv X pins σ H { s with heap := h', toks := tk } := I.turned (fun b o hb e => kk b o (by simpa using hb) e) f0 f1 f3 f4 f5
    refine ⟨_, rfl, go_of (s := { s with heap := h', toks := tk }) (n := "range_iterator") st' rfl rfl (by decide) ⟨.int (lo + i), H, I1, ⟨t, ?_⟩, ⟨rfl, rfl⟩, st', fun b hb => (hf b hb).1⟩⟩
    rw [Int.mul_one]
  done := by
    intro X hP hw hK hc i pins s σ H E I hf st hg
    subst hP hw hK
    obtain ⟨f0, f1, f2, f3, f4, f5⟩ := hf it (by simp)
    exact wpAny_pyNext_range_end (I.ok.hd hc) st (by have : n ≤ i := hg; omega) fun h' eb => ⟨rfl, I.turned (t' := s.toks) (fun b o hb e => eb b o hb e) f0 f1 f3 f4 f5⟩
  self := fun _ _ _ _ _ st h => wpAny_pyIter_rangeiter st h
end L2
namespace L2
open PySem PySem.Spec PyProof.Rows
section
variable {X : Cx} {tg : Expr}
def iList (K : PySem.W.Frag) (tl : TE) : TI := fun σ H R => tl σ H fun x H1 => ∃ a, x = .ref a ∧ (∃ xs, SqL K H1 a xs) ∧ R (Itl K a) H1
theorem pi_list {l : Expr} {tl : TE} (hl : PE X l tl) : PI X tg l (iList X.K tl) := by
  intro pins s σ H R I h
  refine thn (hl pins s σ H _ I h) fun v s1 ⟨x, H1, I1, r1, q1⟩ => ?_
  obtain ⟨a, e, ⟨xs, hq⟩, q⟩ := q1
  subst e
  cases r1
  obtain ⟨its, rv, p, hz⟩ := I1.list hq
  refine wpAny_pyIter_list p.isList ?_
  refine ⟨s1.heap.objs.size, [s1.heap.objs.size], _, _, H1, rfl, I1.kept (t' := s1.toks) fun b o e => Heap.get?_push_of_some _ e, turn_list a _, ⟨_, Heap.get?_push_size _ rfl, rfl, rfl⟩, fun b hb => ?_, q⟩
  have e : b = s1.heap.objs.size := by simpa using hb
  subst e
  exact I1.fpOk (Nat.le_refl _) (I1.hok.fresh (Nat.le_refl _))
theorem range_it {pins : List (Addr × Obj)} {σ : St} {H : Hp} {s : Shared} {R : It → Hp → Prop} {E : Value → Shared → Prop} {lo hi : Int} {t u v : Tok} {tk : Nat} (I : Inv X pins σ H s) (h1 : -(2 ^ 62) ≤ lo) (h2 : lo < 2 ^ 62) (h3 : -(2 ^ 62) ≤ hi) (h4 : hi < 2 ^ 62)
    (q : R (Itr lo (hi - lo).toNat) H) : wpAny (model X.prog X.w) X.A (pyIter (.ref s.heap.objs.size)) (PIE X pins σ tg R) E { s with heap := s.heap.push { cls := .type "range", data := .fields #[.int lo t, .int hi u, .int 1 v] }, toks := tk } := by
  refine wpAny_pyIter_range (IsRange.new ..) (small_one h1 h2 h3 h4) ?_
  have I1 : Inv X pins σ H { s with heap := s.heap.push { cls := .type "range", data := .fields #[.int lo t, .int hi u, .int 1 v] }, toks := tk } := I.kept fun b o e => Heap.get?_push_of_some _ e
  refine ⟨(s.heap.push { cls := .type "range", data := .fields #[.int lo t, .int hi u, .int 1 v] }).objs.size, [(s.heap.push { cls := .type "range", data := .fields #[.int lo t, .int hi u, .int 1 v] }).objs.size], _, _, H, rfl,
    I1.kept (t' := tk) fun b o e => Heap.get?_push_of_some _ e, turn_range _ lo (hi - lo).toNat, ?_, fun b hb => ?_, q⟩
  · have e1 : lo + ((0 : Nat) : Int) * 1 = lo := by simp
    have e2 : (((hi - lo).toNat : Nat) : Int) - ((0 : Nat) : Int) = Builtin.Range.rangeSize lo hi 1 := by rw [rangeSize_one]; split <;> omega
    show IsRangeIter _ _ (lo + ((0 : Nat) : Int) * 1) ((((hi - lo).toNat : Nat) : Int) - ((0 : Nat) : Int)) 1
    rw [e1, e2]
    exact Heap.get?_push_size _ rfl
  · have e : b = (s.heap.push { cls := .type "range", data := .fields #[.int lo t, .int hi u, .int 1 v] }).objs.size := by simpa using hb
    subst e
    exact I1.fpOk (Nat.le_refl _) (I1.hok.fresh (Nat.le_refl _))
def iRng1 (ta : TA) : TI := fun σ H R => ta σ H fun vs H1 => ∃ j : Int, vs = [.int j] ∧ -(2 ^ 62) ≤ j ∧ j < 2 ^ 62 ∧ R (Itr 0 j.toNat) H1
def iRng2 (ta : TA) : TI := fun σ H R => ta σ H fun vs H1 => ∃ i j : Int, vs = [.int i, .int j] ∧ (-(2 ^ 62) ≤ i ∧ i < 2 ^ 62 ∧ -(2 ^ 62) ≤ j ∧ j < 2 ^ 62) ∧ R (Itr i (j - i).toNat) H1
theorem pi_range1 {a : Expr} {ta : TA} {p pos : Pos} (hg : Gl X "range") (hm : X.mg "range" = none) (ha : PA X [a] ta) (hs : starEach [a] X.env = [(false, eval a X.env)] := by rfl) : PI X tg (.Call (.Name "range" p) [a] [] pos) (iRng1 ta) := by
  intro pins s σ H R I h
  refine Call_ (ld_blt I hg hm boot_range (PyProof.Rows.callWith_type1 (thn (ha pos pins s σ H _ I h) fun us s1 ⟨vs, H1, I1, r1, q1⟩ => ?_) hs rfl))
  obtain ⟨j, e, q1, q2, q⟩ := q1
  subst e
  cases r1 with
  | cons r rr =>
    cases rr
    obtain ⟨t, rfl⟩ := r
    exact call_range_1 (range_it I1 (by omega) (by omega) q1 q2 (by simpa using q))
theorem pi_range2 {a b : Expr} {ta : TA} {p pos : Pos} (hg : Gl X "range") (hm : X.mg "range" = none) (ha : PA X [a, b] ta) (hs : starEach [a, b] X.env = [(false, eval a X.env), (false, eval b X.env)] := by rfl) (hs2 : starEach [b] X.env = [(false, eval b X.env)] := by rfl) :
    PI X tg (.Call (.Name "range" p) [a, b] [] pos) (iRng2 ta) := by
  intro pins s σ H R I h
  refine Call_ (ld_blt I hg hm boot_range (PyProof.Rows.callWith_type1 (thn (ha pos pins s σ H _ I h) fun us s1 ⟨vs, H1, I1, r1, q1⟩ => ?_) (by rw [hs, hs2]) (by rw [hs2]; rfl)))
  obtain ⟨i, j, e, ⟨q1, q2, q3, q4⟩, q⟩ := q1
  subst e
  cases r1 with
  | cons r rr =>
    cases rr with
    | cons r' rr =>
      cases rr
      obtain ⟨t, rfl⟩ := r
      obtain ⟨t', rfl⟩ := r'
      exact call_range_2 (range_it I1 q1 q2 q3 q4 q)
def tFor (wi : TI) (g : TG) (tb : TS) : TS := fun D σ H => wi σ H fun J H1 => ∃ W : Nat → Nat → St → Hp → Prop, (∃ m, W 0 m σ H1) ∧ ∀ i m σ H, W i m σ H →
  (J.stop i H ∧ D.nx σ H) ∨ (J.go i H ∧ ∃ N : St → Hp → Prop, (∀ σ' H', N σ' H' → ∃ m', m' < m ∧ W (i + 1) m' σ' H') ∧ ∀ x H', J.yld i H x H' → g x σ H' fun σ2 H2 => tb { D with nx := N, ct := N, bk := D.nx } σ2 H2)
def pinsAt (fp : List Addr) (h : Heap) : List (Addr × Obj) := fp.filterMap fun b => (h.get? b).map fun o => (b, o)
theorem mem_pinsAt {fp : List Addr} {h : Heap} {b : Addr} {o : Obj} (hb : b ∈ fp) (e : h.get? b = some o) : (b, o) ∈ pinsAt fp h := List.mem_filterMap.mpr ⟨b, hb, by rw [e]; rfl⟩
theorem of_pinsAt {fp : List Addr} {h : Heap} {p : Addr × Obj} (hp : p ∈ pinsAt fp h) : p.1 ∈ fp ∧ h.get? p.1 = some p.2 := by
  obtain ⟨b, hb, e⟩ := List.mem_filterMap.mp hp
  cases q : h.get? b with
  | none => rw [q] at e; cases e
  | some o =>
    rw [q] at e
    have e' : (b, o) = p := Option.some.inj e
    subst e'
    exact ⟨hb, q⟩
theorem Inv.pinned {pins : List (Addr × Obj)} {σ : St} {H : Hp} {s : Shared} {fp : List Addr} (I : Inv X pins σ H s) (hf : ∀ b ∈ fp, FpOk X pins H b) (ho : ∀ b ∈ fp, ∃ o, s.heap.get? b = some o ∧ ∀ v, o.data ≠ .cell v) : Inv X (pins ++ pinsAt fp s.heap) σ H s :=
  I.pins_of fun p hp => (List.mem_append.mp hp).elim (fun z => I.pin p (List.mem_append_right _ z)) fun z => by
    obtain ⟨hb, e⟩ := of_pinsAt z
    obtain ⟨f0, f1, f2, _⟩ := hf p.1 hb
    obtain ⟨o, e', d⟩ := ho p.1 hb
    rw [e] at e'; cases e'
    exact ⟨e, f0, f1, f2, d⟩
theorem Inv.unpinned {pins pl : List (Addr × Obj)} {σ : St} {H : Hp} {s : Shared} (I : Inv X (pins ++ pl) σ H s) : Inv X pins σ H s := I.pins_of fun p hp => I.pin p (List.mem_append_right _ (List.mem_append_left _ hp))
theorem ps_for {iter : Expr} {body : List Stmt} {wi : TI} {g : TG} {tb : TS} {pos : Pos} (hp : PassesOwn (model X.prog X.w) X.A X.env X.xe) (hc : X.calm = true) (hi : PI X tg iter wi) (hg : PG X tg g) (hb : PSs X body tb)
    (hs : ∀ x, foldedSetIterable iter X.env x = pure x := by intro _; rfl) : PS X (.For tg iter body [] pos) (tFor wi g tb) := by
  intro pins s σ H D I h
  refine wpAny_For (thn (hi pins s σ H _ I h) fun v s1 h1 => thn h1 fun itv s2 h2 => ?_) hs
  obtain ⟨it, fp, tn, J, H2, e, I2, T, st2, f2, W, ⟨m0, w0⟩, turn⟩ := h2
  subst e
  have stat : ∀ {H' : Hp}, (∀ b ∈ fp, H' b = none) → ∀ b ∈ fp, FpOk X pins H' b := fun hn b hb => ⟨hn b hb, (f2 b hb).2⟩
  refine codeAny_forLoop_any (fun n s' => ∃ i σ' H', Inv X pins σ' H' s' ∧ tn i s'.heap ∧ (∀ b ∈ fp, H' b = none) ∧ W i n σ' H') ?_ m0 ⟨0, σ, H2, I2, st2, fun b hb => (f2 b hb).1, w0⟩
  rintro n s3 ⟨i, σ3, H3, I3, st3, fr3, w3⟩
  rcases turn i n σ3 H3 w3 with ⟨stop, qn⟩ | ⟨go, N, hN, step⟩
  · refine wpAny_passesOwn hp (thn (T.done X rfl rfl rfl hc i pins s3 σ3 H3 X.xe I3 (stat fr3) st3 stop) fun r s4 ⟨hr, I4⟩ => ?_)
    subst hr
    exact wpAny_execs_nil ⟨σ3, H3, I4, qn⟩
  · refine wpAny_passesOwn hp (thn (T.item X rfl rfl rfl hc i pins s3 σ3 H3 X.xe I3 (stat fr3) st3 go) fun r s4 ⟨u, hr, h4⟩ => ?_)
    subst hr
    refine wpAny_passesOwn hp (thn h4 fun _ s5 ⟨x, H5, I5, r5, y5, st5, fr5⟩ => ?_)
    have I5' := I5.pinned (stat fr5) (T.obj _ _ st5)
    refine wpAny_passesOwn hp (thn (hg _ s5 σ3 H5 x u _ I5' r5 (step x H5 y5)) fun _ s6 ⟨σ6, H6, I6, q6⟩ => ?_)
    refine wpAny_passesOwn hp (thn (hb _ s6 σ6 H6 _ I6 q6) fun f s7 q7 => ?_)
    have again : ∀ {σ7 : St} {H7 : Hp}, Inv X (pins ++ pinsAt fp s5.heap) σ7 H7 s7 → N σ7 H7 → ∃ m, m < n ∧ ∃ i σ' H', Inv X pins σ' H' s7 ∧ tn i s7.heap ∧ (∀ b ∈ fp, H' b = none) ∧ W i m σ' H' := fun {σ7 H7} I7 n7 => by
      obtain ⟨m', hm, w7⟩ := hN σ7 H7 n7
      refine ⟨m', hm, i + 1, σ7, H7, I7.unpinned, T.keep _ _ _ st5 fun b hb o e => (I7.pin (b, o) (List.mem_append_right _ (List.mem_append_right _ (mem_pinsAt hb e)))).1, fun b hb => ?_, w7⟩
      obtain ⟨o, e, d⟩ := T.obj _ _ st5 b hb
      exact (I7.pin (b, o) (List.mem_append_right _ (List.mem_append_right _ (mem_pinsAt hb e)))).2.1
    cases f with
    | next => obtain ⟨σ7, H7, I7, n7⟩ := q7; exact again I7 n7
    | cont => obtain ⟨σ7, H7, I7, n7⟩ := q7; exact again I7 n7
    | brk => obtain ⟨σ7, H7, I7, q7⟩ := q7; exact ⟨σ7, H7, I7.unpinned, q7⟩
    | ret v => obtain ⟨x7, σ7, H7, I7, r7, q7⟩ := q7; exact ⟨x7, σ7, H7, I7.unpinned, r7, q7⟩
end
end L2
namespace L2
open PySem PySem.Spec PyProof.Rows
abbrev R2 := V → V → Hp → VK → Prop
def OpR (X : Cx) (f : Value → Value → Sem Value) (r : R2) : Prop :=
  ∀ (pins : List (Addr × Obj)) (s : Shared) (σ : St) (H : Hp) (x y : V) (v u : Value) (Q : VK), Inv X pins σ H s → RelV x v → RelV y u → r x y H Q →
    wpAny (model X.prog X.w) X.A (f v u) (EP X pins σ Q) X.xe s
def CallR (X : Cx) (f : Value) (r : List V → Hp → VK → Prop) : Prop :=
  ∀ (pins : List (Addr × Obj)) (s : Shared) (σ : St) (H : Hp) (xs : List V) (us : List Value) (Q : VK), Inv X pins σ H s → Vals xs us → r xs H Q →
    wpAny (model X.prog X.w) X.A (call f us) (EP X pins σ Q) X.xe s
def tOp (r : R2) (ta tb : TE) : TE := fun σ H Q => ta σ H fun x H1 => tb σ H1 fun y H2 => r x y H2 Q
def rI (C : Int → Int → Prop) (g : Int → Int → V) : R2 := fun x y H Q => ∃ i j, x = .int i ∧ y = .int j ∧ C i j ∧ Q (g i j) H
def rI0 (g : Int → Int → V) : R2 := fun x y H Q => ∃ i j, x = .int i ∧ y = .int j ∧ Q (g i j) H
section
variable {X : Cx} {a b c : Expr} {ta tb tc : TE} {pos : Pos}
theorem binT (ha : PE X a ta) (hb : PE X b tb) {pins : List (Addr × Obj)} {s : Shared} {σ : St} {H : Hp} {R : V → V → Hp → Prop} (I : Inv X pins σ H s)
    (h : ta σ H fun x H1 => tb σ H1 fun y H2 => R x y H2) {Q : Value → Shared → Prop} {f : Value → Value → Sem Value}
    (hf : ∀ v u s2 x y H2, Inv X pins σ H2 s2 → RelV x v → RelV y u → R x y H2 → wpAny (model X.prog X.w) X.A (f v u) Q X.xe s2) :
    wpAny (model X.prog X.w) X.A (eval a X.env) (fun v s₁ => wpAny (model X.prog X.w) X.A (eval b X.env) (fun u s₂ => wpAny (model X.prog X.w) X.A (f v u) Q X.xe s₂) X.xe s₁) X.xe s := by
  refine thn (ha pins s σ H _ I h) fun v s1 ⟨x, H1, I1, r1, q1⟩ => ?_
  refine thn (hb pins s1 σ H1 _ I1 q1) fun u s2 ⟨y, H2, I2, r2, q2⟩ => ?_
  exact hf v u s2 x y H2 I2 r1 r2 q2
theorem pe_op {op : Operator} {r : R2} (ho : OpR X (binaryOp op) r) (ha : PE X a ta) (hb : PE X b tb) : PE X (.BinOp a op b pos) (tOp r ta tb) := by
  intro pins s σ H Q I h
  exact wpAny_BinOp (binT ha hb I h fun v u s2 x y H2 I2 rx ry q => ho pins s2 σ H2 x y v u Q I2 rx ry q)
theorem opI {f : Value → Value → Sem Value} {C : Int → Int → Prop} {g : Int → Int → Int}
    (rule : ∀ (i j : Int) (t u : Tok) (s : Shared) (Q : Value → Shared → Prop) (E : Value → Shared → Prop), C i j → Q (.int (g i j) s.toks) { s with toks := s.toks + 1 } → wpAny (model X.prog X.w) X.A (f (.int i t) (.int j u)) Q E s) :
    OpR X f (rI C fun i j => .int (g i j)) := by
  intro pins s σ H x y v u Q I rx ry h
  obtain ⟨i, j, rfl, rfl, hc, q⟩ := h
  obtain ⟨t, rfl⟩ := rx
  obtain ⟨t', rfl⟩ := ry
  exact rule i j t t' s _ _ hc ⟨.int (g i j), H, I.tok _, ⟨_, rfl⟩, q⟩
theorem opI0 {f : Value → Value → Sem Value} {g : Int → Int → Int}
    (rule : ∀ (i j : Int) (t u : Tok) (s : Shared) (Q : Value → Shared → Prop) (E : Value → Shared → Prop), Q (.int (g i j) s.toks) { s with toks := s.toks + 1 } → wpAny (model X.prog X.w) X.A (f (.int i t) (.int j u)) Q E s) :
    OpR X f (rI0 fun i j => .int (g i j)) := by
  intro pins s σ H x y v u Q I rx ry h
  obtain ⟨i, j, rfl, rfl, q⟩ := h
  obtain ⟨t, rfl⟩ := rx
  obtain ⟨t', rfl⟩ := ry
  exact rule i j t t' s _ _ ⟨.int (g i j), H, I.tok _, ⟨_, rfl⟩, q⟩
theorem opB0 {f : Value → Value → Sem Value} {g : Int → Int → Bool}
    (rule : ∀ (i j : Int) (t u : Tok) (s : Shared) (Q : Value → Shared → Prop) (E : Value → Shared → Prop), Q (.bool (g i j)) s → wpAny (model X.prog X.w) X.A (f (.int i t) (.int j u)) Q E s) :
    OpR X f (rI0 fun i j => .bl (g i j)) := by
  intro pins s σ H x y v u Q I rx ry h
  obtain ⟨i, j, rfl, rfl, q⟩ := h
  obtain ⟨t, rfl⟩ := rx
  obtain ⟨t', rfl⟩ := ry
  exact rule i j t t' s _ _ ⟨.bl (g i j), H, I, rfl, q⟩
def CPow (i j : Int) : Prop := 0 ≤ j ∧ j ≤ 1000000 ∧ i.natAbs < 2 ^ 64
def CMul (i j : Int) : Prop := (-(2 ^ 64) < i ∧ i < 2 ^ 64) ∨ (-(2 ^ 64) < j ∧ j < 2 ^ 64)
theorem CMul.ok {i j : Int} (h : CMul i j) : IntMulOk i j := by
  rcases h with ⟨h1, h2⟩ | ⟨h1, h2⟩
  · exact .of_left (intBits_le_64 h1 h2)
  · exact .of_right (intBits_le_64 h1 h2)
theorem op_add : OpR X (binaryOp .Add) (rI0 fun i j => .int (i + j)) := opI0 fun _ _ _ _ _ _ _ q => add_int q
theorem op_sub : OpR X (binaryOp .Sub) (rI0 fun i j => .int (i - j)) := opI0 fun _ _ _ _ _ _ _ q => sub_int q
theorem op_mod : OpR X (binaryOp .Mod) (rI (fun _ j => 0 < j) fun i j => .int (i % j)) := opI fun i j _ _ _ _ _ hc q => by
  have h1 : (0 : Int) < j := hc
  exact mod_int' (by omega) (by rw [Int.fmod_eq_emod_of_nonneg i (by omega)]; exact q)
theorem op_pow : OpR X (binaryOp .Pow) (rI CPow fun i j => .int (i ^ j.toNat)) := opI fun _ _ _ _ _ _ _ hc q => pow_int_small hc.1 hc.2.1 hc.2.2 q
end
section
variable {X : Cx} {a b c : Expr} {ta tb tc : TE} {pos : Pos}
theorem op_lt : OpR X (compareOp .Lt) (rI0 fun i j => .bl (decide (i < j))) := opB0 fun _ _ _ _ _ _ _ q => lt_int q
theorem OpR.or {f : Value → Value → Sem Value} {r r' : R2} (h : OpR X f r) (h' : OpR X f r') : OpR X f (fun x y H Q => r x y H Q ∨ r' x y H Q) := by
  intro pins s σ H x y v u Q I rx ry q
  rcases q with q | q
  · exact h pins s σ H x y v u Q I rx ry q
  · exact h' pins s σ H x y v u Q I rx ry q
theorem nomark (b : Expr) {op : CmpOp} (h : op ≠ .In := by decide) (h2 : op ≠ .NotIn := by decide) : behindInMarks op b = false := by
  have e1 : (op == CmpOp.In) = false := by cases op <;> first | rfl | exact absurd rfl h
  have e2 : (op == CmpOp.NotIn) = false := by cases op <;> first | rfl | exact absurd rfl h2
  cases b <;> simp [behindInMarks, e1, e2]
theorem pe_cmpR {op : CmpOp} {r : R2} (ho : OpR X (compareOp op) r) (ha : PE X a ta) (hb : PE X b tb) (hm : behindInMarks op b = false) : PE X (.Compare a [op] [b] pos) (tOp r ta tb) := by
  intro pins s σ H Q I h
  exact wpAny_Compare1 (binT ha hb I h fun v u s2 x y H2 I2 rx ry q => ho pins s2 σ H2 x y v u Q I2 rx ry q) hm
def tTest (t : TE) : TT := fun σ H Q => t σ H fun x H' => ∃ k, x = .bl k ∧ Q k H'
theorem pt_cmpR {op : CmpOp} {r : R2} (ho : OpR X (compareOp op) r) (ha : PE X a ta) (hb : PE X b tb) (hm : behindInMarks op b = false) : PT X (.Compare a [op] [b] pos) (tTest (tOp r ta tb)) := by
  intro pins s σ H Q I h
  refine wpAny_isTrue_Compare1 (thn (ha pins s σ H _ I h) fun v s1 ⟨x, H1, I1, r1, q1⟩ => thn (hb pins s1 σ H1 _ I1 q1) fun u s2 ⟨y, H2, I2, r2, q2⟩ =>
    thn (ho pins s2 σ H2 x y v u _ I2 r1 r2 q2) fun c s3 ⟨z, H3, I3, r3, k, e, q3⟩ => ?_) hm
  subst e
  cases r3
  exact wpAny_truthy_bool ⟨H3, I3, q3⟩
theorem line63 : (sizeLine : Nat) < 2 ^ 63 := by rw [sizeLine_eq]; decide
theorem vals1 {x : V} {us : List Value} (r : Vals [x] us) : ∃ u, us = [u] ∧ RelV x u := by
  cases r with
  | cons r1 r2 => cases r2; exact ⟨_, rfl, r1⟩
theorem vals2 {x y : V} {us : List Value} (r : Vals [x, y] us) : ∃ u w', us = [u, w'] ∧ RelV x u ∧ RelV y w' := by
  cases r with
  | cons r1 r2 =>
    cases r2 with
    | cons r3 r4 => cases r4; exact ⟨_, _, rfl, r1, r3⟩
end
end L2
namespace L2
open PySem PySem.Spec PyProof.Rows
structure ObjM (h : Heap) (x dx C : Addr) (mA : Str → Option Value) : Prop where
  obj : h.get? x = some (PySem.W.instObj C dx)
  ns : h.Ns1 dx mA
  ne : dx ≠ x
theorem lookIn_ns {h : Heap} {dx : Addr} {mA : Str → Option Value} (n : h.Ns1 dx mA) : ∃ od, h.get? dx = some od ∧ ∀ name, PySem.W.lookIn name od = some (mA name) := by
  obtain ⟨o, es, ep, ho, hd, hk, _, hm⟩ := n
  refine ⟨o, ho, fun name => ?_⟩
  have e := hm name
  unfold nsFind findBy at e
  rw [← Array.find?_toList] at e
  unfold PySem.W.lookIn
  rw [hd]
  dsimp only
  split
  · rename_i y q
    rw [q] at e
    exact congrArg some e
  · rename_i q
    rw [q] at e
    have a : es.toList.any (·.refKey) = false := by
      rw [List.any_eq_false]
      intro y hy
      obtain ⟨z, t, hkey⟩ := hk y (Array.mem_toList_iff.mp hy)
      simp [DictEntry.refKey, hkey]
    have a' : ¬ es.toList.any (·.refKey) = true := by rw [a]; exact Bool.false_ne_true
    rw [if_neg a']
    exact congrArg some e
theorem ObjM.look {h : Heap} {x dx C : Addr} {mA : Str → Option Value} (I : ObjM h x dx C mA) : ∃ od, PySem.W.InstAt h x (PySem.W.instObj C dx) C (some od) ∧ ∀ name, PySem.W.lookIn name od = some (mA name) :=
  let ⟨od, ho, hl⟩ := lookIn_ns I.ns
  ⟨od, ⟨I.obj, rfl, rfl, ho⟩, hl⟩
section
variable {prog : Program} {w : World} {A : Around} {E : Value → Shared → Prop} {s : Shared} {K : PySem.W.Frag} {x dx C f : Addr} {mA : Str → Option Value} {name : Str} {v : Value}
end
section
variable {P : Program} {w : World} {H H' : Hp} {h h' : Heap} {a C dx : Addr} {fs fs' : List (Str × V)}
theorem ins_get (hok : HOk P w H h) (e : H a = some (.ins C dx fs)) : ∃ mA, ObjM h a dx C mA ∧ (∀ f, RelO (fs.lookup f) (mA f)) ∧ PySem.Within mA (fs.map (·.1)) ∧ fs.length ≤ 1000 ∧ H dx = some (.own a) := by
  obtain ⟨d, z, ne, ob, mA, n, r, q⟩ := (show ObjOk P w H h a (.ins C dx fs) from hok a _ e)
  exact ⟨mA, ⟨ob, n, ne⟩, r, q, z, d⟩
end
structure Cls (K : PySem.W.Frag) (C : Addr) : Prop where
  pg : PySem.W.plainGet K C Str.empty = true
  hd : PySem.W.hasDictIn K C = true
  po : PySem.W.plainOver K C = true
  sa : PySem.W.findIn K (.ref C) "__setattr__" = some (some (.builtin "object.__setattr__"))
theorem Cls.get {K : PySem.W.Frag} {C : Addr} (c : Cls K C) (f : Str) : PySem.W.plainGet K C f = true := c.pg
section
variable {X : Cx} {pins : List (Addr × Obj)} {σ : St} {H : Hp} {s : Shared} {a C dx : Addr} {fs : List (Str × V)} {f : Str} {v : V} {A : Around} {E : Value → Shared → Prop}
end
section
variable {X : Cx} {o e value : Expr} {f : Str} {pos pos' tpos : Pos} {ta tv : TE}
end
section
variable {X : Cx} {pins : List (Addr × Obj)} {σ : St} {H : Hp} {s : Shared} {A : Around} {E : Value → Shared → Prop} {Q : Value → Shared → Prop} {c : Value} {b : Bool}
inductive TyOf (K : PySem.W.Frag) (H : Hp) : V → Value → Prop where
  | non : TyOf K H .non (.type "NoneType")
  | bl (x : Bool) : TyOf K H (.bl x) (.type "bool")
  | int (i : Int) : TyOf K H (.int i) (.type "int")
  | str (x : Str) : TyOf K H (.str x) (.type "str")
  | flt (x : UInt64) : TyOf K H (.flt x) (.type "float")
  | lst {a : Addr} {xs : List V} (e : H a = some (.lst xs)) : TyOf K H (.ref a) (.type "list")
  | frz {a : Addr} {o : Obj} {xs : List V} (e : H a = some (.frz o (.lst xs))) : TyOf K H (.ref a) (.type "list")
  | tup {a : Addr} {xs : List V} (e : H a = some (.tup xs)) : TyOf K H (.ref a) (.type "tuple")
  | dK {a : Addr} {kvs : List (Key × V)} (e : H a = some (.dK kvs)) : TyOf K H (.ref a) (.type "dict")
  | dT {a : Addr} {kvs : List (List Key × V)} (e : H a = some (.dT kvs)) : TyOf K H (.ref a) (.type "dict")
  | ins {a C dx : Addr} {fs : List (Str × V)} (e : H a = some (.ins C dx fs)) (cl : Cls K C) (ha : PySem.W.findIn K (.ref C) "__class__" = some (some (.builtin "object.__class__")))
      (hn : PySem.W.specialIn K (.builtin "object.__class__") "__get__" = some (some (.builtin "getset_descriptor.__get__"))) (htk : PySem.W.takesIn K (.builtin "object.__class__") = some true)
      (hm : PySem.W.mroIn K C (.type "object") = some true) : TyOf K H (.ref a) (.ref C)
theorem isinst_ok {x : V} {u t : Value} (I : Inv X pins σ H s) (rx : RelV x u) (ty : TyOf X.K H x t) (e : PySem.W.kitOne X.K t c = some b) (h : ∀ tk, Q (.bool b) { s with toks := tk }) :
    wpAny (model X.prog X.w) A (call (.builtin "isinstance") [u, c]) Q E s := by
  cases ty with
  | non => cases (show u = Value.none from rx); exact PySem.W.kia_one PySem.W.kitx_none I.kIn True.intro e (fun z => nomatch z) h
  | bl y => cases (show u = Value.bool y from rx); exact PySem.W.kia_one PySem.W.kitx_bool I.kIn True.intro e (fun z => nomatch z) h
  | int i => obtain ⟨t, q⟩ := (show ∃ t, u = Value.int i t from rx); cases q; exact PySem.W.kia_one PySem.W.kitx_int I.kIn True.intro e (fun z => nomatch z) h
  | str y => obtain ⟨t, q⟩ := (show ∃ t, u = Value.str y t from rx); cases q; exact PySem.W.kia_one PySem.W.kitx_str I.kIn True.intro e (fun z => nomatch z) h
  | flt y => obtain ⟨t, q⟩ := (show ∃ t, u = Value.float y t from rx); cases q; exact PySem.W.kia_one PySem.W.kitx_float I.kIn True.intro e (fun z => nomatch z) h
  | @lst a xs ea =>
    cases (show u = Value.ref a from rx)
    obtain ⟨_, _, n, _, h1⟩ := (show ObjOk X.prog X.w H s.heap a (.lst xs) from I.hok a _ ea)
    exact PySem.W.kia_one PySem.W.kitx_list I.kIn ⟨_, h1, rfl⟩ e (fun z => nomatch z) h
  | @frz a ob xs ea =>
    cases (show u = Value.ref a from rx)
    obtain ⟨_, _, _, n, _, h1⟩ := (show ObjOk X.prog X.w H s.heap a (.frz ob (.lst xs)) from I.hok a _ ea)
    exact PySem.W.kia_one PySem.W.kitx_list I.kIn ⟨_, h1, rfl⟩ e (fun z => nomatch z) h
  | @tup a xs ea =>
    cases (show u = Value.ref a from rx)
    obtain ⟨_, _, _, p⟩ := (show ObjOk X.prog X.w H s.heap a (.tup xs) from I.hok a _ ea)
    obtain ⟨o, h1, h2, _⟩ := p
    exact PySem.W.kia_one PySem.W.kitx_tuple I.kIn ⟨o, h1, h2⟩ e (fun z => nomatch z) h
  | @dK a kvs ea =>
    cases (show u = Value.ref a from rx)
    obtain ⟨_, _, vs, _, p⟩ := (show ObjOk X.prog X.w H s.heap a (.dK kvs) from I.hok a _ ea)
    obtain ⟨o, es, ep, h1, h2, _⟩ := p
    exact PySem.W.kia_one PySem.W.kitx_dict I.kIn ⟨o, h1, h2.1⟩ e (fun z => nomatch z) h
  | @dT a kvs ea =>
    cases (show u = Value.ref a from rx)
    obtain ⟨_, _, xs, _, o, es, ep, h1, h2, _⟩ := (show ObjOk X.prog X.w H s.heap a (.dT kvs) from I.hok a _ ea)
    exact PySem.W.kia_one PySem.W.kitx_dict I.kIn ⟨o, h1, h2.1⟩ e (fun z => nomatch z) h
  | @ins a C dx fs ea cl ha hn htk hm =>
    cases (show u = Value.ref a from rx)
    obtain ⟨mA, O, _⟩ := ins_get I.hok ea
    obtain ⟨od, J, _⟩ := O.look
    exact PySem.W.kia_one (PySem.W.kitx_own (cl.get _) cl.hd ha hn htk hm) I.kIn J e (fun z => nomatch z) h
end
end L2
namespace L2
open PySem PySem.Spec PyProof.Rows
structure Room (k : Nat) (A : Around) : Prop where
  hd : A.handled = none
  dp : A.depth + 3 * k + 5 < recursionLimit
  un : A.units + 16 * k + 200 < cLine
theorem Room.mono {j k : Nat} {A : Around} (r : Room k A) (h : j ≤ k) : Room j A := ⟨r.hd, by have := r.dp; omega, by have := r.un; omega⟩
theorem Room.deeper {k : Nat} {A : Around} (r : Room (k + 1) A) (env : Env) : Room k (A.deeper env) :=
  ⟨r.hd, by have := r.dp; show A.depth + 1 + 3 * k + 5 < _; omega, by have := r.un; show A.units + 3 + 16 * k + 200 < _; omega⟩
theorem Room.in1 {k : Nat} {A : Around} (r : Room (k + 1) A) : Room k A.in1 :=
  ⟨r.hd, by have := r.dp; show A.depth + 3 * k + 5 < _; omega, by have := r.un; show A.units + 1 + 16 * k + 200 < _; omega⟩
theorem Room.depth {k : Nat} {A : Around} (r : Room k A) : A.depth < recursionLimit := by have := r.dp; omega
theorem Room.units {k : Nat} {A : Around} (r : Room k A) : A.units + 64 < cLine := by have := r.un; omega
def tNil : TA := fun _ H Q => Q [] H
def tCons (ta : TE) (tr : TA) : TA := fun σ H Q => ta σ H fun x H1 => tr σ H1 fun xs H2 => Q (x :: xs) H2
section
variable {X : Cx} {e : Expr} {es : List Expr} {te : TE} {t : TA} {pos : Pos}
theorem pa_nil : PA X [] tNil := fun _ _ _ _ H Q I h => Calls.spliced_nil ⟨[], H, I, .nil, h⟩
theorem pa_cons (ha : PE X e te) (hr : PA X es t) (hs : starEach (e :: es) X.env = (false, eval e X.env) :: starEach es X.env := by rfl) : PA X (e :: es) (tCons te t) := by
  intro pos pins s σ H Q I h
  rw [hs]
  show wpAny _ _ (spliced ((false, eval e X.env) :: backTo pos (starEach es X.env))) _ _ s
  refine Calls.spliced_cons (thn (ha pins s σ H _ I h) fun u s1 ⟨x, H1, I1, r1, q1⟩ => ?_)
  exact thn (hr pos pins s1 σ H1 _ I1 q1) fun us s2 ⟨xs, H2, I2, r2, q2⟩ => ⟨x :: xs, H2, I2, .cons r1 r2, q2⟩
def tTup (t : TA) : TE := fun σ H Q => t σ H fun xs H1 => xs.length ≤ sizeLine ∧ ∀ p, H1 p = none → Q (.ref p) (upd H1 p (.tup xs))
def tLst (t : TA) : TE := fun σ H Q => t σ H fun xs H1 => xs.length ≤ sizeLine ∧ ∀ p, H1 p = none → Q (.ref p) (upd H1 p (.lst xs))
theorem pe_tup {x1} (h : PA X es t) : PE X (.Tuple es x1 pos) (tTup t) := by
  intro pins s σ H Q I hq
  refine wpAny_Tuple_spliced (thn (h pos pins s σ H _ I hq) fun us s1 ⟨xs, H1, I1, r, z, q⟩ => ⟨by rw [← r.length]; exact z, ?_⟩)
  have hf : H1 s1.heap.objs.size = none := I1.hok.fresh (Nat.le_refl _)
  refine ⟨.ref s1.heap.objs.size, upd H1 s1.heap.objs.size (.tup xs), I1.laid (t' := s1.toks) (fun b u e => Heap.get?_push_of_some _ e) (Nat.le_refl _) ?_, rfl, q _ hf⟩
  exact ⟨z, us, r, ⟨_, Heap.get?_push_size _ rfl, rfl, _, rfl⟩⟩
theorem pe_lst (h : PA X es t) : PE X (.List es pos) (tLst t) := by
  intro pins s σ H Q I hq
  refine wpAny_List_spliced (thn (h pos pins s σ H _ I hq) fun us s1 ⟨xs, H1, I1, r, z, q⟩ => ⟨by rw [← r.length]; exact z, ?_⟩)
  have hf : H1 s1.heap.objs.size = none := I1.hok.fresh (Nat.le_refl _)
  refine ⟨.ref s1.heap.objs.size, upd H1 s1.heap.objs.size (.lst xs), I1.laid (t' := s1.toks) (fun b u e => Heap.get?_push_of_some _ e) (Nat.le_refl _) ?_, rfl, q _ hf⟩
  exact ⟨z, us, 0, r, Heap.get?_push_size _ rfl⟩
end
abbrev Sp := List V → Hp → VK → XK → Prop
abbrev CXT := List Env → Hp → Shared → XK → Value → Shared → Prop
structure Env0 (P : Program) (w : World) (K : PySem.W.Frag) (mg : Str → Option Value) (base : Heap) (A : Around) (outer : List Env) (s : Shared) (H : Hp) : Prop where
  frames : A.frames = some outer
  mod : Mod K mg base
  bs : ∀ b o, base.get? b = some o → s.heap.get? b = some o ∧ H b = none
  bsz : base.objs.size ≤ s.heap.objs.size
  funs : s.heap.FunFrames base outer
  frf : ∀ b ∈ frs outer, H b = none
  hok : HOk P w H s.heap
  bare : AllBare s.gens
def CE (outer : List Env) (P : Program) (w : World) (H : Hp) (s : Shared) (Q : VK) (u : Value) (s' : Shared) : Prop :=
  ∃ v H', s'.os = s.os ∧ AllBare s'.gens ∧ Un (frs outer) [] H H' s.heap s'.heap ∧ HOk P w H' s'.heap ∧ RelV v u ∧ Q v H'
def CR (CX : CXT) (outer : List Env) (P : Program) (w : World) (H : Hp) (s : Shared) (Q : VK) (E : XK) (r : Result) (s' : Shared) : Prop :=
  match r with
  | .ok (.ret u) => CE outer P w H s Q u s'
  | .ok _ => False
  | .error e => CX outer H s E e s'
structure FnOk (P : Program) (w : World) (K : PySem.W.Frag) (mg : Str → Option Value) (base : Heap) (CX : CXT) (k : Nat) (f : Addr) (fd : FuncData) (ps : List Str) (sp : Sp) : Prop where
  len : ∀ vs H Q E, sp vs H Q E → vs.length = ps.length
  run : ∀ (A : Around) (outer : List Env) (s : Shared) (H : Hp) (args : Args) (us : List Value) (vs : List V) (Q : VK) (E : XK), Room k A → Env0 P w K mg base A outer s H → BindsTo s fd args (ps.zip us) → Vals vs us → sp vs H Q E →
    codeAny (model P w) A (.call (.ref f) args) (CR CX outer P w H s Q E) s
theorem FnOk.mono {P : Program} {w : World} {K : PySem.W.Frag} {mg : Str → Option Value} {base : Heap} {CX : CXT} {j k : Nat} {f : Addr} {fd : FuncData} {ps : List Str} {sp : Sp} (F : FnOk P w K mg base CX j f fd ps sp) (h : j ≤ k) :
    FnOk P w K mg base CX k f fd ps sp := ⟨F.len, fun A outer s H args us vs Q E hr => F.run A outer s H args us vs Q E (hr.mono h)⟩
theorem FnOk.imp {P : Program} {w : World} {K : PySem.W.Frag} {mg : Str → Option Value} {base : Heap} {CX : CXT} {k : Nat} {f : Addr} {fd : FuncData} {ps : List Str} {sp sp' : Sp} (F : FnOk P w K mg base CX k f fd ps sp)
    (h : ∀ vs H Q E, sp' vs H Q E → sp vs H Q E) : FnOk P w K mg base CX k f fd ps sp' :=
  ⟨fun vs H Q E q => F.len vs H Q E (h _ _ _ _ q), fun A outer s H args us vs Q E hr he hb hv hs => F.run A outer s H args us vs Q E hr he hb hv (h _ _ _ _ hs)⟩
theorem Env0.in1 {P : Program} {w : World} {K : PySem.W.Frag} {mg : Str → Option Value} {base : Heap} {A : Around} {outer : List Env} {s : Shared} {H : Hp} (e : Env0 P w K mg base A outer s H) :
    Env0 P w K mg base A.in1 outer s H := ⟨e.frames, e.mod, e.bs, e.bsz, e.funs, e.frf, e.hok, e.bare⟩
section
variable {X : Cx} {pins : List (Addr × Obj)} {σ : St} {H : Hp} {s s' : Shared}
theorem Inv.env0 (I : Inv X pins σ H s) : Env0 X.prog X.w X.K X.mg X.base X.A X.stack s H :=
  ⟨I.ok.frames, I.ok.mod, I.bs, Nat.le_trans I.ok.bsz I.sz, I.stack, I.stkFree, I.hok, I.bare⟩
theorem Inv.after {Q : VK} {u : Value} (I : Inv X pins σ H s) (h : CE X.stack X.prog X.w H s Q u s') : EP X pins σ Q u s' := by
  obtain ⟨v, H', os, bare, un, hok, r, q⟩ := h
  obtain ⟨hh, g, d, t, os'⟩ := s'
  obtain rfl : os' = s.os := os
  exact ⟨v, H', I.call (h' := hh) (g' := g) (d' := d) (t' := t) (ch := []) un hok bare (fun b z => absurd z (by simp)), r, q⟩
end
def Binds (K : PySem.W.Frag) (fd : FuncData) (ps : List Str) (ds : List Value) : Prop :=
  ∀ (s : Shared) (us : List Value), K.In s.heap → (us ++ ds).length = ps.length → BindsTo s fd ⟨us, []⟩ (ps.zip (us ++ ds))
theorem Binds.all {K : PySem.W.Frag} {fd : FuncData} {ps : List Str} (h : ∀ us : List Value, us.length = ps.length → bindArgs fd ⟨us, []⟩ = pure (ps.zip us)) : Binds K fd ps [] := fun s us _ hl => by
  rw [List.append_nil] at hl ⊢
  exact .of_eq (h us hl)
section
variable {X : Cx} {CX : CXT} {k : Nat} {f C : Addr} {fd : FuncData} {ps : List Str} {sp : Sp} {dvs : List V} {ds : List Value} {E : XK} {x m : Str} {p pos apos : Pos} {e o : Expr} {es : List Expr} {ta : TE} {t : TA}
end
section
variable {X : Cx} {CX : CXT} {k : Nat} {f C : Addr} {fd : FuncData} {ps ks : List Str} {sp : Sp} {E : XK} {x m : Str} {p pos apos kpos : Pos} {e o : Expr} {es : List Expr} {kws : List Keyword} {te ta : TE} {t tk : TA} {nm : Option Str}
variable {g : List Value → List Value → List Value} {gV : List V → List V → List V}
end
structure FnScope (N P : List Str) (sc : Scope) : Prop where
  kind : sc.kind = .function
  co : sc.isCoroutine = false
  gen : sc.isGenerator = false
  nd : N.Nodup
  pre : N.take P.length = P
  par : ∀ x ∈ P, sc.names.lookup x = some .local ∨ sc.names.lookup x = some .cell
  nofree : ∀ y ∈ sc.names, y.2 ≠ .free
theorem bindL_out {kindOf : Str → Option NameKind} {x : Str} : ∀ {binds : List (Str × Value)} {m : Str → Option Value}, (∀ v, (x, v) ∉ binds) → bindL kindOf binds m x = m x
  | [], _, _ => rfl
  | (n, v) :: r, m, h => by
    unfold bindL
    rw [bindL_out fun w hw => h w (List.mem_cons_of_mem _ hw)]
    split
    · have : x ≠ n := by rintro rfl; exact h v List.mem_cons_self
      simp [this]
    · rfl
theorem bindC_out {kindOf : Str → Option NameKind} {x : Str} : ∀ {binds : List (Str × Value)} {m : Str → Option Value}, (∀ v, (x, v) ∉ binds) → bindC kindOf binds m x = m x
  | [], _, _ => rfl
  | (n, v) :: r, m, h => by
    unfold bindC
    rw [bindC_out fun w hw => h w (List.mem_cons_of_mem _ hw)]
    split
    · rfl
    · have : x ≠ n := by rintro rfl; exact h v List.mem_cons_self
      simp [this]
theorem bindL_get {kindOf : Str → Option NameKind} {x : Str} {v : Value} : ∀ {P : List Str} {vs : List Value} {i : Nat} {m : Str → Option Value}, P.Nodup → P[i]? = some x → vs[i]? = some v → kindOf x = some .local →
    bindL kindOf (P.zip vs) m x = some v
  | [], _, _, _, _, h, _, _ => by simp at h
  | _ :: _, [], _, _, _, _, h, _ => by simp at h
  | p :: P, w :: vs, 0, m, nd, h1, h2, hk => by
    simp at h1 h2; subst h1; subst h2
    show bindL kindOf ((p, w) :: P.zip vs) m p = _
    unfold bindL
    rw [bindL_out fun v hv => (List.nodup_cons.mp nd).1 (List.of_mem_zip hv).1, if_pos hk]
    simp
  | p :: P, w :: vs, i + 1, m, nd, h1, h2, hk => by
    show bindL kindOf ((p, w) :: P.zip vs) m x = _
    unfold bindL
    exact bindL_get (i := i) (List.nodup_cons.mp nd).2 (by simpa using h1) (by simpa using h2) hk
theorem bindC_get {kindOf : Str → Option NameKind} {x : Str} {v : Value} : ∀ {P : List Str} {vs : List Value} {i : Nat} {m : Str → Option Value}, P.Nodup → P[i]? = some x → vs[i]? = some v → kindOf x ≠ some .local →
    bindC kindOf (P.zip vs) m x = some v
  | [], _, _, _, _, h, _, _ => by simp at h
  | _ :: _, [], _, _, _, _, h, _ => by simp at h
  | p :: P, w :: vs, 0, m, nd, h1, h2, hk => by
    simp at h1 h2; subst h1; subst h2
    show bindC kindOf ((p, w) :: P.zip vs) m p = _
    unfold bindC
    rw [bindC_out fun v hv => (List.nodup_cons.mp nd).1 (List.of_mem_zip hv).1, if_neg hk]
    simp
  | p :: P, w :: vs, i + 1, m, nd, h1, h2, hk => by
    show bindC kindOf ((p, w) :: P.zip vs) m x = _
    unfold bindC
    exact bindC_get (i := i) (List.nodup_cons.mp nd).2 (by simpa using h1) (by simpa using h2) hk
def start (N : List Str) (vs : List V) : St := vs.map some ++ List.replicate (N.length - vs.length) none
def cxOf (CX : CXT) (P : Program) (w : World) (K : PySem.W.Frag) (mg : Str → Option Value) (base : Heap) (N : List Str) (qual : Str) (scope : Scope) (f : Addr) (cd : Value) (A : Around) (outer : List Env) (s : Shared) (H : Hp) (E : XK) : Cx where
  prog := P
  w := w
  K := K
  mg := mg
  base := base
  A := A.deeper (envOfC qual scope s.heap.objs.size f cd)
  N := N
  s₀ := s
  H₀ := H
  env := envOfC qual scope s.heap.objs.size f cd
  outer := outer
  stack := envOfC qual scope s.heap.objs.size f cd :: outer
  ex := []
  calm := true
  fn := fun _ => true
  pn := []
  xe := fun e s' => wpAny (model P w) (A.deeper (envOfC qual scope s.heap.objs.size f cd)) (leaving (envOfC qual scope s.heap.objs.size f cd) e) (fun _ s'' => CX outer H s E e s'') (fun e' s'' => CX outer H s E e' s'') s'
theorem cell_has {sc : Scope} {n : Nat} {x : Str} (h : sc.names.lookup x = some .cell) : ∃ c, (cellsFrom n sc.names []).lookup x = some c := by
  have q := PySem.W.cellsFrom_some sc.names n [] (.inl h)
  exact Option.isSome_iff_exists.mp q
theorem inv_start {CX : CXT} {P : Program} {w : World} {K : PySem.W.Frag} {mg : Str → Option Value} {base : Heap} {N ps : List Str} {qual : Str} {scope : Scope} {f : Addr} {cd : Value} {A : Around} {outer : List Env} {s s1 : Shared} {H : Hp} {E : XK} {us : List Value} {vs : List V}
    (S : FnScope N ps scope) (hd : A.handled = none) (e0 : Env0 P w K mg base A outer s H) (hl : vs.length = ps.length) (r : Vals vs us)
    (x : InCallC s s.heap.objs.size (bindL (envOfC qual scope s.heap.objs.size f cd).kindOf (ps.zip us) fun _ => none) (cellsFrom (s.heap.objs.size + 1) scope.names []) (bindC (envOfC qual scope s.heap.objs.size f cd).kindOf (ps.zip us) fun _ => none) s1) :
    Inv (cxOf CX P w K mg base N qual scope f cd A outer s H E) [] (start N vs) H s1 := by
  have hpl : ps.length ≤ N.length := by have := congrArg List.length S.pre; rw [List.length_take] at this; omega
  obtain ⟨h1, tk, rfl, hk⟩ := x.done
  have noA : ∀ b : Addr, b ∉ (cxOf CX P w K mg base N qual scope f cd A outer s H E).ex := fun b z => absurd (show b ∈ ([] : List Addr) from z) (by simp)
  refine ⟨⟨e0.mod, S.kind, rfl, rfl, Nat.le_refl _, fun y z c h1 h2 => ?_, fun y hy => ?_, fun y c _ h => ?_, fun _ => hd, Around.frames_deeper e0.frames, .inr ⟨rfl, rfl⟩, fun b z => absurd z (noA b), e0.bs, e0.bsz, fun b _ _ => noA b, fun b z => absurd z (noA b), e0.funs, e0.frf⟩,
    rfl, e0.bare, Un.kept hk, ⟨_, x.toInCall.ns, fun i y v h1 h2 h3 => ?_⟩, fun y c h => ⟨_, x.cell y c h⟩, e0.hok.fresh (Nat.le_refl _), fun y c h => ?_, fun p hp => absurd (show p ∈ ([] : List (Addr × Obj)) from hp) (by simp), e0.hok.kept hk, ?_⟩
  · exact name_of_addr x.apart (PySem.mem_of_lookup h1) (PySem.mem_of_lookup h2)
  · have hy : scope.names.lookup y = some .cell ∨ scope.names.lookup y = some .free := hy
    rcases hy with hy | hy
    · exact cell_has hy
    · exact absurd rfl (S.nofree _ (PySem.mem_of_lookup hy))
  · exact Nat.le_of_lt (x.above y c (PySem.mem_of_lookup h))
  · have hi : i < vs.length := by
      unfold start at h2
      by_cases hi : i < vs.length
      · exact hi
      · rw [List.getElem?_append_right (by simpa using hi)] at h2
        rw [List.getElem?_replicate] at h2
        split at h2 <;> cases h2
    have ha : vs[i]? = some v := by
      unfold start at h2
      rw [List.getElem?_append_left (by simpa using hi), List.getElem?_map] at h2
      cases e : vs[i]? with
      | none => rw [e] at h2; cases h2
      | some a => rw [e] at h2; cases h2; rfl
    obtain ⟨u, hu, rv⟩ := r.get ha
    have hp : ps[i]? = some y := by
      rw [← S.pre, List.getElem?_take_of_lt (by omega)]; exact h1
    have ndP : ps.Nodup := by rw [← S.pre]; exact S.nd.sublist (List.take_sublist _ _)
    refine ⟨u, rv, ?_⟩
    rcases S.par y (List.mem_of_getElem? hp) with k | k
    · exact .inl ⟨k, bindL_get ndP hp hu k⟩
    · obtain ⟨c, e⟩ := cell_has (n := s.heap.objs.size + 1) k
      refine .inr ⟨.inl k, c, e, ?_⟩
      have q := x.cell y c e
      rw [bindC_get ndP hp hu (by show scope.names.lookup y ≠ _; rw [k]; decide)] at q
      exact q
  · exact e0.hok.fresh (Nat.le_of_lt (x.above y c (PySem.mem_of_lookup h)))
  · unfold start
    show _ = N.length
    rw [List.length_append, List.length_map, List.length_replicate]
    omega
theorem fn_of {CX : CXT} {P : Program} {w : World} {K : PySem.W.Frag} {mg : Str → Option Value} {base : Heap} {k : Nat} {f : Addr} {name qual : Str} {params : Arguments} {body : List Stmt} {scope : Scope} {dV kV doc pm cdv ct oc : Value} {an od : Option Addr}
    {osl : Array (Option Value)} {N ps : List Str} {sp : Sp} (lk : K.lookup f = some ⟨oc, od, .func (PySem.W.fnOf name qual params body scope dV kV doc pm an cdv ct), osl⟩) (hcd : PySem.W.codeIn K cdv qual = true) (S : FnScope N ps scope)
    (len : ∀ vs H Q E, sp vs H Q E → vs.length = ps.length)
    (hbody : ∀ (A : Around) (outer : List Env) (s : Shared) (H : Hp) (vs : List V) (Q : VK) (E : XK), Room k (A.deeper (envOfC qual scope s.heap.objs.size f cdv)) → sp vs H Q E →
      ∃ t, PSs (cxOf CX P w K mg base N qual scope f cdv A outer s H E) body t ∧ t { nx := fun _ H' => Q .non H', rt := Q } (start N vs) H) :
    FnOk P w K mg base CX (k + 1) f (PySem.W.fnOf name qual params body scope dV kV doc pm an cdv ct) ps sp := by
  refine ⟨len, fun A outer s H args us vs Q E hr e0 hb r hsp => ?_⟩
  have hl := len _ _ _ _ hsp
  have KX : K.In s.heap := e0.mod.kin.keeps fun b o e => (e0.bs b o e).1
  have lim : s.heap.NoLimit := e0.mod.nolimit.keeps fun b o e => (e0.bs b o e).1
  have hkind : ∀ y ∈ ps.zip us, scope.names.lookup y.1 = some .local ∨ (scope.names.lookup y.1 = some .cell ∧ ((cellsFrom (s.heap.objs.size + 1) scope.names []).lookup y.1).isSome = true) := fun ⟨n, v⟩ hy => by
    rcases S.par n (List.of_mem_zip hy).1 with q | q
    · exact .inl q
    · exact .inr ⟨q, PySem.W.cellsFrom_some _ _ _ (.inl q)⟩
  refine codeAny_call_function hr.depth (KX _ _ lk) rfl S.co S.gen rfl (PySem.W.codeRec_of KX hcd) (hb _ _ _ _ ?_)
  refine wpAny_newFunctionEnv_cells S.kind hkind fun env he s1 x => ?_
  subst he
  refine ⟨lim.keeps x.toInCall.keep, codeAny_func ?_⟩
  obtain ⟨t, ht, hq⟩ := hbody A outer s H vs Q E (hr.deeper _) hsp
  have I : Inv (cxOf CX P w K mg base N qual scope f cdv A outer s H E) [] (start N vs) H s1 := inv_start S hr.hd e0 hl r x
  refine wpAny_mono (ht [] s1 (start N vs) H _ I hq) (fun fl s' hs => ?_) fun e s' hs => hs
  have fin : ∀ {σ' : St} {H' : Hp} {v : V} {u : Value}, Inv (cxOf CX P w K mg base N qual scope f cdv A outer s H E) [] σ' H' s' → RelV v u → Q v H' → CE outer P w H s Q u s' :=
    fun {σ' H' v u} J rv q => ⟨v, H', J.os, J.bare, J.base, J.hok, rv, q⟩
  cases fl with
  | ret u =>
    obtain ⟨v, σ', H', J, rv, q⟩ := hs
    exact fin J rv q
  | next =>
    obtain ⟨σ', H', J, q⟩ := hs
    exact fin (v := V.non) (u := Value.none) J rfl q
  | brk =>
    obtain ⟨_, _, _, q⟩ := hs
    exact False.elim q
  | cont =>
    obtain ⟨_, _, _, q⟩ := hs
    exact False.elim q
end L2
namespace L2
open PySem PySem.Spec PyProof.Rows
section
variable {X : Cx} {x : Str} {p pos : Pos} {e : Expr} {es : List Expr} {t : TA} {id T : String} {r : List V → Hp → VK → Prop}
def tCB (r : List V → Hp → VK → Prop) (t : TA) : TE := fun σ H Q => t σ H fun vs H1 => r vs H1 Q
theorem pe_callB (hc : CallR X (.builtin id) r) (hg : Gl X x) (hm : X.mg x = none) (hv : bootBuiltins x = some (.builtin id)) (ha : PA X (e :: es) t) (hn : x ≠ "__name__" := by decide) (hdb : (x == ("__debug__" : Str)) = false := by decide)
    (he : starEach (e :: es) X.env = (false, eval e X.env) :: starEach es X.env := by rfl) (hpl : (backTo pos (starEach es X.env)).any (·.1) = false := by rfl) : PE X (.Call (.Name x p) (e :: es) [] pos) (tCB r t) := by
  intro pins s σ H Q I h
  refine wpAny_Call_Name_kw (ld_blt I hg hm hv ?_ hn hdb)
  exact PyProof.Rows.callWith_builtin1 (thn (ha pos pins s σ H _ I h) fun us s1 ⟨vs, H1, I1, r1, q1⟩ => hc pins s1 σ H1 vs us Q I1 r1 q1) he hpl
theorem pe_callTy (hc : CallR X (.type T) r) (hg : Gl X x) (hm : X.mg x = none) (hv : bootBuiltins x = some (.type T)) (ha : PA X (e :: es) t) (hn : x ≠ "__name__" := by decide) (hdb : (x == ("__debug__" : Str)) = false := by decide)
    (he : starEach (e :: es) X.env = (false, eval e X.env) :: starEach es X.env := by rfl) (hpl : (backTo pos (starEach es X.env)).any (·.1) = false := by rfl) : PE X (.Call (.Name x p) (e :: es) [] pos) (tCB r t) := by
  intro pins s σ H Q I h
  refine wpAny_Call_Name_kw (ld_blt I hg hm hv ?_ hn hdb)
  exact PyProof.Rows.callWith_type1 (thn (ha pos pins s σ H _ I h) fun us s1 ⟨vs, H1, I1, r1, q1⟩ => hc pins s1 σ H1 vs us Q I1 r1 q1) he hpl
end
end L2
namespace HT
open PySem PyProof.Rows
section
open PySem.SeqAt
open PySem.AutoSeq1 (wpAny_loadPart')
open PySem.MeetsSeq PySem.MeetsSeq2 PySem.MeetsSeq3
end
section
variable {prog : Program} {w : World} {A : Around} {E : Value → Shared → Prop} {s : Shared}
end
end HT
namespace L2
open PySem PySem.Spec PyProof.Rows
abbrev TO := St → Hp → (Option Int → Hp → Prop) → Prop
def PO (X : Cx) (e : Option Expr) (t : TO) : Prop :=
  ∀ (pins : List (Addr × Obj)) (s : Shared) (σ : St) (H : Hp) (Q : Option Int → Hp → Prop), Inv X pins σ H s → t σ H Q →
    wpAny (model X.prog X.w) X.A (evalPart e X.env) (fun u s' => ∃ o H', Inv X pins σ H' s' ∧ IsPart u o ∧ Q o H') X.xe s
theorem intsAre_of {ns : List Int} : ∀ {us : List Value}, Vals (ns.map V.int) us → IntsAre us ns := by
  induction ns with
  | nil => intro us r; rw [List.map_nil] at r; cases r; exact .nil
  | cons n ns ih =>
    intro us r
    rw [List.map_cons] at r
    cases r with
    | cons r1 r2 =>
      obtain ⟨t, e⟩ := r1
      subst e
      exact .cons n t (ih r2)
section
variable {X : Cx} {e : Expr} {te : TE} {lo hi : Option Expr} {tl th : TO} {pos p2 : Pos}
def SlR (X : Cx) (r : V → Option Int → Option Int → Hp → VK → Prop) : Prop :=
  ∀ (pins : List (Addr × Obj)) (s : Shared) (σ : St) (H : Hp) (x : V) (v vl vu : Value) (lo hi : Option Int) (sl : Addr) (Q : VK), Inv X pins σ H s → RelV x v → s.heap.IsSliceOf sl vl vu .none → IsPart vl lo → IsPart vu hi → r x lo hi H Q →
    ∃ T id, typeLookup (.type T) "__getitem__" = pure (some (.builtin id)) ∧ s.TypeIs v T ∧ wpAny (model X.prog X.w) X.A (getItem v (.ref sl)) (EP X pins σ Q) X.xe s
theorem SlR.or {r r' : V → Option Int → Option Int → Hp → VK → Prop} (h : SlR X r) (h' : SlR X r') : SlR X (fun x lo hi H Q => r x lo hi H Q ∨ r' x lo hi H Q) := by
  intro pins s σ H x v vl vu lo hi sl Q I rx hs pl pu q
  rcases q with q | q
  · exact h pins s σ H x v vl vu lo hi sl Q I rx hs pl pu q
  · exact h' pins s σ H x v vl vu lo hi sl Q I rx hs pl pu q
end
end L2
namespace L2
open PySem PySem.Spec PyProof.Rows
def ixN (n : Nat) (i : Int) : Option Nat := if 0 ≤ i then (if i < n then some i.toNat else none) else if -(n : Int) ≤ i then some (i + n).toNat else none
def atI {α : Type} (xs : List α) (i : Int) : Option α := (ixN xs.length i).bind fun j => xs[j]?
theorem ixN_seq {n : Nat} {i : Int} {j : Nat} (h : ixN n i = some j) : seqIndex? i n = some j ∧ j < n ∧ -(n : Int) ≤ i ∧ i < n := by
  unfold ixN at h
  by_cases h0 : 0 ≤ i
  · rw [if_pos h0] at h
    by_cases h1 : i < n
    · rw [if_pos h1] at h
      have e : i.toNat = j := Option.some.inj h
      exact ⟨by rw [seqIndex_of h0 h1, e], by omega, by omega, h1⟩
    · rw [if_neg h1] at h; cases h
  · rw [if_neg h0] at h
    by_cases h1 : -(n : Int) ≤ i
    · rw [if_pos h1] at h
      have e : (i + n).toNat = j := Option.some.inj h
      exact ⟨by rw [seqIndex_neg (by omega) h1, e], by omega, h1, by omega⟩
    · rw [if_neg h1] at h; cases h
theorem atI_get {α : Type} {xs : List α} {i : Int} {v : α} (h : atI xs i = some v) : ∃ j, seqIndex? i xs.length = some j ∧ xs[j]? = some v ∧ j < xs.length ∧ -(xs.length : Int) ≤ i ∧ i < xs.length := by
  unfold atI at h
  cases e : ixN xs.length i with
  | none => rw [e] at h; cases h
  | some j =>
    rw [e] at h
    obtain ⟨h1, h2, h3, h4⟩ := ixN_seq e
    exact ⟨j, h1, h, h2, h3, h4⟩
theorem atI_nat {α : Type} {xs : List α} {j : Nat} {v : α} (h : xs[j]? = some v) : atI xs (j : Int) = some v := by
  have hj : j < xs.length := (List.getElem?_eq_some_iff.mp h).1
  have e : ixN xs.length (j : Int) = some j := by
    unfold ixN
    rw [if_pos (by omega), if_pos (by omega)]; simp
  unfold atI; rw [e]; exact h
def PlainIx (b : Expr) : Prop := ∀ o i, subscripted b false o i = operate [o, i] (getItem o i)
def IxR (X : Cx) (r : R2) : Prop :=
  ∀ (value slice : Expr) (pins : List (Addr × Obj)) (s : Shared) (σ : St) (H : Hp) (x y : V) (v u : Value) (Q : VK), Inv X pins σ H s → RelV x v → RelV y u → r x y H Q →
    subscripted slice false v u = operate [v, u] (getItem v u) → wpAny (model X.prog X.w) X.A (subscriptTail value slice v u) (EP X pins σ Q) X.xe s
def MtR (X : Cx) (id : String) (r : V → List V → Hp → VK → Prop) : Prop :=
  ∀ (pins : List (Addr × Obj)) (s : Shared) (σ : St) (H : Hp) (x : V) (xs : List V) (v : Value) (us : List Value) (Q : VK), Inv X pins σ H s → RelV x v → Vals xs us → r x xs H Q →
    wpAny (model X.prog X.w) X.A (call (.builtin id) (v :: us)) (EP X pins σ Q) X.xe s
section
variable {X : Cx} {a b : Expr} {ta tb : TE} {pos : Pos}
theorem IxR.or {r r' : R2} (h : IxR X r) (h' : IxR X r') : IxR X (fun x y H Q => r x y H Q ∨ r' x y H Q) := by
  intro value slice pins s σ H x y v u Q I rx ry q hs
  rcases q with q | q
  · exact h value slice pins s σ H x y v u Q I rx ry q hs
  · exact h' value slice pins s σ H x y v u Q I rx ry q hs
theorem MtR.or {id : String} {r r' : V → List V → Hp → VK → Prop} (h : MtR X id r) (h' : MtR X id r') : MtR X id (fun x xs H Q => r x xs H Q ∨ r' x xs H Q) := by
  intro pins s σ H x xs v us Q I rx rs q
  rcases q with q | q
  · exact h pins s σ H x xs v us Q I rx rs q
  · exact h' pins s σ H x xs v us Q I rx rs q
theorem pe_ix {r : R2} (hr : IxR X r) (ha : PE X a ta) (hb : PE X b tb) (hs : PlainIx b) : PE X (.Subscript a b pos) (tOp r ta tb) := by
  intro pins s σ H Q I h
  exact Subscript_ (binT ha hb I h fun v u s2 x y H2 I2 rx ry q => hr a b pins s2 σ H2 x y v u Q I2 rx ry q (hs _ _))
def rIxL (K : PySem.W.Frag) : R2 := fun x y H Q => ∃ p xs i v, x = .ref p ∧ y = .int i ∧ SqL K H p xs ∧ atI xs i = some v ∧ Q v H
def rIxT (K : PySem.W.Frag) : R2 := fun x y H Q => ∃ p xs i v, x = .ref p ∧ y = .int i ∧ SqT K H p xs ∧ atI xs i = some v ∧ Q v H
def rIxS : R2 := fun x y H Q => ∃ z i c, x = .str z ∧ y = .int i ∧ z.length ≤ sizeLine ∧ atI z.cps.toList i = some c ∧ Q (.str ⟨#[c]⟩) H
theorem ix_list : IxR X (rIxL X.K) := by
  intro value slice pins s σ H x y v u Q I rx ry h hs
  obtain ⟨p, xs, i, z, rfl, rfl, hq, he, q⟩ := h
  cases rx
  obtain ⟨t, rfl⟩ := ry
  obtain ⟨its, r, pl, hz⟩ := I.list hq
  obtain ⟨j, h1, h2, h3, h4, h5⟩ := atI_get he
  obtain ⟨w, ew, rw'⟩ := r.get h2
  have hl := r.length
  have hn := line63
  have fin : EP X pins σ Q w s := ⟨z, H, I, rw', q⟩
  by_cases h0 : 0 ≤ i
  · have hj : i.toNat = j := by
      rw [seqIndex_of h0 h5] at h1
      exact Option.some.inj h1
    exact item_listR pl.isList h0 (by omega) (by rw [hj]; simpa using ew) fin hs
  · have hj : (i + (its.toArray.size : Int)).toNat = j := by
      rw [seqIndex_neg (by omega) h4] at h1
      rw [List.size_toArray, ← hl]
      exact Option.some.inj h1
    exact subscriptTail_builtinR (x := w) pl.isList.typeIs slot_list_getitem.lookup
      (wpAny_getItem_list_neg (Q := fun r s' => r = w ∧ EP X pins σ Q r s') pl.isList (by omega) (by rw [List.size_toArray] <;> omega) (by omega) (by rw [hj]; simpa using ew) ⟨rfl, fin⟩) hs
theorem ix_tup : IxR X (rIxT X.K) := by
  intro value slice pins s σ H x y v u Q I rx ry h hs
  obtain ⟨p, xs, i, z, rfl, rfl, hq, he, q⟩ := h
  cases rx
  obtain ⟨t, rfl⟩ := ry
  obtain ⟨its, r, pl, hz⟩ := I.tuple hq
  obtain ⟨j, h1, h2, h3, h4, h5⟩ := atI_get he
  obtain ⟨w, ew, rw'⟩ := r.get h2
  have hl := r.length
  have hn := line63
  have fin : EP X pins σ Q w s := ⟨z, H, I, rw', q⟩
  exact subscriptTail_builtinR (x := w) pl.typeIs slot_tuple_getitem.lookup
    (getItem_tuple (j := j) (Q := fun r s' => r = w ∧ EP X pins σ Q r s') pl (by omega) (by omega) (by rw [List.size_toArray, ← hl]; exact h1) (by simpa using ew) ⟨rfl, fin⟩) hs
theorem ix_str : IxR X rIxS := by
  intro value slice pins s σ H x y v u Q I rx ry h hs
  obtain ⟨z, i, c, rfl, rfl, hz, he, q⟩ := h
  obtain ⟨t, rfl⟩ := rx
  obtain ⟨t', rfl⟩ := ry
  obtain ⟨j, h1, h2, h3, h4, h5⟩ := atI_get he
  have hl : z.cps.toList.length = z.length := by simp [Str.length]
  rw [hl] at h1 h4 h5
  have hn := line63
  exact tail_any (typeIs_str s z t) slot_str_getitem.lookup (getItem_str (c := c) (by
    have e1 : decide (i < -(2 ^ 63 : Int)) = false := decide_eq_false (by omega)
    have e2 : decide (i ≥ 2 ^ 63) = false := decide_eq_false (by omega)
    rw [e1, e2, Bool.or_false]) (by rw [h1]; simpa using h2) ⟨.str ⟨#[c]⟩, H, I.tok _, ⟨_, rfl⟩, q⟩) hs
def rIx (K : PySem.W.Frag) : R2 := fun x y H Q => rIxL K x y H Q ∨ rIxT K x y H Q ∨ rIxS x y H Q
theorem ix_seq : IxR X (rIx X.K) := ix_list.or (ix_tup.or ix_str)
theorem Inv.lst {pins : List (Addr × Obj)} {σ : St} {H : Hp} {s : Shared} {p : Addr} {xs : List V} (I : Inv X pins σ H s) (h : H p = some (.lst xs)) :
    ∃ (its : List Value) (n : Nat), Vals xs its ∧ s.heap.get? p = some { cls := .type "list", data := .seq its.toArray n } ∧ xs.length ≤ sizeLine := by
  obtain ⟨z, its, n, r, e⟩ := I.hok p _ h
  exact ⟨its, n, r, e, z⟩
theorem call_len_seq : CallR X (.builtin "len") (fun xs H Q => ∃ p ys, xs = [.ref p] ∧ (SqL X.K H p ys ∨ SqT X.K H p ys) ∧ Q (.int ys.length) H) := by
  intro pins s σ H xs us Q I r h
  obtain ⟨p, ys, rfl, hq, q⟩ := h
  obtain ⟨u, rfl, rx⟩ := vals1 r
  cases rx
  have hn := line63
  rcases hq with hq | hq
  · obtain ⟨its, r', pl, hz⟩ := I.list hq
    have hlen := r'.length
    exact Calls.call_len_list pl.isList (by simp only [List.size_toArray] <;> omega) ⟨.int ys.length, H, I.tok _, ⟨s.toks + 1, by rw [List.size_toArray, hlen]⟩, q⟩
  · obtain ⟨its, r', pl, hz⟩ := I.tuple hq
    have hlen := r'.length
    exact len_tuple pl (by simp only [List.size_toArray] <;> omega) ⟨.int ys.length, H, I.tok _, ⟨s.toks + 1, by rw [List.size_toArray, hlen]⟩, q⟩
theorem CallR.or {f : Value} {r r' : List V → Hp → VK → Prop} (h : CallR X f r) (h' : CallR X f r') : CallR X f (fun xs H Q => r xs H Q ∨ r' xs H Q) := by
  intro pins s σ H xs us Q I rs q
  rcases q with q | q
  · exact h pins s σ H xs us Q I rs q
  · exact h' pins s σ H xs us Q I rs q
theorem call_list_of : CallR X (.type "list") (fun xs H Q => ∃ p ys, xs = [.ref p] ∧ (SqL X.K H p ys ∨ SqT X.K H p ys) ∧ ∀ l, H l = none → Q (.ref l) (upd H l (.lst ys))) := by
  intro pins s σ H xs us Q I r h
  obtain ⟨p, ys, rfl, hq, q⟩ := h
  obtain ⟨u, rfl, rx⟩ := vals1 r
  cases rx
  have fin : ∀ (its : List Value), Vals ys its → ys.length ≤ sizeLine → ∀ (h' : Heap) (c' : Nat), (∀ b o', s.heap.get? b = some o' → h'.get? b = some o') →
      h'.get? s.heap.objs.size = some { cls := .type "list", dict := none, data := .seq its.toArray c', slots := #[] } → EP X pins σ Q (.ref s.heap.objs.size) { s with heap := h' } := fun its r' hz h' c' kp e =>
    ⟨.ref s.heap.objs.size, _, I.laid (t' := s.toks) kp (Nat.le_refl _) (show ObjOk X.prog X.w _ h' _ (.lst ys) from ⟨hz, its, c', r', e⟩), rfl, q _ (I.hok.fresh (Nat.le_refl _))⟩
  rcases hq with hq | hq
  · obtain ⟨its, r', pl, hz⟩ := I.list hq
    have hlen := r'.length
    obtain ⟨o, ho, hc, n, hd⟩ := pl.isList
    exact call_list_seq p (.inl rfl) ho hc hd (fun h' c' kp e => fin its r' hz h' c' kp e) (by simp only [List.size_toArray] <;> omega)
  · obtain ⟨its, r', pl, hz⟩ := I.tuple hq
    have hlen := r'.length
    obtain ⟨o, ho, hc, n, hd⟩ := pl
    exact call_list_seq p (.inr rfl) ho hc hd (fun h' c' kp e => fin its r' hz h' c' kp e) (by simp only [List.size_toArray] <;> omega)
def tyV (K : PySem.W.Frag) (T : String) (x : V) (H : Hp) : Prop := match x with
  | .str _ => T = "str"
  | .int _ => T = "int"
  | .ref p => (T = "list" ∧ ∃ xs, SqL K H p xs) ∨ (T = "tuple" ∧ ∃ o, K.lookup p = some o ∧ o.cls = .type "tuple" ∧ o.dict = none) ∨
      (T = "dict" ∧ ((∃ kvs, H p = some (.dK kvs)) ∨ ∃ kvs, H p = some (.dT kvs))) ∨ (T = "set" ∧ ∃ S n, H p = some (.set S n))
  | _ => False
theorem tyV_is {pins : List (Addr × Obj)} {σ : St} {H : Hp} {s : Shared} {T : String} {x : V} {v : Value} (I : Inv X pins σ H s) (r : RelV x v) (ty : tyV X.K T x H) :
    s.TypeIs v T ∧ ∀ a, v = .ref a → ∃ ob, s.heap.get? a = some ob ∧ ob.dict = none := by
  cases x with
  | str z =>
    obtain ⟨t, rfl⟩ := r
    cases (show T = "str" from ty)
    exact ⟨typeIs_str s z t, fun _ e => nomatch e⟩
  | int i =>
    obtain ⟨t, rfl⟩ := r
    cases (show T = "int" from ty)
    exact ⟨typeIs_int s i t, fun _ e => nomatch e⟩
  | ref p =>
    cases r
    rcases ty with ⟨rfl, xs, hq⟩ | ⟨rfl, o, hk, hc, hd⟩ | ⟨rfl, hk⟩ | ⟨rfl, S, n, hk⟩
    · obtain ⟨its, _, pl, _⟩ := I.list hq
      refine ⟨pl.isList.typeIs, fun a e => ?_⟩
      cases e
      obtain ⟨o, n, e, c, hd, _⟩ := pl
      exact ⟨o, e, hd⟩
    · refine ⟨⟨o, I.kIn p o hk, hc⟩, fun a e => ?_⟩
      cases e
      exact ⟨o, I.kIn _ o hk, hd⟩
    · have z : ∃ o, s.heap.get? p = some o ∧ o.ExactDict := by
        rcases hk with ⟨kvs, hk⟩ | ⟨kvs, hk⟩
        · obtain ⟨_, _, _, _, o, _, _, e, ex, _⟩ := I.hok p _ hk
          exact ⟨o, e, ex⟩
        · obtain ⟨_, _, _, _, o, _, _, e, ex, _⟩ := I.hok p _ hk
          exact ⟨o, e, ex⟩
      obtain ⟨o, e, ex⟩ := z
      refine ⟨⟨o, e, ex.1⟩, fun a e2 => ?_⟩
      cases e2
      exact ⟨o, e, ex.2.1⟩
    · obtain ⟨o, _, _, _, e, ex, _⟩ := I.hok p _ hk
      refine ⟨⟨o, e, ex.1⟩, fun a e2 => ?_⟩
      cases e2
      exact ⟨o, e, ex.2.1⟩
  | _ => exact False.elim ty
def tBM (K : PySem.W.Frag) (T : String) (r : V → List V → Hp → VK → Prop) (to : TE) (t : TA) : TE := fun σ H Q => to σ H fun x H1 => tyV K T x H1 ∧ t σ H1 fun xs H2 => r x xs H2 Q
variable {o e : Expr} {es : List Expr} {to : TE} {t : TA} {name : Str} {apos cpos : Pos} {T id : String} {r : V → List V → Hp → VK → Prop}
theorem pe_bm (pa : PlainAttrs T) (slot : Slot T name id) (hty : typeOf (.builtin id) = pure (.type "method_descriptor")) (hm : MtR X id r) (ho : PE X o to) (ha : PA X (e :: es) t)
    (hbase : attributeBase o name X.env (eval o X.env) = eval o X.env := by rfl)
    (hfew : ((backTo cpos (starEach (e :: es) X.env)).all (fun x => !x.1) && (backToKw cpos (keywordEach [] X.env)).all (fun x => x.1.isSome)
      && decide ((e :: es).length + ([] : List Keyword).length + (if ([] : List Keyword).isEmpty then 0 else 1) < 30)) = true := by rfl)
    (hline : (apos.endLine == cpos.line) = true := by rfl) (hs : starEach (e :: es) X.env = (false, eval e X.env) :: starEach es X.env := by rfl) (hplain : (backTo cpos (starEach es X.env)).any (·.1) = false := by rfl) :
    PE X (.Call (.Attribute o name apos) (e :: es) [] cpos) (tBM X.K T r to t) := by
  intro pins s σ H Q I h
  refine wpAny_Call_method_late hbase hfew hline rfl (thn (ho pins s σ H _ I h) fun v s1 ⟨x, H1, I1, r1, ty, q1⟩ => ?_)
  obtain ⟨h1, h2⟩ := tyV_is I1 r1 ty
  refine ⟨T, id, pa, slot, hty, h1, h2, ?_⟩
  have hA := ha cpos pins s1 σ H1 _ I1 q1
  rw [hs] at hA ⊢
  refine Calls.callWith_builtin (by show (false || (backTo cpos (starEach es X.env)).any (·.1)) = false; rw [hplain] <;> rfl) (Calls.evalArgs_plain ?_)
  exact thn hA fun us s2 ⟨vs, H2, I2, r2, q2⟩ => hm pins s2 σ H2 x vs v us Q I2 r1 r2 q2
end
end L2
namespace L2
open PySem PySem.Spec PyProof.Rows
def MtM (X : Cx) (id : String) (r : V → List V → Hp → VK → Prop) : Prop :=
  ∀ (pins : List (Addr × Obj)) (s : Shared) (σ : St) (H : Hp) (x : V) (xs : List V) (v : Value) (us : List Value) (Q : VK), Inv X pins σ H s → RelV x v → Vals xs us → r x xs H Q →
    wpAny (model X.prog X.w) X.A (call (.builtin id) (v :: us)) (EP X pins σ Q) X.xe s
theorem Vals.one : ∀ {x : V} {us : List Value}, Vals [x] us → ∃ u, us = [u] ∧ RelV x u
  | _, _, .cons r .nil => ⟨_, rfl, r⟩
theorem Vals.two : ∀ {x y : V} {us : List Value}, Vals [x, y] us → ∃ u v, us = [u, v] ∧ RelV x u ∧ RelV y v
  | _, _, _, .cons r (.cons q .nil) => ⟨_, _, rfl, r, q⟩
theorem Vals.zero : ∀ {us : List Value}, Vals [] us → us = []
  | _, .nil => rfl
theorem Vals.dropLast {xs : List V} {us : List Value} (h : Vals xs us) : Vals xs.dropLast us.dropLast := by
  induction h with
  | nil => exact .nil
  | cons r t ih =>
    cases t with
    | nil => exact .nil
    | cons q t' => exact .cons r ih
theorem Vals.rep {xs : List V} {us : List Value} (h : Vals xs us) : ∀ k : Nat, Vals (List.replicate k xs).flatten (List.replicate k us).flatten
  | 0 => .nil
  | k + 1 => by
    rw [List.replicate_succ, List.replicate_succ, List.flatten_cons, List.flatten_cons]
    exact Vals.append h (Vals.rep h k)
section
variable {X : Cx} {pins : List (Addr × Obj)} {σ : St} {H : Hp} {s : Shared} {l b : Addr} {xs ys zs : List V}
theorem Inv.lset {its its' : List Value} {n : Nat} {f : Array Value → Array Value} {t' : Nat} (I : Inv X pins σ H s) (hH : H l = some (.lst xs))
    (e : s.heap.get? l = some { cls := .type "list", data := .seq its.toArray n }) (hf : f its.toArray = its'.toArray) (hv : Vals ys its') (hz : ys.length ≤ sizeLine) :
    Inv X pins σ (upd H l (.lst ys)) { s with heap := s.heap.update l (Obj.mapSeq f), toks := t' } := by
  have q := PySem.IsL.update e f
  rw [hf] at q
  refine I.write (x := l) (e := l) (by rw [hH]; exact trivial) (.inl rfl) (fun b' u hb hu => (Heap.get?_update_other s.heap (Obj.mapSeq f) (Ne.symm hb)).trans hu) ⟨_, q⟩ ?_
  exact ⟨hz, its', _, hv, q⟩
theorem Inv.lnew {its : List Value} {t' : Nat} (I : Inv X pins σ H s) (hv : Vals ys its) (hz : ys.length ≤ sizeLine) :
    Inv X pins σ (upd H s.heap.objs.size (.lst ys)) { s with heap := s.heap.push { cls := .type "list", data := .seq its.toArray }, toks := t' } :=
  I.laid (fun _ _ q => Heap.get?_push_of_some _ q) (Nat.le_refl _) ⟨hz, its, 0, hv, Heap.get?_push_size _ rfl⟩
theorem Inv.fresh (I : Inv X pins σ H s) : H s.heap.objs.size = none := I.hok.fresh (Nat.le_refl _)
theorem Inv.lstM (I : Inv X pins σ H s) (hH : H l = some (.lst xs)) : xs.length ≤ sizeLine ∧ ∃ (its : List Value) (n : Nat), Vals xs its ∧ xs.length = its.length ∧ s.heap.get? l = some { cls := .type "list", data := .seq its.toArray n } := by
  obtain ⟨z, its, n, r, e⟩ := I.hok l _ hH
  exact ⟨z, its, n, r, r.length, e⟩
end
section
variable {X : Cx}
def rAppend : V → List V → Hp → VK → Prop := fun x vs H Q => ∃ l xs y, x = .ref l ∧ vs = [y] ∧ H l = some (.lst xs) ∧ xs.length < sizeLine ∧ Q .non (upd H l (.lst (xs ++ [y])))
theorem mt_append : MtM X "list.append" rAppend := by
  intro pins s σ H x vs v us Q I rx rv h
  obtain ⟨l, xs, y, rfl, rfl, hH, hz, q⟩ := h
  cases rx
  obtain ⟨u, rfl, ru⟩ := rv.one
  obtain ⟨z, its, n, r, hl, e⟩ := I.lstM hH
  refine call_meets F.slot_list_append ⟨_, e, rfl⟩ F.entry_list_append (F.args_list_append_2 _ _) (PySem.list_append l its.toArray n u (by rw [List.size_toArray]; omega)) ⟨e, ?_⟩
  refine ⟨.non, _, I.lset (its' := its ++ [u]) hH e (by simp) (r.append (.cons ru .nil)) ?_, rfl, q⟩
  rw [List.length_append, List.length_singleton]
  omega
end
section
variable {prog : Program} {w : World} {A : Around} {E : Value → Shared → Prop} {s : Shared}
end
section
variable {X : Cx}
end
end L2
namespace Att
open PySem PySem.W PySem.Calls PyProof.Rows
theorem ints_of_wellAll {P : Params} {h : Heap} : ∀ (ns : List Int) (vs : List Value), WellAll P h vs (ns.map WData.int) → IntsAre vs ns := by
  intro ns
  induction ns with
  | nil =>
    intro vs w
    rw [List.map_nil] at w
    cases w
    exact .nil
  | cons n ns ih =>
    intro vs w
    rw [List.map_cons] at w
    cases w with
    | cons a b =>
      cases a
      exact .cons _ _ (ih _ b)
theorem script_of {l : OpenLaw} {n : Nat} (hn : l.most = some n) {P : Params} {h : Heap} {args : List WData} {vals : List Value}
    (hpre : l.row.toRowW.claim.pre args = true) (hwl : WellAll P h vals args) :
    ∃ a vs ns, vals = [Value.ref a] ∧ args = [WData.list (ns.map WData.int)] ∧ h.get? a = some { cls := .type "list", data := .seq vs.toArray } ∧ IntsAre vs ns ∧ ns.length ≤ n := by
  have hsh : WShape.hasAll [] args [.list .int] = true := (pre_splitW hpre).1
  have hc : l.pre.holds [] { args := args } = true := (pre_splitW hpre).2
  obtain ⟨d, r, rfl, h1, h2⟩ := hasAllW_cons hsh
  obtain rfl := hasAllW_nil h2
  obtain ⟨xs, rfl, h3⟩ := hasW_list h1
  obtain ⟨ns, rfl⟩ := items_int h3
  have hlen : ns.length ≤ n := by
    unfold OpenLaw.pre at hc
    have h4 : (WTm.not (.lt (.lit (.int (n : Int))) (.len (.arg 0)))).holds [] { args := [.list (ns.map .int)] } = true := by
      have h4 := (holds_andW hc).1
      rw [hn] at h4
      exact h4
    have h5 := condW_of h4 (w_not (w_lt w_lit (w_len_list (w_arg rfl))))
    rw [List.length_map] at h5
    refine Nat.le_of_not_lt fun q => ?_
    have q' : (n : Int) < ((ns.length : Nat) : Int) := by omega
    first
      | (rw [decide_eq_true q'] at h5; exact absurd h5 (by decide))
      | (simp at h5; omega)
  cases hwl with
  | cons w1 w2 =>
    cases w2
    cases w1 with
    | list ho hall => exact ⟨_, _, ns, rfl, rfl, ho, ints_of_wellAll ns _ hall, hlen⟩
theorem post_true (l : OpenLaw) (args : List WData) : l.row.toRowW.claim.post args (.bool true) args = true :=
  postW_of (r := l.row.toRowW) (X := (true == true))
    (show WShape.has [] (.bool true) .bool = true by first | rfl | decide | simp [WShape.has, WShape.arms, WShape.armsAll])
    (show (WTm.eq .res (.lit (.bool true))).value [] { args := args, res := some (.bool true), after := args } = some (.bool (true == true)) from w_eq_bool (w_res rfl) w_lit) rfl
theorem attach_call {l : OpenLaw} {n : Nat} {q : Program} {loose : List Str} {XP : (Str → Option Value) → Heap → Prop} {YP : World → Heap → Prop} {d : DefRec}
    (hn : l.most = some n) (hdf : d.params.defaults = [])
    (call : ∀ (w : World) (s₀ s₁ : Shared) (mg mb : Str → Option Value) (fa : Addr) (o : Obj) (pm cd doc : Value) (a : Addr) (vs : List Value) (ns : List Int),
      Ground q loose [] XP w s₀ mg mb s₁.heap → YP w s₁.heap →
      s₁.heap.get? fa = some o → o.data = .func (docDef d.name d.params d.body d.scope pm cd doc) → s₁.heap.CodeRec cd d.name → mg d.name = some (.ref fa) →
      s₁.heap.get? a = some { cls := .type "list", data := .seq vs.toArray } → IntsAre vs ns → ns.length ≤ n → s₁.gens = #[] →
      codeAny (model l.prog w) callerA (.call (.ref fa) ⟨[.ref a], []⟩) (fun r s' => r = .ok (.ret (.bool true)) ∧ OldK s₁.heap s'.heap ∧ s'.os = s₁.os ∧ AllBare s'.gens) s₁) :
    WalkO q loose XP YP l.row.toRowW d [] (fun f vs => PySem.call f vs) := by
  intro w s₀ s₁ mg mb G Y fa o pm cd doc dV kV ho hd hcd hD hmg hg args vals as hpre hlay hrd hwl hlo
  obtain rfl : dV = .none := Dflts.none hD hdf
  obtain rfl : kV = .none := Dflts.noKw hD
  obtain ⟨a, vs, ns, rfl, rfl, hobj, hints, hlen⟩ := script_of hn hpre hwl
  refine enter_call (codeAny_mono (call w s₀ s₁ mg mb fa o pm cd doc a vs ns G Y ho (fd_plain hd) hcd hmg hobj hints hlen hg) fun r s' hq => ?_)
  obtain ⟨rfl, h2, h3, h4⟩ := hq
  exact ⟨.inl ⟨.bool true, .bool true, [], rfl, fun _ => rfl, .bool true, post_true l _, fun _ => ⟨List.Pairwise.nil, fun _ hm => (nomatch hm)⟩⟩, h2, h3, h4⟩
section
variable {prog : Program} {w : World} {A : Around} {E : Value → Shared → Prop} {s : Shared} {K : Frag}
end
end Att
namespace L2
open PySem PySem.Spec PyProof.Rows
theorem vals_ints : ∀ {vs : List Value} {ns : List Int}, IntsAre vs ns → Vals (ns.map V.int) vs
  | _, _, .nil => .nil
  | _, _, .cons n t h => .cons ⟨t, rfl⟩ (vals_ints h)
def Only (H : Hp) : Prop := ∀ b, H b = none ∨ ∃ o xs, H b = some (.frz o (.lst xs))
theorem law_call {P : Program} {w : World} {K : PySem.W.Frag} {mg mb : Str → Option Value} {CX : CXT} {k : Nat} {fa a : Addr} {fd : FuncData} {x : Str} {sp : Sp} {s₁ : Shared} {vs : List Value} {ns : List Int}
    (KX : K.In s₁.heap) (hns : s₁.heap.Ns mainGlobals mg) (hb : s₁.heap.Ns builtinsNs mb) (hbb : ∀ x : Str, x ≠ "__name__" → mb x = bootBuiltins x) (hlim : s₁.heap.NoLimit) (hg : s₁.gens = #[])
    (ha : s₁.heap.get? a = some { cls := .type "list", data := .seq vs.toArray }) (hi : IntsAre vs ns) (hl : ns.length ≤ sizeLine) (hr : Room k callerA)
    (F : ∀ base : Heap, K.In base → base.Ns mainGlobals mg → FnOk P w K mg base CX k fa fd [x] sp) (hbind : ∀ (s : Shared) (u : Value), BindsTo s fd ⟨[u], []⟩ [(x, u)])
    (hsp : ∀ H : Hp, Only H → SqL K H a (ns.map V.int) → sp [.ref a] H (fun v _ => v = .bl true) fun _ _ _ => False)
    (hCX : ∀ H e s', CX [] H s₁ (fun _ _ _ => False) e s' → False) :
    codeAny (model P w) callerA (.call (.ref fa) ⟨[.ref a], []⟩) (fun r s' => r = .ok (.ret (.bool true)) ∧ OldK s₁.heap s'.heap ∧ s'.os = s₁.os ∧ AllBare s'.gens) s₁ := by
  have rv := vals_ints hi
  have lenV := hi.length
  have core : ∀ H : Hp, Only H → SqL K H a (ns.map V.int) → HOk P w H s₁.heap → (∀ b, H b ≠ none → b = a) → (H a ≠ none → K.lookup a = none) →
      codeAny (model P w) callerA (.call (.ref fa) ⟨[.ref a], []⟩) (fun r s' => r = .ok (.ret (.bool true)) ∧ OldK s₁.heap s'.heap ∧ s'.os = s₁.os ∧ AllBare s'.gens) s₁ := by
    intro H hO hS hok hA hK
    have base_of : ∀ {b : Addr} {o : Obj}, s₁.heap.get? b = some o → H b = none → (hidT s₁.heap H).get? b = some o := fun e n => hidT_get e n
    have noA : ∀ {b : Addr} {o : Obj} {es : Array DictEntry} {ep : Nat}, s₁.heap.get? b = some o → o.data = .dict es ep → H b = none := fun {b o es ep} e d => by
      cases q : H b with
      | none => rfl
      | some u =>
        have e' : b = a := hA b (by rw [q]; simp)
        subst e'
        rw [ha] at e; cases e
        have d' : Data.seq vs.toArray _ = Data.dict es ep := d
        cases d'
    have nsK : ∀ {b : Addr} {m : Str → Option Value}, s₁.heap.Ns b m → (hidT s₁.heap H).Ns b m := fun {b m} ⟨o, es, ep, e, d, r⟩ => ⟨o, es, ep, base_of e (noA e d), d, r⟩
    have hKb : K.In (hidT s₁.heap H) := fun b o e => base_of (KX b o e) (by
      cases q : H b with
      | none => rfl
      | some u =>
        have e' : b = a := hA b (by rw [q]; simp)
        subst e'
        rw [hK (by rw [q]; simp)] at e; cases e)
    have hM : Mod K mg (hidT s₁.heap H) := ⟨hKb, nsK hns, ⟨mb, nsK hb, hbb⟩, let ⟨mc, h1, h2⟩ := hlim; ⟨mc, nsK h1, h2⟩⟩
    have e0 : Env0 P w K mg (hidT s₁.heap H) callerA [] s₁ H := ⟨rfl, hM, fun b o e => of_hidT e, Nat.le_of_eq (hidT_size _ _), trivial, fun b hb => absurd (show b ∈ ([] : List Addr) from hb) (by simp), hok, .of_eq hg⟩
    refine codeAny_mono ((F _ hKb (nsK hns)).run callerA [] s₁ H ⟨[.ref a], []⟩ [.ref a] [.ref a] _ _ hr e0 (hbind s₁ (.ref a)) (.cons rfl .nil) (hsp H hO hS)) fun r s' h => ?_
    cases r with
    | error e => exact (hCX H e s' h).elim
    | ok fl =>
      cases fl with
      | next => exact False.elim h
      | brk => exact False.elim h
      | cont => exact False.elim h
      | ret u =>
        obtain ⟨v, H', os, bare, un, hok', r', q⟩ := h
        have q' : v = .bl true := q
        subst q'
        obtain rfl : u = Value.bool true := r'
        refine ⟨rfl, OldK.of_keep fun b o e => ?_, os, bare⟩
        cases q : H b with
        | none => exact un.keep b o e q (by intro z; exact absurd (show b ∈ ([] : List Addr) from z) (by simp)) (by simp)
        | some u =>
          rcases hO b with z | ⟨ob, xs, z⟩
          · rw [q] at z; cases z
          · have z2 := un.frzs b ob _ z
            obtain ⟨e1, _⟩ := hok b _ z
            obtain ⟨e2, _⟩ := hok' b _ z2
            rw [e] at e1; cases e1
            exact e2
  cases hk : K.lookup a with
  | some o =>
    have e := KX a o hk
    rw [ha] at e
    cases e
    refine core (fun _ => none) (fun _ => .inl rfl) (.inr ⟨_, vs.toArray, _, hk, rfl, rfl, rfl, by rw [List.size_toArray, lenV]; exact hl, by simpa using rv⟩) (fun b u z => by have z' : (none : Option HO) = some u := z; cases z') (fun b z => absurd rfl z) fun z => absurd rfl z
  | none =>
    refine core (fun b => if b = a then some (.frz { cls := .type "list", data := .seq vs.toArray } (.lst (ns.map V.int))) else none) (fun b => ?_) (.inl (.inr ⟨{ cls := .type "list", data := .seq vs.toArray }, if_pos rfl⟩)) (fun b u z => ?_) (fun b z => ?_) fun _ => hk
    · by_cases hb : b = a
      · exact .inr ⟨_, _, if_pos hb⟩
      · exact .inl (if_neg hb)
    · by_cases hb : b = a
      · have z' := (if_pos hb).symm.trans z
        cases z'
        subst hb
        exact ⟨ha, by rw [List.length_map]; exact hl, vs, _, rv, ha⟩
      · have z' := (if_neg hb).symm.trans z
        cases z'
    · by_cases hb : b = a
      · exact hb
      · exact absurd (if_neg hb) z
end L2
namespace L2
open PySem PySem.Spec PyProof.Rows
theorem walk_of {l : PySem.W.OpenLaw} {n k : Nat} {q : Program} {loose : List Str} {XP : (Str → Option Value) → Heap → Prop} {YP : World → Heap → Prop} {d : DefRec} {K : Params → PySem.W.Frag} {CX : World → CXT} {sp : World → Sp} {x : Str}
    (hn : l.most = some n) (hn2 : n ≤ sizeLine) (hdf : d.params.defaults = []) (hr : Room k callerA)
    (hY : ∀ (w : World) (h : Heap), YP w h → (K w.params).In h)
    (F : ∀ (w : World) (mg : Str → Option Value) (fa : Addr) (h : Heap), (K w.params).In h → h.Ns mainGlobals mg → mg d.name = some (.ref fa) →
      ∃ fd : FuncData, (∀ (s : Shared) (u : Value), BindsTo s fd ⟨[u], []⟩ [(x, u)]) ∧
        ∀ base : Heap, (K w.params).In base → base.Ns mainGlobals mg → FnOk l.prog w (K w.params) mg base (CX w) k fa fd [x] (sp w))
    (hsp : ∀ (w : World) (H : Hp) (a : Addr) (ns : List Int), ns.length ≤ n → Only H → SqL (K w.params) H a (ns.map V.int) → sp w [.ref a] H (fun v _ => v = .bl true) fun _ _ _ => False)
    (hCX : ∀ (w : World) (H : Hp) (s : Shared) (e : Value) (s' : Shared), CX w [] H s (fun _ _ _ => False) e s' → False) :
    PySem.W.WalkO q loose XP YP l.row.toRowW d [] (fun f vs => PySem.call f vs) := by
  refine Att.attach_call hn hdf fun w s₀ s₁ mg mb fa o pm cd doc a vs ns G Y ho hd hcd hmg hobj hints hlen hg => ?_
  have KX := hY w _ Y
  obtain ⟨fd, hb, hF⟩ := F w mg fa _ KX G.T.g hmg
  exact law_call KX G.T.g G.T.b G.T.builtins G.T.nolimit hg hobj hints (Nat.le_trans hlen hn2) hr hF hb (fun H hO hS => hsp w H a ns hlen hO hS) fun H e s' => hCX w H s₁ e s'
end L2
namespace L2
open PySem PySem.Spec PyProof.Rows
def defArgs (s : Stmt) : Arguments := match s with
  | .FunctionDef _ a _ _ _ _ _ _ _ _ => a
  | _ => { posonlyargs := [], args := [], vararg := none, kwonlyargs := [], kw_defaults := [], kwarg := none, defaults := [] }
def defBody (s : Stmt) : List Stmt := match s with
  | .FunctionDef _ _ b _ _ _ _ _ _ _ => b
  | _ => []
def defScope (s : Stmt) : Scope := match s with
  | .FunctionDef _ _ _ _ _ _ sc _ _ _ => sc
  | _ => { kind := .function, names := [], isGenerator := false, isCoroutine := false }
abbrev CX0 : CXT := fun _ _ _ _ _ _ => False
structure Fun (K : PySem.W.Frag) (x qual : Str) (st : Stmt) (f : Addr) (fd : FuncData) : Prop where
  ex : ∃ (oc : Value) (od : Option Addr) (kV doc pm : Value) (an : Option Addr) (cdv ct : Value) (osl : Array (Option Value)),
    fd = PySem.W.fnOf x qual (defArgs st) (defBody st) (defScope st) .none kV doc pm an cdv ct ∧ K.lookup f = some ⟨oc, od, .func fd, osl⟩ ∧ PySem.W.codeIn K cdv qual = true
  kp : PySem.W.keepIn K (.ref f) = true
section
variable {P : Program} {w : World} {K : PySem.W.Frag} {mg : Str → Option Value} {base : Heap}
theorem Fun.ok {x qual : Str} {st : Stmt} {f : Addr} {fd : FuncData} {N ps : List Str} {k : Nat} {sp : Sp} (F : Fun K x qual st f fd) (S : FnScope N ps (defScope st)) (len : ∀ vs H Q E, sp vs H Q E → vs.length = ps.length)
    (hbody : ∀ (cdv : Value) (A : Around) (outer : List Env) (s : Shared) (H : Hp) (vs : List V) (Q : VK) (E : XK), Room k (A.deeper (envOfC qual (defScope st) s.heap.objs.size f cdv)) → sp vs H Q E →
      ∃ t, PSs (cxOf CX0 P w K mg base N qual (defScope st) f cdv A outer s H E).nox (defBody st) t ∧ t { nx := fun _ H' => Q .non H', rt := Q } (start N vs) H) : FnOk P w K mg base CX0 (k + 1) f fd ps sp := by
  obtain ⟨oc, od, kV, doc, pm, an, cdv, ct, osl, rfl, lk, hcd⟩ := F.ex
  refine fn_of lk hcd S len fun A outer s H vs Q E hr hsp => ?_
  obtain ⟨t, h, q⟩ := hbody cdv A outer s H vs Q E hr hsp
  exact ⟨t, h.nox, q⟩
theorem Fun.binds {x qual : Str} {st : Stmt} {f : Addr} {fd : FuncData} {ps : List Str} (F : Fun K x qual st f fd)
    (h : ∀ (kV doc pm : Value) (an : Option Addr) (cdv ct : Value) (us : List Value), us.length = ps.length → bindArgs (PySem.W.fnOf x qual (defArgs st) (defBody st) (defScope st) .none kV doc pm an cdv ct) ⟨us, []⟩ = pure (ps.zip us)) : Binds K fd ps [] := by
  obtain ⟨oc, od, kV, doc, pm, an, cdv, ct, osl, rfl, lk, hcd⟩ := F.ex
  exact .all (h kV doc pm an cdv ct)
theorem fun_mk {x qual : Str} {st : Stmt} {f : Addr} {oc : Value} {od an : Option Addr} {osl : Array (Option Value)} {kV doc pm cdv ct : Value} (l : K.lookup f = some ⟨oc, od, .func (PySem.W.fnOf x qual (defArgs st) (defBody st) (defScope st) .none kV doc pm an cdv ct), osl⟩)
    (c : PySem.W.codeIn K cdv qual = true) (k : PySem.W.keepIn K (.ref f) = true) : Fun K x qual st f (PySem.W.fnOf x qual (defArgs st) (defBody st) (defScope st) .none kV doc pm an cdv ct) := ⟨⟨oc, od, kV, doc, pm, an, cdv, ct, osl, rfl, l, c⟩, k⟩
end
section
variable {X : Cx}
theorem pv (i : Nat) {x : Str} {pos : Pos} (hN : X.N[i]? = some x := by rfl) (hv : Vis X.env.scope x := by first | exact Or.inl rfl | exact Or.inr (Or.inl rfl) | exact Or.inr (Or.inr rfl)) (hd : (x == ("__debug__" : Str)) = false := by decide)
    (hcd : (x == ("__classdict__" : Str)) = false := by decide) : PE X (.Name x pos) (tVar i) := pe_var hN hv hd hcd
end
theorem iteF {A B : Prop} (h : B) : if false = true then A else B := by
  rw [if_neg Bool.false_ne_true]
  exact h
theorem iteT {A B : Prop} (h : A) : if true = true then A else B := by
  rw [if_pos rfl]
  exact h
def Same (H H' : Hp) : Prop := ∀ b o, H b = some o → H' b = some o
theorem Same.refl (H : Hp) : Same H H := fun _ _ h => h
theorem Same.trans {H H1 H2 : Hp} (a : Same H H1) (b : Same H1 H2) : Same H H2 := fun c o h => b c o (a c o h)
theorem Same.free {H H' : Hp} (e : Same H H') {l : Addr} (h : H' l = Option.none) : H l = Option.none := by
  cases q : H l with
  | none => rfl
  | some o =>
    rw [e l o q] at h
    cases h
theorem Same.seq {K : PySem.W.Frag} {H H' : Hp} {a : Addr} {xs : List V} (e : Same H H') (h : SqL K H a xs) : SqL K H' a xs := by
  rcases h with (h | ⟨o, h⟩) | h
  · exact .inl (.inl (e _ _ h))
  · exact .inl (.inr ⟨o, e _ _ h⟩)
  · exact .inr h
end L2
set_option Elab.async false
set_option linter.all false
set_option maxRecDepth 100000
set_option maxHeartbeats 1000000
namespace Zp
open PySem
def rcd (TI TO T : Addr) (f : Bool) : Obj := { cls := .type "zip", data := .fields #[rawInt T, .bool f, .bool false, .ref TI, .ref TO] }
section
variable {prog : Program} {w : World} {A : Around} {E : Value → Shared → Prop} {s : Shared}
theorem alive {a : Addr} {o : Obj} {Q : Option Obj → Shared → Prop} (ho : s.heap.get? a = some o) (q : Q (some o) s) : wpAny (model prog w) A (Sem.loadIfAlive ((a : Nat) : Int).toNat Sem.pure) Q E s :=
  fun _ _ _ => by rw [Int.toNat_natCast]; exact (ho ▸ q : Q (s.heap.get? a) s)
theorem held {z TI TO T : Addr} {f : Bool} {oT : Obj} {Q : Bool → Shared → Prop} (ho : s.heap.get? z = some (rcd TI TO T f)) (hT : s.heap.get? T = some oT)
    (q : ∀ h', h'.get? z = some (rcd TI TO T true) → Heap.SameBut z s.heap h' → Q false { s with heap := h' }) : wpAny (model prog w) A (Builtin.SmallTypes.ownedTupleIsFree (.ref z)) Q E s := by
  unfold rcd at ho
  cases f
  all_goals repeat (first | assumption | (with_reducible refine wpAny_field ho rfl rfl ?_) | (with_reducible refine alive hT ?_) | (with_reducible refine wpAny_setField_rec ho (by simp) fun h' e1 e2 => ?_) | wp_step)
  · exact q _ e1 e2
  · exact q _ ho (Heap.SameBut.refl _ _)
def Out (N : List Addr) (h h' : Heap) : Prop := ∀ c o, c ∉ N → h.get? c = some o → h'.get? c = some o
theorem Out.of {a : Addr} {N : List Addr} {h h' : Heap} (e : Heap.ExtBut a h h') (m : a ∈ N) : Out N h h' := fun c o n q => e c o (fun x => n (x ▸ m)) q
theorem Out.then {N : List Addr} {h h1 h2 : Heap} (a : Out N h h1) (b : Out N h1 h2) : Out N h h2 := fun c o n q => b c o n (a c o n q)
theorem Out.up {N : List Addr} {h h1 : Heap} {o : Obj} (a : Out N h h1) : Out N h (h1.push o) := fun c u n q => Heap.get?_push_of_some o (a c u n q)
variable {z TI TO T i1 i2 l1 l2 : Addr} {f : Bool} {oT : Obj} {k : Nat} {xs ys : Array Value}
theorem draw {x y : Value} {Q : Fin → Shared → Prop} (D : ZipApart z TI TO i1 i2 l1 l2)
    (ho : s.heap.get? z = some (rcd TI TO T f)) (hT : s.heap.get? T = some oT) (hTI : IsPair s.heap TI (.ref i1) (.ref i2)) (a1 : s.heap.IsListIter i1 l1 k) (a2 : s.heap.IsListIter i2 l2 k)
    (b1 : s.heap.IsList l1 xs) (b2 : s.heap.IsList l2 ys) (ex : xs[k]? = some x) (ey : ys[k]? = some y)
    (q : ∀ h', h'.get? z = some (rcd TI TO T true) → h'.IsListIter i1 l1 (k + 1) → h'.IsListIter i2 l2 (k + 1) → IsPair h' s.heap.objs.size x y → h'.objs.size = s.heap.objs.size + 1 → Out [z, i1, i2] s.heap h' →
      Q (.done (.ret (.ref s.heap.objs.size))) { s with heap := h' }) : wpAny (model prog w) A (Builtin.«zip.__next__» ⟨[.ref z], []⟩) Q E s := by
  have hd := show (rcd TI TO T f).data = .fields #[rawInt T, .bool f, .bool false, .ref TI, .ref TO] from rfl
  repeat (first | assumption | (with_reducible refine wpAny_field ho hd rfl ?_) | (with_reducible refine held ho hT fun h1 e1 u1 => ?_) | (refine wpAny_nextOf_list_item (it := i1) (a1.extBut u1.extBut D.i1z) (b1.extBut u1.extBut D.l1z) ex fun h2 e2 u2 => ?_) | (refine wpAny_nextOf_list_item (it := i2) ((a2.extBut u1.extBut D.i2z).extBut u2.extBut D.i12.symm) ((b2.extBut u1.extBut D.l2z).extBut u2.extBut D.l2i1) ey fun h3 e3 u3 => ?_) | wp_step)
  have z3 : h3.objs.size = s.heap.objs.size := u3.1.trans (u2.1.trans u1.1)
  have fr : Out [z, i1, i2] s.heap h3 := ((Out.of u1.extBut (by simp)).then (Out.of u2.extBut (by simp))).then (Out.of u3.extBut (by simp))
  rw [z3]
  refine q _ (Heap.get?_push_of_some _ (u3.extBut _ _ D.i2z.symm (u2.extBut _ _ D.i1z.symm e1))) ((e2.extBut u3.extBut D.i12).at fun _ => Heap.get?_push_of_some _) (e3.at fun _ => Heap.get?_push_of_some _) ?_ (by rw [Heap.size_push, z3]) fr.up
  exact z3 ▸ Heap.get?_push_size h3 rfl
theorem dry {Q : Fin → Shared → Prop} (hh : A.handled = none) (D : ZipApart z TI TO i1 i2 l1 l2)
    (ho : s.heap.get? z = some (rcd TI TO T f)) (hT : s.heap.get? T = some oT) (hTI : IsPair s.heap TI (.ref i1) (.ref i2)) (a1 : s.heap.IsListIter i1 l1 k) (a2 : s.heap.IsListIter i2 l2 k)
    (b1 : s.heap.IsList l1 xs) (b2 : s.heap.IsList l2 ys) (no : xs.size ≤ k ∨ ys.size ≤ k)
    (q : ∀ h' e o, h'.get? e = some o → o.cls = .type "StopIteration" → Out [z, i1, i2] s.heap h' → E (.ref e) { s with heap := h' }) : wpAny (model prog w) A (Builtin.«zip.__next__» ⟨[.ref z], []⟩) Q E s := by
  have hd := show (rcd TI TO T f).data = .fields #[rawInt T, .bool f, .bool false, .ref TI, .ref TO] from rfl
  by_cases hx : k < xs.size
  · have ex : xs[k]? = some xs[k] := Array.getElem?_eq_getElem hx
    have ey : ys[k]? = none := Array.getElem?_eq_none (no.resolve_left (Nat.not_le.mpr hx))
    repeat (first | assumption | (with_reducible refine wpAny_field ho hd rfl ?_) | (with_reducible refine held ho hT fun h1 e1 u1 => ?_) | (refine wpAny_nextOf_list_item (it := i1) (a1.extBut u1.extBut D.i1z) (b1.extBut u1.extBut D.l1z) ex fun h2 e2 u2 => ?_) | (refine wpAny_nextOf_list_end (it := i2) hh ((a2.extBut u1.extBut D.i2z).extBut u2.extBut D.i12.symm) ((b2.extBut u1.extBut D.l2z).extBut u2.extBut D.l2i1) ey fun h3 e u3 p => ?_) | wp_step)
    obtain ⟨o, p1, p2⟩ := p
    exact q h3 e o p1 p2 (((Out.of u1.extBut (by simp)).then (Out.of u2.extBut (by simp))).then (Out.of u3 (by simp)))
  · have ex : xs[k]? = none := Array.getElem?_eq_none (Nat.not_lt.mp hx)
    repeat (first | assumption | (with_reducible refine wpAny_field ho hd rfl ?_) | (with_reducible refine held ho hT fun h1 e1 u1 => ?_) | (refine wpAny_nextOf_list_end (it := i1) hh (a1.extBut u1.extBut D.i1z) (b1.extBut u1.extBut D.l1z) ex fun h2 e u2 p => ?_) | wp_step)
    obtain ⟨o, p1, p2⟩ := p
    exact q h2 e o p1 p2 ((Out.of u1.extBut (by simp)).then (Out.of u2 (by simp)))
theorem nxt {o : Obj} {Q : Option Value → Shared → Prop} (ho : s.heap.get? z = some o) (hc : o.cls = .type "zip")
    (h : wpAny (model prog w) A.in1 (Builtin.«zip.__next__» ⟨[.ref z], []⟩) (fun r s' => ∃ v, r = .done (.ret v) ∧ Q (some v) s') (fun e s' => ∃ a u, e = .ref a ∧ s'.heap.get? a = some u ∧ u.cls = .type "StopIteration" ∧ Q none s') s) : wpAny (model prog w) A (pyNext (.ref z)) Q E s := by
  have ty : s.TypeIs (.ref z) "zip" := ⟨o, ho, hc⟩
  refine wpAny_bind (wpAny_attempt (wpAny_mono (Q := fun r s' => ∃ v, r = some v ∧ Q (some v) s') (wpAny_callSpecial?_slot ty F.slot_zip_next (wpAny_call_entry F.slot_zip_next ty F.entry_zip_next (wpAny_mono h ?_ fun _ _ e => e) (F.args_zip_next_1 _))) ?_ ?_))
  · rintro _ s' ⟨v, rfl, q⟩
    exact ⟨v, rfl, v, rfl, q⟩
  · rintro _ s' ⟨v, rfl, q⟩
    exact wpAny_pure q
  · rintro _ s' ⟨a, u, rfl, e1, e2, q⟩
    exact wpAny_bind (wpAny_isInstance (T := "StopIteration") (b := true) ⟨u, e1, e2⟩ isSubtype_stop (wpAny_pure q))
end
end Zp
set_option Elab.async false
set_option linter.all false
set_option maxRecDepth 100000
set_option maxHeartbeats 1000000
namespace Zp
open PySem
def mk (vs : List Value) (c : Nat) : Obj := { cls := .type "list", data := .seq vs.toArray c }
structure Feed (prog : Program) (w : World) (A : Around) (z S : Addr) (P : Nat → List Value → Heap → Prop) (L : List Value → Heap → Prop) : Prop where
  more : ∀ (n : Nat) (vs : List Value) (s : Shared) (Q : Option Value → Shared → Prop) (E : Value → Shared → Prop), P (n + 1) vs s.heap →
    (∀ v h', P n (vs ++ [v]) h' → (∀ o, s.heap.get? S = some o → h'.get? S = some o) → Q (some v) { s with heap := h' }) → wpAny (model prog w) A (pyNext (.ref z)) Q E s
  over : ∀ (vs : List Value) (s : Shared) (Q : Option Value → Shared → Prop) (E : Value → Shared → Prop), P 0 vs s.heap →
    (∀ h', L vs h' → (∀ o, s.heap.get? S = some o → h'.get? S = some o) → Q none { s with heap := h' }) → wpAny (model prog w) A (pyNext (.ref z)) Q E s
  blind : ∀ (n : Nat) (vs : List Value) (h h' : Heap), P n vs h → Heap.SameBut S h h' → P n vs h'
section
variable {prog : Program} {w : World} {A : Around} {z S : Addr} {P : Nat → List Value → Heap → Prop} {L : List Value → Heap → Prop} {R : Result → Shared → Prop}
theorem turn {s : Shared} {as : Args} (h : wpAny (model prog w) A.in1 (Builtin.«list.extend.loop» as) (fun r s' => match r with | .done f => R (.ok f) s' | .again c => c.quiet = true ∧ codeAny (model prog w) A c R s') (fun e s' => R (.error e) s') s) :
    codeAny (model prog w) A (.builtin "list.extend.loop" as) R s :=
  codeAny_builtin PySem.F.entry_extend_loop (by rw [Around.under_plainId PySem.F.plain_extend_loop]; exact h)
theorem fill (F : Feed prog w A.in1 z S P L) (r : Value) : ∀ (n : Nat) (vs : List Value) (c : Nat) (s : Shared), P n vs s.heap → s.heap.get? S = some (mk vs c) → vs.length + n ≤ sizeLine →
    (∀ h' us c', L us h' → h'.get? S = some (mk us c') → R (.ok (.ret r)) { s with heap := h' }) → codeAny (model prog w) A (.builtin "list.extend.loop" ⟨[.ref S, .ref z, r], []⟩) R s
  | 0, vs, c, s, p, e, _, q => by
    refine turn (wpAny_bind (F.over vs s _ _ p fun h' l k => wpAny_pure ?_))
    exact q h' vs c l (k _ e)
  | n + 1, vs, c, s, p, e, b, q => by
    refine turn (wpAny_bind (F.more n vs s _ _ p fun v h' p' k => ?_))
    have e' := k _ e
    have len : (vs.toArray.push v).size ≤ sizeLine := by simp; omega
    obtain ⟨c2, e2⟩ : ∃ c2, (h'.update S (Obj.mapSeq (·.push v))).get? S = some (mk (vs ++ [v]) c2) := by
      have := Heap.get?_update_self (Obj.mapSeq (·.push v)) e' rfl
      simp only [mk, Obj.mapSeq, List.push_toArray] at this
      exact ⟨_, this⟩
    refine wpAny_bind (wpAny_updateSeq e' rfl (wpAny_pure ⟨plainId_quiet PySem.F.plain_extend_loop _, ?_⟩) (by simp; omega) (Nat.le_succ_of_le len))
    refine fill F r n (vs ++ [v]) c2 _ (F.blind _ _ _ _ p' (Heap.SameBut.update ..)) e2 (by simp; omega) fun h2 us c3 l e3 => ?_
    exact q h2 us c3 l e3
theorem upd {E : Value → Shared → Prop} {s : Shared} {vs : List Value} {c : Nat} {f : Array Value → Array Value} {Q : Unit → Shared → Prop} (e : s.heap.get? S = some (mk vs c)) (l : vs.length ≤ 1) (m : (f vs.toArray).size ≤ 1)
    (q : ∀ h' c', h'.get? S = some (mk (f vs.toArray).toList c') → Heap.SameBut S s.heap h' → Q () { s with heap := h' }) : wpAny (model prog w) A (updateSeq S f) Q E s :=
  have one : 1 ≤ sizeLine := by decide
  wpAny_updateSeq e rfl (q _ _ (Heap.get?_update_self _ e rfl) (Heap.SameBut.update ..)) (by simp; omega) (by omega)
theorem len0 : typeLookup (.type "zip") "__len__" = pure none := (typeLookup_type ..).trans (by rw [builtinLookup_eq_fast]; kernel_rfl)
theorem hint0 : typeLookup (.type "zip") "__length_hint__" = pure none := (typeLookup_type ..).trans (by rw [builtinLookup_eq_fast]; kernel_rfl)
theorem inits {E : Value → Shared → Prop} {s : Shared} {c : Nat} {TI TO : Addr} {K : Fin → Shared → Prop} (e : s.heap.get? S = some (mk [] c)) (ez : IsZip s.heap z TI TO .none) (n : S ≠ z)
    (q : ∀ h' c', h'.get? S = some (mk [] c') → Heap.SameBut S s.heap h' → K (.again (.builtin "list.extend.loop" ⟨[.ref S, .ref z, .none], []⟩)) { s with heap := h' }) :
    wpAny (model prog w) A (Builtin.«list.__init__» ⟨[.ref S, .ref z], []⟩) K E s := by
  have same : Builtin.List.listSameRef (.ref S) (.ref z) = false := by simp [Builtin.List.listSameRef, n]
  have t1 : (Value.type "zip" == Value.type "list") = false := by decide
  have t2 : (Value.type "zip" == Value.type "tuple") = false := by decide
  have cond : (Builtin.List.listSameRef (.ref S) (.ref z) || Value.type "zip" == Value.type "list" || Value.type "zip" == Value.type "tuple") = false := by rw [same, t1, t2]; rfl
  refine wpAny_bind (wpAny_bind (wpAny_seqItems e rfl (wpAny_pure ?_)))
  refine wpAny_bind (upd e (by decide) (by decide) fun h1 c1 e1 u1 => wpAny_bind (wpAny_letGo ?_))
  have ez1 : IsZip h1 z TI TO .none := u1.extBut z _ n.symm ez
  have ty : Shared.TypeIs { s with heap := h1 } (.ref z) "zip" := ⟨_, ez1, rfl⟩
  refine wpAny_bind (wpAny_typeOf ty ?_)
  simp only [cond, Bool.false_eq_true, if_false]
  refine wpAny_bind (wpAny_pyIter_zip ez1 (wpAny_bind (wpAny_holding (wpAny_bind (wpAny_specialOf ty len0 ?_)))))
  refine wpAny_bind (wpAny_specialOf ty hint0 (wpAny_pure (wpAny_bind (wpAny_rule (wpAny_bind (wpAny_bind (upd e1 (by decide) (by decide) fun h2 c2 e2 u2 => ?_)))))))
  refine upd e2 (by decide) (by decide) fun h3 c3 e3 u3 => wpAny_pure ?_
  exact q h3 c3 e3 ⟨u3.1.trans (u2.1.trans u1.1), fun b m => (u3.2 b m).trans ((u2.2 b m).trans (u1.2 b m))⟩
theorem lays {h0 : Heap} {E : Value → Shared → Prop} {Q : Value → Shared → Prop} {s : Shared} {n : Nat} {TI TO : Addr} (ez : IsZip s.heap z TI TO .none) (F : Feed prog w A.in1.in1 z s.heap.objs.size P L)
    (p : P n [] (s.heap.push (mk [] 0))) (b : n ≤ sizeLine) (q : ∀ h' us c, L us h' → h'.get? s.heap.objs.size = some (mk us c) → Q (.ref s.heap.objs.size) { s with heap := h' }) :
    wpAny (model prog w) A (call (.type "list") [.ref z]) Q E s := by
  have zl : z < s.heap.objs.size := Heap.lt_size ez
  refine callType_codes PySem.F.called_list (PySem.F.typeCall_list_1 _) PySem.F.entry_list_init (code_list_new (Q₁ := fun o u => o = .ref s.heap.objs.size ∧ u = { s with heap := s.heap.push (mk [] 0) }) _ ⟨rfl, rfl⟩) ?_
  rintro _ _ ⟨rfl, rfl⟩
  have e0 : (s.heap.push (mk [] 0)).get? s.heap.objs.size = some (mk [] 0) := Heap.get?_push_size _ rfl
  have ez0 : IsZip (s.heap.push (mk [] 0)) z TI TO .none := Heap.get?_push_of_some _ ez
  refine ⟨⟨_, e0, rfl⟩, PySem.F.args_list_init_2 _ _, ?_⟩
  refine inits e0 ez0 (Nat.ne_of_gt zl) fun h' c' e' u' => ⟨plainId_quiet PySem.F.plain_extend_loop _, fill F .none n [] c' _ (F.blind _ _ _ _ p u') e' (by simpa using b) fun h2 us c2 l e2 => ?_⟩
  exact ⟨rfl, q h2 us c2 l e2⟩
end
end Zp
set_option Elab.async false
set_option linter.all false
set_option maxRecDepth 100000
set_option maxHeartbeats 1000000
namespace Zp
open PySem
structure Pl (old z TI TO i1 i2 l1 l2 S : Addr) : Prop where
  ap : ZipApart z TI TO i1 i2 l1 l2
  new : ∀ a ∈ [z, TO, i1, i2], old ≤ a
  low : ∀ a ∈ [z, TO, i1, i2], a < S
  lo2 : ∀ a ∈ [TI, l1, l2], a < S
structure Got (h0 : Heap) (old S : Addr) (xs ys : Array Value) (vs : List Value) (h : Heap) : Prop where
  vals : ∀ (j : Nat) (v : Value), vs[j]? = some v → v = .ref (S + 1 + j)
  pair : ∀ j : Nat, j < vs.length → ∃ x y, xs[j]? = some x ∧ ys[j]? = some y ∧ IsPair h (S + 1 + j) x y
  keep : ∀ b o, b < old → h0.get? b = some o → h.get? b = some o
structure Zs (h0 : Heap) (old z TI TO i1 i2 l1 l2 S : Addr) (xs ys : Array Value) (n : Nat) (vs : List Value) (h : Heap) : Prop extends Got h0 old S xs ys vs h where
  cnt : vs.length + n = min xs.size ys.size
  size : h.objs.size = S + 1 + vs.length
  now : (vs = [] ∧ IsZip h z TI TO .none ∧ ∃ a b, IsPair h TO a b) ∨ ∃ f T oT, h.get? z = some (rcd TI TO T f) ∧ S < T ∧ h.get? T = some oT
  its : IsPair h TI (.ref i1) (.ref i2)
  it1 : h.IsListIter i1 l1 vs.length
  it2 : h.IsListIter i2 l2 vs.length
  ls1 : h.IsList l1 xs
  ls2 : h.IsList l2 ys
section
variable {h0 h h' : Heap} {old z TI TO i1 i2 l1 l2 S : Addr} {xs ys : Array Value} {n : Nat} {vs : List Value}
theorem Pl.ns (P : Pl old z TI TO i1 i2 l1 l2 S) : S ∉ [z, TO, i1, i2] := fun m => Nat.lt_irrefl _ (P.low _ m)
theorem Pl.gt (P : Pl old z TI TO i1 i2 l1 l2 S) {b : Addr} (m : S < b) : b ∉ [z, TO, i1, i2] := fun k => Nat.lt_asymm m (P.low _ k)
theorem Pl.lt (P : Pl old z TI TO i1 i2 l1 l2 S) {b : Addr} (m : b < old) : b ∉ [z, TO, i1, i2] := fun k => Nat.not_le.mpr m (P.new _ k)
theorem past (S : Addr) (j : Nat) : S < S + 1 + j := Nat.lt_of_lt_of_le (Nat.lt_succ_self S) (Nat.le_add_right _ _)
theorem Got.on (G : Got h0 old S xs ys vs h) (P : Pl old z TI TO i1 i2 l1 l2 S) (o : Out [z, TO, i1, i2] h h') : Got h0 old S xs ys vs h' where
  vals := G.vals
  pair j m := let ⟨x, y, e1, e2, e3⟩ := G.pair j m; ⟨x, y, e1, e2, o _ _ (P.gt (past S j)) e3⟩
  keep b u m e := o b u (P.lt m) (G.keep b u m e)
theorem Zs.next (Z : Zs h0 old z TI TO i1 i2 l1 l2 S xs ys (n + 1) vs h) (P : Pl old z TI TO i1 i2 l1 l2 S) {x y : Value} {f : Bool} {T : Addr} {oT : Obj} (ex : xs[vs.length]? = some x) (ey : ys[vs.length]? = some y)
    (r : h'.get? z = some (rcd TI TO T f)) (rT : S < T) (eT : h'.get? T = some oT) (a1 : h'.IsListIter i1 l1 (vs.length + 1)) (a2 : h'.IsListIter i2 l2 (vs.length + 1)) (pr : IsPair h' h.objs.size x y) (sz : h'.objs.size = h.objs.size + 1)
    (o : Out [z, TO, i1, i2] h h') : Zs h0 old z TI TO i1 i2 l1 l2 S xs ys n (vs ++ [.ref h.objs.size]) h' := by
  have D := P.ap
  have len : (vs ++ [Value.ref h.objs.size]).length = vs.length + 1 := by simp
  have G := Z.toGot.on P o
  refine ⟨⟨fun j v e => ?_, fun j m => ?_, G.keep⟩, by rw [len]; have := Z.cnt; omega, by rw [len, sz, Z.size]; rfl, .inr ⟨f, T, oT, r, rT, eT⟩, o _ _ (by simp [D.TIz, D.TITO, D.TIi1, D.TIi2]) Z.its, by rw [len]; exact a1, by rw [len]; exact a2,
    Heap.IsList.at Z.ls1 fun u e => o _ u (by simp [D.l1z, D.l1TO, D.l1i1, D.l1i2]) e, Heap.IsList.at Z.ls2 fun u e => o _ u (by simp [D.l2z, D.l2TO, D.l2i1, D.l2i2]) e⟩
  · rcases Nat.lt_or_ge j vs.length with q | q
    · exact G.vals j v (by rwa [List.getElem?_append_left q] at e)
    · have jl : j = vs.length := by have := (List.getElem?_eq_some_iff.mp e).1; rw [len] at this; omega
      subst jl
      simp only [List.getElem?_concat_length, Option.some.injEq] at e
      rw [← e, Z.size]
  · rcases Nat.lt_or_ge j vs.length with q | q
    · exact G.pair j q
    · have jl : j = vs.length := by rw [len] at m; omega
      subst jl
      exact ⟨x, y, ex, ey, Z.size ▸ pr⟩
end
section
variable {prog : Program} {w : World} {A : Around} {h0 : Heap} {old z TI TO i1 i2 l1 l2 S : Addr} {xs ys : Array Value}
theorem out3 {h h' : Heap} (o : Out [z, i1, i2] h h') : Out [z, TO, i1, i2] h h' := fun c u m => o c u (by simp only [List.mem_cons, List.not_mem_nil, or_false, not_or] at m ⊢; exact ⟨m.1, m.2.2⟩)
theorem out4 {h h' : Heap} (o : ∀ c u, c ≠ z → c ≠ TO → c ≠ i1 → c ≠ i2 → h.get? c = some u → h'.get? c = some u) : Out [z, TO, i1, i2] h h' := fun c u m => by
  simp only [List.mem_cons, List.not_mem_nil, or_false, not_or] at m
  exact o c u m.1 m.2.1 m.2.2.1 m.2.2.2
theorem feed (hh : A.handled = none) (P : Pl old z TI TO i1 i2 l1 l2 S) : Feed prog w A z S (Zs h0 old z TI TO i1 i2 l1 l2 S xs ys) (fun vs h => vs.length = min xs.size ys.size ∧ Got h0 old S xs ys vs h) where
  more n vs s Q E Z q := by
    have c := Z.cnt
    have hx : vs.length < xs.size := by omega
    have hy : vs.length < ys.size := by omega
    have ex := Array.getElem?_eq_getElem hx
    have ey := Array.getElem?_eq_getElem hy
    have sS : S < s.heap.objs.size := by rw [Z.size]; exact past S _
    rcases Z.now with ⟨e0, ez, a, b, eO⟩ | ⟨f, T, oT, ez, mT, eT⟩
    · refine wpAny_pyNext_zip_item P.ap ez Z.its eO Z.it1 Z.it2 Z.ls1 Z.ls2 ex ey fun h' b1 b2 b3 b4 b5 b6 b7 => ?_
      exact q _ h' (Z.next P ex ey (f := false) b1 sS b5 b3 b4 b5 b6 (out4 b7)) fun o e => out4 b7 S o P.ns e
    · refine nxt ez rfl (draw P.ap ez eT Z.its Z.it1 Z.it2 Z.ls1 Z.ls2 ex ey fun h' b1 b2 b3 b4 b5 b6 => ⟨_, rfl, ?_⟩)
      have o4 := out3 (TO := TO) b6
      exact q _ h' (Z.next P ex ey b1 mT (o4 T _ (P.gt mT) eT) b2 b3 b4 b5 o4) fun o e => o4 S o P.ns e
  over vs s Q E Z q := by
    have c := Z.cnt
    have no : xs.size ≤ vs.length ∨ ys.size ≤ vs.length := by omega
    rcases Z.now with ⟨e0, ez, a, b, eO⟩ | ⟨f, T, oT, ez, mT, eT⟩
    · refine wpAny_pyNext_zip_end hh P.ap ez Z.its eO Z.it1 Z.it2 Z.ls1 Z.ls2 (no.imp Array.getElem?_eq_none Array.getElem?_eq_none) fun h' b7 => ?_
      exact q h' ⟨c, Z.toGot.on P (out4 b7)⟩ fun o e => out4 b7 S o P.ns e
    · refine nxt ez rfl (dry hh P.ap ez eT Z.its Z.it1 Z.it2 Z.ls1 Z.ls2 no fun h' e o b1 b2 b3 => ⟨e, o, rfl, b1, b2, ?_⟩)
      exact q h' ⟨c, Z.toGot.on P (out3 b3)⟩ fun u e => out3 (TO := TO) b3 S u P.ns e
  blind n vs h h' Z u := by
    have go : ∀ b o, b ≠ S → h.get? b = some o → h'.get? b = some o := fun b o m e => (u.2 b m).trans e
    have low : ∀ a, a ∈ [z, TO, i1, i2] ∨ a ∈ [TI, l1, l2] → a ≠ S := fun a m => Nat.ne_of_lt (m.elim (P.low a) (P.lo2 a))
    refine ⟨⟨Z.vals, fun j m => ?_, fun b o m e => go b o ?_ (Z.keep b o m e)⟩, Z.cnt, u.1.trans Z.size, ?_, go _ _ (low _ (by simp)) Z.its, Z.it1.at fun o e => go _ o (low _ (by simp)) e, Z.it2.at fun o e => go _ o (low _ (by simp)) e,
      Heap.IsList.at Z.ls1 fun o e => go _ o (low _ (by simp)) e, Heap.IsList.at Z.ls2 fun o e => go _ o (low _ (by simp)) e⟩
    · obtain ⟨x, y, e1, e2, e3⟩ := Z.pair j m
      exact ⟨x, y, e1, e2, go _ _ (Nat.ne_of_gt (past S j)) e3⟩
    · exact Nat.ne_of_lt (Nat.lt_trans (Nat.lt_of_lt_of_le m (P.new z (by simp))) (P.low z (by simp)))
    · rcases Z.now with ⟨e0, ez, a, b, eO⟩ | ⟨f, T, oT, ez, mT, eT⟩
      · exact .inl ⟨e0, go _ _ (low _ (by simp)) ez, a, b, go _ _ (low _ (by simp)) eO⟩
      · exact .inr ⟨f, T, oT, go _ _ (low _ (by simp)) ez, mT, go _ _ (Nat.ne_of_gt mT) eT⟩
theorem listzip {E : Value → Shared → Prop} {Q : Value → Shared → Prop} {s : Shared} {a b : Value} (hh : A.handled = none) (D : ZipApart z TI TO i1 i2 l1 l2) (nw : ∀ a ∈ [z, TO, i1, i2], old ≤ a)
    (ez : IsZip s.heap z TI TO .none) (eO : IsPair s.heap TO a b) (its : IsPair s.heap TI (.ref i1) (.ref i2)) (it1 : s.heap.IsListIter i1 l1 0) (it2 : s.heap.IsListIter i2 l2 0) (ls1 : s.heap.IsList l1 xs) (ls2 : s.heap.IsList l2 ys) (big : min xs.size ys.size ≤ sizeLine)
    (q : ∀ h' us c, us.length = min xs.size ys.size → Got s.heap old s.heap.objs.size xs ys us h' → h'.get? s.heap.objs.size = some (mk us c) → Q (.ref s.heap.objs.size) { s with heap := h' }) :
    wpAny (model prog w) A (call (.type "list") [.ref z]) Q E s := by
  have up : ∀ c o, s.heap.get? c = some o → (s.heap.push (mk [] 0)).get? c = some o := fun c o => Heap.get?_push_of_some _
  obtain ⟨_, q1, _⟩ := id it1
  obtain ⟨_, q2, _⟩ := id it2
  obtain ⟨_, q3, _⟩ := id ls1
  obtain ⟨_, q4, _⟩ := id ls2
  have P : Pl old z TI TO i1 i2 l1 l2 s.heap.objs.size := ⟨D, nw, by simpa using ⟨Heap.lt_size ez, Heap.lt_size eO, Heap.lt_size q1, Heap.lt_size q2⟩, by simpa using ⟨Heap.lt_size its, Heap.lt_size q3, Heap.lt_size q4⟩⟩
  refine lays (h0 := s.heap) ez (feed (A := A.in1.in1) (h0 := s.heap) (xs := xs) (ys := ys) hh P) (n := min xs.size ys.size) ⟨⟨fun j v e => by simp at e, fun j m => absurd m (Nat.not_lt_zero _), fun b o _ e => up b o e⟩, by simp, by rw [Heap.size_push]; rfl,
    .inl ⟨rfl, up _ _ ez, a, b, up _ _ eO⟩, up _ _ its, it1.at (up _), it2.at (up _), Heap.IsList.at ls1 (up _), Heap.IsList.at ls2 (up _)⟩ big fun h' us c l e => q h' us c l.1 l.2 e
end
end Zp
set_option Elab.async false
set_option linter.all false
set_option maxRecDepth 100000
set_option maxHeartbeats 1000000
namespace L2
open PySem PySem.Spec PyProof.Rows
section
variable {pg : Program} {w : World} {A : Around}
abbrev nox : Value → Shared → Prop := fun _ _ => False
abbrev wpN {α : Type} (pg : Program) (w : World) (A : Around) (t : Sem α) (Q : α → Shared → Prop) (s : Shared) : Prop := wpAny (model pg w) A t Q nox s
def tested (ifs : List Expr) (env : Env) : Sem Bool :=
  forIn ifs true fun c r =>
    if r = true then do
      let ok ← isTrue c env (eval c env)
      pure (ForInStep.yield ok)
    else pure (ForInStep.yield r)
def ItemGoes (pg : Program) (w : World) (A : Around) (elt tg : Expr) (ifs : List Expr) (it acc : Value) (env : Env) (J : Shared → Prop) (v : Value) (s : Shared) : Prop :=
  wpN pg w A (letOwnedTupleGo tg it v) (fun _ sa => wpN pg w A (assign tg env v) (fun _ sb => wpN pg w A (tested ifs env) (fun ok sc =>
    if ok = true then wpN pg w A (eval elt env) (fun x sd => wpN pg w A (call (.builtin "list.append") [acc, x]) (fun _ se => J se) sd) sc else J sc) sb) sa) s
theorem mo {α : Type} {t : Sem α} {Q Q' : α → Shared → Prop} {E : Value → Shared → Prop} {s : Shared} (h : wpN pg w A t Q s) (k : ∀ a s', Q a s' → Q' a s') : wpAny (model pg w) A t Q' E s :=
  wpAny_mono h k (fun _ _ f => False.elim f)
theorem compLoop_any {elt target iter : Expr} {ifs : List Expr} {scope : Scope} {pos : Pos} {it acc : Value} {env : Env} {R : Result → Shared → Prop} {s₀ : Shared} (I : Nat → Shared → Prop)
    (turn : ∀ n s, I n s → wpN pg w A (pyNext it) (fun r s₁ => match r with
      | none => R (.ok .next) s₁
      | some v => ItemGoes pg w A elt target ifs it acc env (fun s' => ∃ m, m < n ∧ I m s') v s₁) s)
    (top : Nat) (start : I top s₀) : codeAny (model pg w) A (.compLoop (.ListComp elt [⟨target, iter, ifs, 0⟩] scope pos) 0 it acc env) R s₀ := by
  apply codeAny_loop rfl I _ top start
  intro n s hI
  apply wpAny_noted
  rw [compTurn_list]
  refine wpAny_bind (wpAny_standAt (wpAny_bind (mo (turn n s hI) ?_)))
  rintro (_ | v) s₁ goal
  · exact wpAny_pure goal
  · refine wpAny_bind (mo goal fun _ sa ga => wpAny_bind (mo ga fun _ sb gb => wpAny_bind (mo gb ?_)))
    rintro (_ | _) sc gc
    · exact wpAny_pure (And.intro rfl gc)
    · refine wpAny_bind (wpAny_bind (mo gc fun x sd gd => wpAny_bind (mo gd fun _ se ge => ?_)))
      exact wpAny_pure (wpAny_pure (And.intro rfl ge))
end
theorem cellsFrom_acc : ∀ (names : List (Str × NameKind)) (n : Nat) (acc : List (Str × Addr)), cellsFrom n names acc = cellsFrom n names [] ++ acc
  | [], _, _ => rfl
  | (x, k) :: r, n, acc => by
    unfold cellsFrom
    split
    · rw [cellsFrom_acc r (n + 1) ((x, n) :: acc), cellsFrom_acc r (n + 1) [(x, n)], List.append_assoc]; rfl
    · exact cellsFrom_acc r n acc
theorem cellsFrom_mem : ∀ (names : List (Str × NameKind)) (n : Nat) {x : Str} {c : Addr}, (x, c) ∈ cellsFrom n names [] → (x, NameKind.cell) ∈ names
  | [], _, _, _, h => by simp [cellsFrom] at h
  | (y, k) :: r, n, x, c, h => by
    unfold cellsFrom at h
    split at h
    · rename_i hk
      rw [cellsFrom_acc] at h
      have two := List.mem_append.mp h
      rcases two with h | h
      · exact List.mem_cons_of_mem _ (cellsFrom_mem r _ h)
      · have e : (x, c) = (y, n) := by simpa using h
        have e2 : k = NameKind.cell := by simpa using hk
        cases e
        rw [e2]
        exact List.mem_cons_self
    · exact List.mem_cons_of_mem _ (cellsFrom_mem r n h)
def clGo (cells : List (Str × Addr)) : List (Str × NameKind) → List (Str × Addr) → List (Str × Addr)
  | [], acc => acc
  | (n, k) :: r, acc => clGo cells r (if k == .free then ((cells.lookup n).map fun c => (n, c)).toList ++ acc else acc)
theorem clGo_mem {cells : List (Str × Addr)} : ∀ (names : List (Str × NameKind)) (acc : List (Str × Addr)) {x : Str} {c : Addr}, (x, c) ∈ clGo cells names acc → (x, c) ∈ acc ∨ cells.lookup x = some c
  | [], _, _, _, h => .inl h
  | (n, k) :: r, acc, x, c, h => by
    unfold clGo at h
    rcases clGo_mem r _ h with h | h
    · split at h
      · have two := List.mem_append.mp h
        rcases two with h | h
        · cases e : cells.lookup n with
          | none => rw [e] at h; simp at h
          | some c' =>
            rw [e] at h
            have e2 : (x, c) = (n, c') := by simpa using h
            cases e2
            exact .inr e
        · exact .inl h
      · exact .inl h
    · exact .inr h
theorem clGo_has {cells : List (Str × Addr)} : ∀ (names : List (Str × NameKind)) (acc : List (Str × Addr)) {x : Str} {c : Addr}, ((x, c) ∈ acc ∨ ((x, NameKind.free) ∈ names ∧ cells.lookup x = some c)) → (x, c) ∈ clGo cells names acc
  | [], _, _, _, h => h.elim id fun h => by simp at h
  | (n, k) :: r, acc, x, c, h => by
    unfold clGo
    refine clGo_has r _ ?_
    rcases h with h | ⟨h, e⟩
    · left
      split
      · exact List.mem_append_right _ h
      · exact h
    · rcases List.mem_cons.mp h with h | h
      · cases h
        left
        rw [if_pos (by rfl), e]
        simp
      · exact .inr ⟨h, e⟩
theorem closureFor_go {scope : Scope} {env : Env} (h : ∀ y ∈ scope.names, y.2 = .free → ∃ c, env.cells.lookup y.1 = some c) : closureFor scope env = pure (clGo env.cells scope.names []) := by
  unfold closureFor
  have go : ∀ (names : List (Str × NameKind)) (acc : List (Str × Addr)), (∀ y ∈ names, y.2 = .free → ∃ c, env.cells.lookup y.1 = some c) →
      (forIn names acc fun x r => match x with
        | (name, kind) => if (kind == NameKind.free) = true then do let a ← cellOf env name; pure (ForInStep.yield ((name, a) :: r)) else pure (ForInStep.yield r) : Sem (List (Str × Addr))) = pure (clGo env.cells names acc) := by
    intro names
    induction names with
    | nil => intro acc _; rfl
    | cons y r ih =>
      obtain ⟨n, k⟩ := y
      intro acc hh
      rw [List.forIn_cons]
      unfold clGo
      by_cases hk : (k == NameKind.free) = true
      · have e2 : k = NameKind.free := by simpa using hk
        obtain ⟨c, hc⟩ := hh (n, k) List.mem_cons_self e2
        have hcell : cellOf env n = pure c := by unfold cellOf; rw [hc]
        simp only [hk, if_true, hcell, pure_bind, hc, Option.map_some, Option.toList_some, List.singleton_append]
        exact ih _ fun y hy => hh y (List.mem_cons_of_mem _ hy)
      · simp only [hk, if_false, pure_bind]
        exact ih _ fun y hy => hh y (List.mem_cons_of_mem _ hy)
  have := go scope.names [] h
  simp only [this, pure_bind]
theorem mem_lookup {α : Type} : ∀ {l : List (Str × α)} {x : Str} {a : α}, (l.map (·.1)).Nodup → (x, a) ∈ l → l.lookup x = some a
  | (y, b) :: r, x, a, hn, h => by
    have hn := List.nodup_cons.mp (show (y :: r.map (·.1)).Nodup from hn)
    rcases List.mem_cons.mp h with h | h
    · cases h
      simp
    · have hne : x ≠ y := fun e => hn.1 (by rw [← e]; exact List.mem_map.mpr ⟨(x, a), h, rfl⟩)
      rw [List.lookup_cons, beq_false_of_ne hne]
      exact mem_lookup hn.2 h
theorem lookup_isSome_of_mem {α : Type} : ∀ {l : List (Str × α)} {x : Str}, x ∈ l.map (·.1) → ∃ a, l.lookup x = some a
  | (y, b) :: r, x, h => by
    rw [List.lookup_cons]
    cases e : x == y with
    | true => exact ⟨b, rfl⟩
    | false =>
      rw [List.map_cons] at h
      rcases List.mem_cons.mp h with h | h
      · rw [h] at e; simp at e
      · exact lookup_isSome_of_mem h
def compEnvX (scope : Scope) (C : Addr) (env : Env) : Env := compEnvC scope (cellsFrom (C + 1) scope.names (clGo env.cells scope.names [])) C env
def cxComp (X : Cx) (scope : Scope) (N : List Str) (fp : List Addr) (s : Shared) (H : Hp) : Cx :=
  { X with N := N, s₀ := s, H₀ := H, env := compEnvX scope s.heap.objs.size X.env, outer := X.stack, stack := X.stack, ex := fp, fn := fun x => decide (scope.names.lookup x = some .cell), pn := [], xe := fun _ _ => False }
structure CompOk (X : Cx) (scope : Scope) (N : List Str) (k : Nat) (fs : List Nat) : Prop where
  kind : scope.kind = .function
  nd : (scope.names.map (·.1)).Nodup
  free : ∀ y ∈ scope.names, y.2 = .free → y.1 ∈ X.env.cells.map (·.1)
  len : N.length = k + fs.length
  out : ∀ (j i : Nat), fs[j]? = some i → ∃ x, N[k + j]? = some x ∧ X.N[i]? = some x ∧ scope.names.lookup x = some .free ∧ (X.env.kindOf x = some .cell ∨ X.env.kindOf x = some .free)
def compSt (k : Nat) (fs : List Nat) (σ : St) : St := List.replicate k none ++ fs.map fun i => (σ[i]?).join
def GLow (k : Nat) (g : TG) : Prop := ∀ x σ H Q, g x σ H Q → g x σ H fun σ' H' => Q σ' H' ∧ σ'.length = σ.length ∧ ∀ i, k ≤ i → σ'[i]? = σ[i]?
def GsLow (k : Nat) (g : TGs) : Prop := ∀ x σ H Q, g x σ H Q → g x σ H fun σ' H' => Q σ' H' ∧ σ'.length = σ.length ∧ ∀ i, k ≤ i → σ'[i]? = σ[i]?
theorem low_name {k i : Nat} (h : i < k) : GLow k (gName i) := fun x σ H Q q => ⟨q, by simp, fun j hj => by rw [List.getElem?_set_ne (by omega)]⟩
theorem lows_nil {k : Nat} : GsLow k gNil := fun x σ H Q ⟨e, q⟩ => ⟨e, q, rfl, fun _ _ => rfl⟩
def GMono (g : TG) : Prop := ∀ x σ H Q Q', (∀ σ' H', Q σ' H' → Q' σ' H') → g x σ H Q → g x σ H Q'
def GsMono (g : TGs) : Prop := ∀ x σ H Q Q', (∀ σ' H', Q σ' H' → Q' σ' H') → g x σ H Q → g x σ H Q'
theorem mono_name {i : Nat} : GMono (gName i) := fun _ _ _ _ _ h q => h _ _ q
theorem monos_nil : GsMono gNil := fun _ _ _ _ _ h ⟨e, q⟩ => ⟨e, h _ _ q⟩
theorem monos_cons {t : TG} {u : TGs} (h1 : GMono t) (h2 : GsMono u) : GsMono (gCons t u) := fun x σ H Q Q' h ⟨v, r, e, q⟩ => ⟨v, r, e, h1 _ _ _ _ _ (fun σ' H' q' => h2 _ _ _ _ _ h q') q⟩
theorem mono_tup {K : PySem.W.Frag} {n : Nat} {u : TGs} (h : GsMono u) : GMono (gTup K n u) := fun x σ H Q Q' hq ⟨a, xs, e, h1, h2, q⟩ => ⟨a, xs, e, h1, h2, h _ _ _ _ _ hq q⟩
theorem lows_cons {k : Nat} {t : TG} {u : TGs} (m1 : GMono t) (m2 : GsMono u) (h1 : GLow k t) (h2 : GsLow k u) : GsLow k (gCons t u) := fun x σ H Q ⟨v, r, e, q⟩ => by
  refine ⟨v, r, e, ?_⟩
  refine m1 _ _ _ _ _ (fun σ' H' q' => ?_) (h1 _ _ _ _ q)
  obtain ⟨q1, l1, a1⟩ := q'
  refine m2 _ _ _ _ _ (fun σ2 H2 q2 => ?_) (h2 _ _ _ _ q1)
  obtain ⟨q3, l3, a3⟩ := q2
  exact ⟨q3, l3.trans l1, fun i hi => (a3 i hi).trans (a1 i hi)⟩
theorem low_tup {k n : Nat} {K : PySem.W.Frag} {u : TGs} (h : GsLow k u) : GLow k (gTup K n u) := fun x σ H Q ⟨a, xs, e, h1, h2, q⟩ => ⟨a, xs, e, h1, h2, h _ _ _ _ q⟩
section
variable {X : Cx} {pins : List (Addr × Obj)} {σ : St} {H : Hp} {s : Shared} {scope : Scope} {N : List Str} {k : Nat} {fs : List Nat} {fp : List Addr}
theorem CompOk.clos (C : CompOk X scope N k fs) : closureFor scope X.env = pure (clGo X.env.cells scope.names []) := closureFor_go fun y hy hf => lookup_isSome_of_mem (C.free y hy hf)
theorem CompOk.names (C : CompOk X scope N k fs) : ∀ y ∈ scope.names, y.2 = .local → scope.names.lookup y.1 = some .local := fun y hy e => mem_lookup C.nd (by rw [← e]; exact hy)
theorem clGo_lookup {cells : List (Str × Addr)} {names : List (Str × NameKind)} {x : Str} {c : Addr} (h : (clGo cells names []).lookup x = some c) : cells.lookup x = some c :=
  (clGo_mem names [] (mem_of_lookup h)).elim (fun z => by simp at z) id
theorem comp_cells {cells : List (Str × Addr)} {C : Nat} {x : Str} {c : Addr} (h : (cellsFrom (C + 1) scope.names (clGo cells scope.names [])).lookup x = some c) :
    (x, c) ∈ cellsFrom (C + 1) scope.names [] ∨ cells.lookup x = some c := by
  rw [cellsFrom_acc] at h
  rcases List.mem_append.mp (mem_of_lookup h) with z | z
  · exact .inl z
  · exact .inr ((clGo_mem _ _ z).elim (fun z => by simp at z) id)
theorem relabel_kind {env : Env} {x : Str} : (relabel scope env).names.lookup x = some .cell ∨ (relabel scope env).names.lookup x = some .free → scope.names.lookup x = some .cell ∨ scope.names.lookup x = some .free := by
  unfold relabel
  generalize scope.names = names
  induction names with
  | nil => simp
  | cons y r ih =>
    obtain ⟨n, kd⟩ := y
    simp only [List.map_cons]
    by_cases hx : (x == n) = true
    · split
      · rename_i hc
        intro _
        have : (kd == NameKind.free) = true := by
          have hc := Bool.and_eq_true_iff.mp hc
          exact (Bool.and_eq_true_iff.mp hc.1).1
        have e : kd = NameKind.free := by simpa using this
        rw [List.lookup_cons, hx, e]
        exact .inr rfl
      · intro h
        simp only [List.lookup_cons, hx] at h ⊢
        exact h
    · have hx' : (x == n) = false := by simpa using hx
      intro h
      have h' : (List.lookup x (r.map fun x => match x with | (n, k) => if (k == NameKind.free && env.scope.kind == .function && env.kindOf n == some .cell) = true then (n, NameKind.cell) else (n, k)) = some .cell ∨ List.lookup x (r.map fun x => match x with | (n, k) => if (k == NameKind.free && env.scope.kind == .function && env.kindOf n == some .cell) = true then (n, NameKind.cell) else (n, k)) = some .free) := by
        split at h <;> simpa only [List.lookup_cons, hx'] using h
      rw [List.lookup_cons, hx']
      exact ih h'
theorem relabel_free {env : Env} {x : Str} : scope.names.lookup x = some .free → (relabel scope env).names.lookup x = some .cell ∨ (relabel scope env).names.lookup x = some .free := by
  unfold relabel
  generalize scope.names = names
  induction names with
  | nil => simp
  | cons y r ih =>
    obtain ⟨n, kd⟩ := y
    simp only [List.map_cons]
    intro h
    by_cases hx : (x == n) = true
    · rw [List.lookup_cons, hx] at h
      cases h
      split
      · left; rw [List.lookup_cons, hx]
      · right; rw [List.lookup_cons, hx]
    · have hx' : (x == n) = false := by simpa using hx
      rw [List.lookup_cons, hx'] at h
      have := ih h
      split <;> simpa only [List.lookup_cons, hx'] using this
theorem comp_ok (C : CompOk X scope N k fs) (I : Inv X pins σ H s) (hf : ∀ b ∈ fp, FpOk X pins H b) (ho : ∀ b ∈ fp, b < s.heap.objs.size) : (cxComp X scope N fp s H).Ok where
  mod := I.ok.mod
  kind := C.kind
  glob := I.ok.glob
  blt := I.ok.blt
  above := Nat.le_refl _
  inj := fun x y c hx hy => by
    have ok := cellsFrom_ok scope.names (s.heap.push { cls := .type "dict", data := .dict #[] }) (s.heap.objs.size + 1) [] ⟨fun _ _ hm => (nomatch hm), List.Pairwise.nil⟩ (by rw [Heap.size_push]; exact Nat.le_refl _)
    rw [Heap.size_push] at ok
    have old : ∀ z c, X.env.cells.lookup z = some c → c < s.heap.objs.size := fun z c e => let ⟨_, q⟩ := I.cell z c e; q.lt
    rcases comp_cells hx with h1 | h1 <;> rcases comp_cells hy with h2 | h2
    · exact name_of_addr ok.apart h1 h2
    · exact absurd (old _ _ h2) (Nat.not_lt.mpr (Nat.le_of_succ_le (ok.empty _ _ h1).2))
    · exact absurd (old _ _ h1) (Nat.not_lt.mpr (Nat.le_of_succ_le (ok.empty _ _ h2).2))
    · exact I.ok.inj x y c h1 h2
  has := fun x h => by
    have h' : scope.names.lookup x = some .cell ∨ scope.names.lookup x = some .free := relabel_kind h
    have : ((cellsFrom (s.heap.objs.size + 1) scope.names (clGo X.env.cells scope.names [])).lookup x).isSome = true := by
      refine PySem.W.cellsFrom_some _ _ _ ?_
      rcases h' with h' | h'
      · exact .inl h'
      · right
        obtain ⟨c, hc⟩ := lookup_isSome_of_mem (C.free _ (mem_of_lookup h') rfl)
        have hm : x ∈ (clGo X.env.cells scope.names []).map (·.1) := List.mem_map.mpr ⟨(x, c), clGo_has _ _ (.inr ⟨mem_of_lookup h', hc⟩), rfl⟩
        obtain ⟨a, ha⟩ := lookup_isSome_of_mem hm
        rw [ha]; rfl
    exact Option.isSome_iff_exists.mp this
  cab := fun x c hx hl => by
    have hx' : scope.names.lookup x = some .cell := of_decide_eq_true hx
    have hsome : ((cellsFrom (s.heap.objs.size + 1) scope.names []).lookup x).isSome = true := PySem.W.cellsFrom_some _ _ _ (.inl hx')
    obtain ⟨c', hc'⟩ := Option.isSome_iff_exists.mp hsome
    have hl' : (cellsFrom (s.heap.objs.size + 1) scope.names (clGo X.env.cells scope.names [])).lookup x = some c := hl
    rw [cellsFrom_acc, List.lookup_append, hc'] at hl'
    cases hl'
    have ok := cellsFrom_ok scope.names (s.heap.push { cls := .type "dict", data := .dict #[] }) (s.heap.objs.size + 1) [] ⟨fun _ _ hm => (nomatch hm), List.Pairwise.nil⟩ (by rw [Heap.size_push]; exact Nat.le_refl _)
    rw [Heap.size_push] at ok
    exact Nat.le_of_succ_le (ok.empty _ _ (mem_of_lookup hc')).2
  hd := I.ok.hd
  frames := I.ok.frames
  stk := .inl rfl
  exf := fun b hb => ⟨Nat.ne_of_lt (ho b hb), fun x c e z => by
    have ok := cellsFrom_ok scope.names (s.heap.push { cls := .type "dict", data := .dict #[] }) (s.heap.objs.size + 1) [] ⟨fun _ _ hm => (nomatch hm), List.Pairwise.nil⟩ (by rw [Heap.size_push]; exact Nat.le_refl _)
    rw [Heap.size_push] at ok
    rcases comp_cells (cells := X.env.cells) e with h1 | h1
    · have h2 := (ok.empty _ _ h1).2
      have h3 := ho b hb
      rw [z] at h2
      exact Nat.lt_irrefl _ (Nat.lt_of_lt_of_le h3 (Nat.le_of_succ_le h2))
    · exact (hf b hb).2.2.2.2.1 x c h1 z⟩
  bs := I.bs
  bsz := Nat.le_trans I.ok.bsz I.sz
  noex := fun b o e hb => by
    rcases (hf b hb).2.2.2.1 with z | z
    · exact I.ok.noex b o e z
    · exact absurd (Nat.lt_of_lt_of_le (Heap.lt_size e) (Nat.le_trans I.ok.bsz z)) (Nat.lt_irrefl _)
  exfs := fun b hb z => by
    rcases List.mem_cons.mp (I.stkSub b z) with e | e
    · exact (hf b hb).2.1 e
    · exact (hf b hb).2.2.1 e
  funs := I.stack
  frf := I.stkFree
theorem compSt_len (σ : St) : (compSt k fs σ).length = k + fs.length := by simp [compSt]
theorem compSt_out {σ : St} {i : Nat} {v : V} (h : (compSt k fs σ)[i]? = some (some v)) : ∃ j i', i = k + j ∧ fs[j]? = some i' ∧ σ[i']? = some (some v) := by
  unfold compSt at h
  by_cases hi : i < k
  · rw [List.getElem?_append_left (by simpa using hi), List.getElem?_replicate_of_lt hi] at h
    cases h
  · rw [List.getElem?_append_right (by simpa using Nat.le_of_not_lt hi), List.length_replicate, List.getElem?_map] at h
    cases e : fs[i - k]? with
    | none => rw [e] at h; cases h
    | some i' =>
      rw [e] at h
      refine ⟨i - k, i', by omega, e, ?_⟩
      have h' : (σ[i']?).join = some v := Option.some.inj h
      cases e2 : σ[i']? with
      | none => rw [e2] at h'; cases h'
      | some o =>
        rw [e2] at h'
        have : o = some v := h'
        rw [this]
theorem comp_inv (C : CompOk X scope N k fs) (I : Inv X pins σ H s) (hf : ∀ b ∈ fp, FpOk X pins H b) (ho : ∀ b ∈ fp, b < s.heap.objs.size) :
    Inv (cxComp X scope N fp s H) [] (compSt k fs σ) H { s with heap := pushCells (s.heap.push { cls := .type "dict", data := .dict #[] }) scope.names } := by
  have keep : ∀ b o, s.heap.get? b = some o → (pushCells (s.heap.push { cls := .type "dict", data := .dict #[] }) scope.names).get? b = some o := fun b o e => pushCells_keeps _ _ b o (Heap.get?_push_of_some _ e)
  have ok := cellsFrom_ok scope.names (s.heap.push { cls := .type "dict", data := .dict #[] }) (s.heap.objs.size + 1) [] ⟨fun _ _ hm => (nomatch hm), List.Pairwise.nil⟩ (by rw [Heap.size_push]; exact Nat.le_refl _)
  rw [Heap.size_push] at ok
  refine ⟨comp_ok C I hf ho, rfl, I.bare, Un.kept keep, ⟨fun _ => none, ?_, fun i x v hN hσ hv => ?_⟩, fun x c e => ?_, I.hok.fresh (Nat.le_refl _), fun x c e => ?_, (fun p hp => by simp [cxComp] at hp), I.hok.kept keep, by rw [compSt_len]; exact C.len.symm⟩
  · exact (Heap.Ns.new s.heap (.type "dict")).keeps (pushCells_keeps _ _)
  · obtain ⟨j, i', rfl, hj, hσ'⟩ := compSt_out hσ
    obtain ⟨y, hy1, hy2, hy3, hy4⟩ := C.out j i' hj
    have e : y = x := Option.some.inj (hy1.symm.trans hN)
    subst e
    obtain ⟨m, hn, hl⟩ := I.loc
    have hvis : Vis X.env.scope y := by
      rcases hy4 with z | z
      · exact .inr (.inl z)
      · exact .inr (.inr z)
    obtain ⟨u, ru, lk⟩ := hl i' y v hy2 hσ' hvis
    refine ⟨u, ru, .inr ⟨?_, ?_⟩⟩
    · exact relabel_free hy3
    · rcases lk with ⟨hk, _⟩ | ⟨_, c, hc, hcell⟩
      · rcases hy4 with z | z <;> (rw [hk] at z; cases z)
      · refine ⟨c, ?_, hcell.keeps keep⟩
        show (cellsFrom (s.heap.objs.size + 1) scope.names (clGo X.env.cells scope.names [])).lookup y = some c
        have h1 : (cellsFrom (s.heap.objs.size + 1) scope.names []).lookup y = none := by
          cases e2 : (cellsFrom (s.heap.objs.size + 1) scope.names []).lookup y with
          | none => rfl
          | some c' =>
            have := mem_lookup C.nd (cellsFrom_mem _ _ (mem_of_lookup e2))
            rw [hy3] at this
            cases this
        have h2 : y ∈ (clGo X.env.cells scope.names []).map (·.1) := List.mem_map.mpr ⟨(y, c), clGo_has _ _ (.inr ⟨mem_of_lookup hy3, hc⟩), rfl⟩
        obtain ⟨c2, hc2⟩ := lookup_isSome_of_mem h2
        have h3 := clGo_lookup hc2
        rw [hc] at h3
        cases h3
        rw [cellsFrom_acc, List.lookup_append, h1, hc2]
        rfl
  · rcases comp_cells (cells := X.env.cells) e with h1 | h1
    · exact ⟨none, (ok.empty _ _ h1).1⟩
    · obtain ⟨v, z⟩ := I.cell x c h1
      exact ⟨v, z.keeps keep⟩
  · rcases comp_cells (cells := X.env.cells) e with h1 | h1
    · exact I.hok.fresh (Nat.le_of_succ_le (ok.empty _ _ h1).2)
    · exact I.freeC x c h1
end
end L2
set_option Elab.async false
set_option linter.all false
set_option maxRecDepth 100000
set_option maxHeartbeats 1000000
namespace L2
open PySem PySem.Spec PyProof.Rows
theorem newEnv_comp {M : Model} {A : Around} {E : Value → Shared → Prop} {s : Shared} {scope : Scope} {env : Env} {Q : Env → Shared → Prop}
    (h : Q (newEnv scope s.heap.objs.size env.globals (cellsFrom (s.heap.objs.size + 1) scope.names (clGo env.cells scope.names [])) env.qual none .none (some env) builtinsNs)
      { s with heap := pushCells (s.heap.push { cls := .type "dict", data := .dict #[] }) scope.names }) :
    wpAny M A (newFunctionEnv scope env.globals (clGo env.cells scope.names []) [] env.qual none .none (some env)) Q E s := by
  have sz : (s.heap.push { cls := .type "dict", data := .dict #[] }).objs.size = s.heap.objs.size + 1 := Heap.size_push ..
  unfold newFunctionEnv
  rw [if_pos (show (some env).isSome = true from rfl)]
  apply wpAny_bind
  apply wpAny_alloc
  apply wpAny_bind
  apply wpAny_layCells
  · intro name kind cells
    cases e : kind == NameKind.cell <;> simp [e]
  · rw [sz]
    apply wpAny_bind
    apply wpAny_pure
    exact wpAny_pure h
def CompRd (J : It) (k : Nat) (fs : List Nat) (g : TG) (tb : St → Hp → (Option V → Hp → Prop) → Prop) (σ : St) (acc : Addr) (Qf : Hp → Prop) (H : Hp) : Prop :=
  ∃ W : Nat → Nat → List V → Hp → Prop, (∃ m, W 0 m [] (upd H acc (.lst []))) ∧ ∀ i m ys H2, W i m ys H2 → H2 acc = some (.lst ys) ∧
    ((J.stop i H2 ∧ Qf H2) ∨ (J.go i H2 ∧ ys.length < sizeLine ∧ ∀ x H3, J.yld i H2 x H3 → g x (compSt k fs σ) H3 fun σ4 H4 => tb σ4 H4 fun o H5 =>
      match o with
      | some v => H5 acc = some (.lst ys) ∧ ∃ m', m' < m ∧ W (i + 1) m' (ys ++ [v]) (upd H5 acc (.lst (ys ++ [v])))
      | none => ∃ m', m' < m ∧ W (i + 1) m' ys H5))
def PB (X : Cx) (ifs : List Expr) (elt : Expr) (tb : St → Hp → (Option V → Hp → Prop) → Prop) : Prop :=
  ∀ (pins : List (Addr × Obj)) (s : Shared) (σ : St) (H : Hp) (Q : Option V → Hp → Prop), Inv X pins σ H s → tb σ H Q →
    wpAny (model X.prog X.w) X.A (tested ifs X.env)
      (fun ok s1 => if ok = true then wpAny (model X.prog X.w) X.A (eval elt X.env) (fun u s2 => ∃ v H', Inv X pins σ H' s2 ∧ RelV v u ∧ Q (some v) H') X.xe s1 else ∃ H', Inv X pins σ H' s1 ∧ Q none H') X.xe s
def bElt (te : TE) : St → Hp → (Option V → Hp → Prop) → Prop := fun σ H Q => te σ H fun v H' => Q (some v) H'
theorem pb_elt {X : Cx} {elt : Expr} {te : TE} (he : PE X elt te) : PB X [] elt (bElt te) := by
  intro pins s σ H Q I h
  refine wpAny_tests_nil ?_
  rw [if_pos rfl]
  exact thn (he pins s σ H _ I h) fun u s2 ⟨v, H', I', r, q⟩ => ⟨v, H', I', r, q⟩
section
variable {X : Cx} {pins : List (Addr × Obj)} {σ : St} {H : Hp} {s : Shared} {scope : Scope} {N : List Str} {k : Nat} {fs : List Nat} {tg iter elt : Expr} {ifs : List Expr} {pos : Pos} {g : TG} {tb : St → Hp → (Option V → Hp → Prop) → Prop}
theorem comp_block {J : It} {fp : List Addr} {it : Addr} {tn : Nat → Heap → Prop} {Qf : Addr → Hp → Prop} {RR : Value → Addr → Result → Shared → Prop} {E : Value → Shared → Prop} (hc : X.calm = true) (C : CompOk X scope N k fs) (I : Inv X pins σ H s)
    (T : Turn X.prog X.w X.K tg J fp it tn) (t0 : tn 0 s.heap) (f0 : ∀ b ∈ fp, FpOk X pins H b) (hg : ∀ fp s H, PG (cxComp X scope N fp s H) tg g) (gl : GLow k g) (hb : ∀ fp s H, PB (cxComp X scope N fp s H) ifs elt tb)
    (h : ∀ acc, H acc = none → CompRd J k fs g tb σ acc (Qf acc) H)
    (hRR : ∀ (acc B : Addr) (H' : Hp) (s' : Shared) (m : Str → Option Value), Qf acc H' → Inv X pins σ H' s' → FpOk X pins H' B → s'.heap.Ns B m → RR (.ref acc) B (.ok .next) s') :
    wpAny (model X.prog X.w) X.A (newList []) (fun acc s₃ => wpAny (model X.prog X.w) X.A (newFunctionEnv scope X.env.globals (clGo X.env.cells scope.names []) [] X.env.qual none .none (some X.env)) (fun cenv s₄ =>
      codeAny (model X.prog X.w) X.A (.compStart (.ListComp elt [⟨tg, iter, ifs, 0⟩] scope pos) 0 (.ref it) acc { cenv with scope := relabel scope X.env }) (RR acc cenv.locals) s₄) E s₃) E s := by
  have hfr : H s.heap.objs.size = none := I.fresh
  refine wpAny_newObj_type ?_
  have I1 : Inv X pins σ (upd H s.heap.objs.size (.lst [])) { s with heap := s.heap.push { cls := .type "list", data := .seq ([] : List Value).toArray } } := I.lnew (t' := s.toks) (its := []) .nil (Nat.zero_le _)
  obtain ⟨W, ⟨m0, w0⟩, turn⟩ := h _ hfr
  generalize hacc : s.heap.objs.size = acc at *
  generalize hs1 : ({ s with heap := s.heap.push { cls := .type "list", data := .seq ([] : List Value).toArray } } : Shared) = s1 at *
  have keep1 : ∀ b o, s.heap.get? b = some o → s1.heap.get? b = some o := fun b o e => by rw [← hs1]; exact Heap.get?_push_of_some _ e
  have fpl : ∀ b ∈ fp, b < s.heap.objs.size := fun b hb => let ⟨o, e, _⟩ := T.obj _ _ t0 b hb; Heap.lt_size e
  have sz1 : s1.heap.objs.size = acc + 1 := by rw [← hs1, ← hacc]; exact Heap.size_push ..
  have f1 : ∀ b ∈ fp, FpOk X pins (upd H acc (.lst [])) b := fun b hb => ⟨by rw [upd_ne (Nat.ne_of_lt (by rw [← hacc]; exact fpl b hb))]; exact (f0 b hb).1, (f0 b hb).2⟩
  have ho1 : ∀ b ∈ fp, b < s1.heap.objs.size := fun b hb => by rw [sz1, ← hacc]; exact Nat.lt_succ_of_lt (fpl b hb)
  have t1 : tn 0 s1.heap := T.keep _ _ _ t0 fun b _ o e => keep1 b o e
  refine newEnv_comp ?_
  have I2 := comp_inv (fp := fp) C I1 f1 ho1
  have keep2 : ∀ b o, s1.heap.get? b = some o → (pushCells (s1.heap.push { cls := .type "dict", data := .dict #[] }) scope.names).get? b = some o := fun b o e => pushCells_keeps _ _ b o (Heap.get?_push_of_some _ e)
  generalize hs2 : ({ s1 with heap := pushCells (s1.heap.push { cls := .type "dict", data := .dict #[] }) scope.names } : Shared) = s2 at *
  have t2 : tn 0 s2.heap := T.keep _ _ _ t1 fun b _ o e => by rw [← hs2]; exact keep2 b o e
  have stat : ∀ {H' : Hp}, (∀ b ∈ fp, H' b = none) → ∀ b ∈ fp, FpOk (cxComp X scope N fp s1 (upd H acc (.lst []))) [] H' b := fun {H'} hn b hb =>
    ⟨hn b hb, ((I2.ok.exf b hb)).1, I2.ok.exfs b hb, .inl hb, (I2.ok.exf b hb).2, (fun p hp => by simp [cxComp] at hp)⟩
  have back : ∀ {σ' : St} {H' : Hp} {s' : Shared}, Inv (cxComp X scope N fp s1 (upd H acc (.lst []))) [] σ' H' s' → Inv X pins σ H' s' ∧ FpOk X pins H' s1.heap.objs.size ∧ ∃ m, s'.heap.Ns s1.heap.objs.size m := fun {σ' H' s'} J => by
    refine ⟨I1.call' (ch := fp) J.os J.base J.hok J.bare fun b hb => ⟨(f1 b hb).2.2.2.1, (f1 b hb).2.1, (f1 b hb).2.2.2.2.1, (f1 b hb).2.2.2.2.2⟩, I1.fpOk (Nat.le_refl _) J.free, ?_⟩
    obtain ⟨m, hn, _⟩ := J.loc
    exact ⟨m, hn⟩
  have loop : codeAny (model X.prog X.w) X.A (.compLoop (.ListComp elt [⟨tg, iter, ifs, 0⟩] scope pos) 0 (.ref it) (.ref acc) (compEnvX scope s1.heap.objs.size X.env)) (RR (.ref acc) s1.heap.objs.size) s2 := by
    refine compLoop_any (fun n s' => ∃ i σ' H' ys, Inv (cxComp X scope N fp s1 (upd H acc (.lst []))) [] σ' H' s' ∧ tn i s'.heap ∧ (∀ b ∈ fp, H' b = none) ∧ W i n ys H' ∧ σ'.length = (compSt k fs σ).length ∧ ∀ j, k ≤ j → σ'[j]? = (compSt k fs σ)[j]?) ?_ m0
      ⟨0, _, _, [], I2, t2, fun b hb => (f1 b hb).1, w0, rfl, fun _ _ => rfl⟩
    rintro n s3 ⟨i, σ3, H3, ys, I3, st3, fr3, w3, len3, ag3⟩
    have I3' := I3.weak (σ' := compSt k fs σ) len3.symm fun j v e => by
      obtain ⟨j', i', rfl, _, _⟩ := compSt_out e
      rw [ag3 _ (Nat.le_add_right _ _)]
      exact e
    obtain ⟨ha, hcase⟩ := turn i n ys H3 w3
    rcases hcase with ⟨stop, q⟩ | ⟨go, hlt, step⟩
    · refine thn (T.done (cxComp X scope N fp s1 (upd H acc (.lst []))) rfl rfl rfl hc i [] s3 _ H3 _ I3' (stat fr3) st3 stop) fun r s4 ⟨hr, I4⟩ => ?_
      subst hr
      obtain ⟨b1, b2, m, b3⟩ := back I4
      exact hRR acc _ H3 s4 m q b1 b2 b3
    · refine thn (T.item (cxComp X scope N fp s1 (upd H acc (.lst []))) rfl rfl rfl hc i [] s3 _ H3 _ I3' (stat fr3) st3 go) fun r s4 ⟨u, hr, h4⟩ => ?_
      subst hr
      refine thn h4 fun _ s5 ⟨x, H5, I5, r5, y5, st5, fr5⟩ => ?_
      have I5' := I5.pinned (stat fr5) (T.obj _ _ st5)
      refine thn (hg _ _ _ _ s5 _ H5 x u _ I5' r5 (gl _ _ _ _ (step x H5 y5))) fun _ s6 ⟨σ6, H6, I6, q6, len6, ag6⟩ => ?_
      refine thn (hb _ _ _ _ s6 σ6 H6 _ I6 q6) fun ok s7 q7 => ?_
      have again : ∀ {H8 : Hp} {s8 : Shared} {ys' : List V} {m' : Nat}, Inv (cxComp X scope N fp s1 (upd H acc (.lst []))) ([] ++ pinsAt fp s5.heap) σ6 H8 s8 → m' < n → W (i + 1) m' ys' H8 →
          ∃ m, m < n ∧ ∃ i σ' H' ys, Inv (cxComp X scope N fp s1 (upd H acc (.lst []))) [] σ' H' s8 ∧ tn i s8.heap ∧ (∀ b ∈ fp, H' b = none) ∧ W i m ys H' ∧ σ'.length = (compSt k fs σ).length ∧ ∀ j, k ≤ j → σ'[j]? = (compSt k fs σ)[j]? := fun {H8 s8 ys' m'} I8 hm w8 => by
        refine ⟨m', hm, i + 1, σ6, H8, ys', I8.unpinned, T.keep _ _ _ st5 fun b hb o e => (I8.pin (b, o) (List.mem_append_right _ (List.mem_append_right _ (mem_pinsAt hb e)))).1, fun b hb => ?_, w8, len6, ag6⟩
        obtain ⟨o, e, d⟩ := T.obj _ _ st5 b hb
        exact (I8.pin (b, o) (List.mem_append_right _ (List.mem_append_right _ (mem_pinsAt hb e)))).2.1
      cases ok with
      | false =>
        rw [if_neg Bool.false_ne_true] at q7 ⊢
        obtain ⟨H8, I8, m', hm, w8⟩ := q7
        exact again I8 hm w8
      | true =>
        rw [if_pos rfl] at q7 ⊢
        refine thn q7 fun u8 s8 ⟨v, H8, I8, r8, ha8, m', hm, w8⟩ => ?_
        refine thn (mt_append _ s8 σ6 H8 (.ref acc) [v] (.ref acc) [u8] (fun _ H' => H' = upd H8 acc (.lst (ys ++ [v]))) I8 rfl (.cons r8 .nil) ⟨acc, ys, v, rfl, rfl, ha8, hlt, rfl⟩) fun _ s9 ⟨_, H9, I9, _, e9⟩ => ?_
        subst e9
        exact again I9 hm w8
  exact codeAny_compStart_list loop (T.self _ 0 _ _ _ t2 loop)
def tComp (wi : TI) (k : Nat) (fs : List Nat) (g : TG) (tb : St → Hp → (Option V → Hp → Prop) → Prop) : TE := fun σ H Q => wi σ H fun J H1 => ∀ acc, H1 acc = none → CompRd J k fs g tb σ acc (fun H2 => Q (.ref acc) H2) H1
theorem pe_comp {wi : TI} (hc : X.calm = true) (C : CompOk X scope N k fs) (hi : PI X tg iter wi) (hg : ∀ fp s H, PG (cxComp X scope N fp s H) tg g) (gl : GLow k g) (hb : ∀ fp s H, PB (cxComp X scope N fp s H) ifs elt tb)
    (hs : ∀ x, foldedSetIterable iter X.env x = pure x := by intro _; rfl) : PE X (.ListComp elt [⟨tg, iter, ifs, 0⟩] scope pos) (tComp wi k fs g tb) := by
  intro pins s σ H Q I h
  rw [eval_ListComp]
  refine wpAny_comprehension_free (use := none) rfl hs C.clos C.kind C.names (thn (hi pins s σ H _ I h) fun v s1 h1 => thn h1 fun itv s2 h2 => ?_)
  obtain ⟨it, fp, tn, J, H2, e, I2, T, st2, f2, q2⟩ := h2
  subst e
  refine comp_block (RR := fun acc B => compPost (model X.prog X.w) X.A X.xe none (EP X pins σ Q) acc B) hc C I2 T st2 f2 hg gl hb q2 ?_
  intro acc B H' s' m q I' F n
  exact ⟨m, n, fun h' sb => ⟨.ref acc, H', I'.turned (t' := s'.toks) (fun b o hb e => sb.extBut b o hb e) F.1 F.2.1 F.2.2.2.1 F.2.2.2.2.1 F.2.2.2.2.2, rfl, q⟩⟩
end
end L2
set_option Elab.async false
set_option linter.all false
set_option maxRecDepth 100000
set_option maxHeartbeats 1000000
namespace L2
open PySem PySem.Spec PyProof.Rows
mutual
inductive Has (K : PySem.W.Frag) (H : Hp) : V → PyData → Prop
  | non : Has K H .non .none
  | bl (b : Bool) : Has K H (.bl b) (.bool b)
  | int (i : Int) : Has K H (.int i) (.int i)
  | str (x : Str) : Has K H (.str x) (.str x)
  | lst {a : Addr} {xs : List V} {ds : List PyData} : SqL K H a xs → HasAll K H xs ds → Has K H (.ref a) (.list ds)
  | tup {a : Addr} {xs : List V} {ds : List PyData} : SqT K H a xs → HasAll K H xs ds → Has K H (.ref a) (.tuple ds)
inductive HasAll (K : PySem.W.Frag) (H : Hp) : List V → List PyData → Prop
  | nil : HasAll K H [] []
  | cons {v : V} {d : PyData} {vs : List V} {ds : List PyData} : Has K H v d → HasAll K H vs ds → HasAll K H (v :: vs) (d :: ds)
end
theorem Same.seqT {K : PySem.W.Frag} {H H' : Hp} {a : Addr} {xs : List V} (e : Same H H') (h : SqT K H a xs) : SqT K H' a xs := by
  rcases h with (h | ⟨o, h⟩) | h
  · exact .inl (.inl (e _ _ h))
  · exact .inl (.inr ⟨o, e _ _ h⟩)
  · exact .inr h
mutual
theorem Has.same {K : PySem.W.Frag} {H H' : Hp} (e : Same H H') : ∀ {v : V} {d : PyData}, Has K H v d → Has K H' v d
  | _, _, .non => .non
  | _, _, .bl b => .bl b
  | _, _, .int i => .int i
  | _, _, .str x => .str x
  | _, _, .lst h r => .lst (e.seq h) (HasAll.same e r)
  | _, _, .tup h r => .tup (e.seqT h) (HasAll.same e r)
theorem HasAll.same {K : PySem.W.Frag} {H H' : Hp} (e : Same H H') : ∀ {v : List V} {d : List PyData}, HasAll K H v d → HasAll K H' v d
  | _, _, .nil => .nil
  | _, _, .cons h r => .cons (Has.same e h) (HasAll.same e r)
end
mutual
theorem Has.reads {X : Cx} {pins : List (Addr × Obj)} {σ : St} {H : Hp} {s : Shared} (I : Inv X pins σ H s) : ∀ {v : V} {d : PyData}, Has X.K H v d → ∀ {u : Value}, RelV v u → ∃ as, Reads s.heap u d as
  | _, _, .non, u, r => by cases (show u = Value.none from r); exact ⟨_, .none⟩
  | _, _, .bl b, u, r => by cases (show u = Value.bool b from r); exact ⟨_, .bool b⟩
  | _, _, .int i, u, r => by obtain ⟨t, rfl⟩ := (show ∃ t, u = Value.int i t from r); exact ⟨_, .int i t⟩
  | _, _, .str x, u, r => by obtain ⟨t, rfl⟩ := (show ∃ t, u = Value.str x t from r); exact ⟨_, .str x t⟩
  | _, _, .lst (a := a) h r, u, q => by
    cases (show u = Value.ref a from q)
    obtain ⟨its, rv, p, _⟩ := I.list h
    obtain ⟨as, ra⟩ := HasAll.reads I r rv
    obtain ⟨o, ho, hc, n, hd⟩ := p.isList
    exact ⟨_, .list ho hc hd (by rw [List.toList_toArray]; exact ra)⟩
  | _, _, .tup (a := a) h r, u, q => by
    cases (show u = Value.ref a from q)
    obtain ⟨its, rv, p, _⟩ := I.tuple h
    obtain ⟨as, ra⟩ := HasAll.reads I r rv
    obtain ⟨o, ho, hc, n, hd⟩ := p
    exact ⟨_, .tuple ho hc hd (by rw [List.toList_toArray]; exact ra)⟩
theorem HasAll.reads {X : Cx} {pins : List (Addr × Obj)} {σ : St} {H : Hp} {s : Shared} (I : Inv X pins σ H s) : ∀ {vs : List V} {ds : List PyData}, HasAll X.K H vs ds → ∀ {us : List Value}, Vals vs us → ∃ as, ReadsAll s.heap us ds as
  | _, _, .nil, us, r => by cases r; exact ⟨_, .nil⟩
  | _, _, .cons h t, us, r => by
    cases r with
    | cons r1 r2 =>
      obtain ⟨a1, h1⟩ := Has.reads I h r1
      obtain ⟨a2, h2⟩ := HasAll.reads I t r2
      exact ⟨_, .cons h1 h2⟩
end
theorem HasAll.ints {K : PySem.W.Frag} {H : Hp} : ∀ ns : List Int, HasAll K H (ns.map V.int) (ns.map PyData.int)
  | [] => .nil
  | n :: r => .cons (.int n) (HasAll.ints r)
def dI (ns : List Int) : PyData := .list (ns.map PyData.int)
theorem Has.ints {K : PySem.W.Frag} {H : Hp} {a : Addr} {ns : List Int} (h : SqL K H a (ns.map V.int)) : Has K H (.ref a) (dI ns) := .lst h (HasAll.ints ns)
section
variable {X : Cx}
def rEqD (K : PySem.W.Frag) : R2 := fun x y H Q => ∃ d e, Has K H x d ∧ Has K H y e ∧ SeqAt.shaped d = true ∧ SeqAt.shaped e = true ∧ Q (.bl (PyData.eqv d e)) H
def rNeD (K : PySem.W.Frag) : R2 := fun x y H Q => ∃ d e, Has K H x d ∧ Has K H y e ∧ SeqAt.shaped d = true ∧ SeqAt.shaped e = true ∧ Q (.bl (!PyData.eqv d e)) H
theorem op_eqD (hu : X.A.units + 64 < cLine) : OpR X (compareOp .Eq) (rEqD X.K) := by
  intro pins s σ H x y v u Q I rx ry h
  obtain ⟨d, e, hd, he, sd, se, q⟩ := h
  obtain ⟨as, ra⟩ := hd.reads I rx
  obtain ⟨bs, rb⟩ := he.reads I ry
  exact SeqAt.compareEq_shaped ra rb sd se hu ⟨.bl _, H, I, rfl, q⟩
theorem op_neD (hu : X.A.units + 64 < cLine) : OpR X (compareOp .NotEq) (rNeD X.K) := by
  intro pins s σ H x y v u Q I rx ry h
  obtain ⟨d, e, hd, he, sd, se, q⟩ := h
  obtain ⟨as, ra⟩ := hd.reads I rx
  obtain ⟨bs, rb⟩ := he.reads I ry
  exact SeqAt.compareNe_shaped ra rb sd se hu ⟨.bl _, H, I, rfl, q⟩
theorem ints_vals : ∀ {ns : List Int} {us : List Value}, Vals (ns.map V.int) us → IntsAre us ns := fun r => intsAre_of r
theorem call_sum (hc : X.calm = true) : CallR X (.builtin "sum") (fun xs H Q => ∃ (a : Addr) (ns : List Int), xs = [.ref a] ∧ SqL X.K H a (ns.map V.int) ∧ Q (.int ns.sum) H) := by
  intro pins s σ H xs us Q I r h
  obtain ⟨a, ns, rfl, hq, q⟩ := h
  obtain ⟨u, rfl, rx⟩ := vals1 r
  cases rx
  obtain ⟨its, rv, p, _⟩ := I.list hq
  have hi := ints_vals rv
  obtain ⟨nums, hx⟩ := hi.allInts.items
  have hl' : s.heap.IsList a (intItems nums) := hx ▸ p.isList
  refine sum_intListG (I.ok.hd hc) hl' fun h' tk t' hk => ?_
  have e1 : ns = nums.toList.map (fun z => z.1) := by
    rw [← nums_intItems, ← hx]
    exact (show numsOf its.toArray.toList = ns from hi.numsOf).symm
  have e2 : preSum (numAt nums) nums.size = ns.sum := by rw [preSum_eq, List.take_of_length_le (by simp), e1]
  exact ⟨.int ns.sum, H, I.kept hk, ⟨t', by rw [e2]⟩, q⟩
theorem Inv.laidAll {pins : List (Addr × Obj)} {σ : St} {H H2 : Hp} {s : Shared} {h' : Heap} {t' : Nat} (I : Inv X pins σ H s) (k : ∀ b u, s.heap.get? b = some u → h'.get? b = some u) (same : Same H H2)
    (new : ∀ b o, H2 b = some o → H b = none → s.heap.objs.size ≤ b ∧ ObjOk X.prog X.w H2 h' b o) : Inv X pins σ H2 { s with heap := h', toks := t' } := by
  refine I.un ⟨fun b u q _ _ _ => k b u q, fun b u q _ _ _ => ⟨u.slots, k b u q⟩, fun b u q n _ => ?_, fun b u q _ => ⟨u, k b u q⟩, fun b xs q => same b _ q, fun b u xs q => same b _ q, fun b ps q => ⟨#[], by rw [same b _ q]; simp⟩⟩ fun b o e => ?_
  · cases e : H2 b with
    | none => rfl
    | some o => exact absurd (Heap.lt_size q) (Nat.not_lt.mpr (new b o e n).1)
  · cases e1 : H b with
    | none => exact (new b o e e1).2
    | some u =>
      have := same b u e1
      rw [e] at this
      cases this
      exact (I.hok b _ e1).stay (fun c v _ q => k c v q) (fun c q => same c _ q) fun c xs q => same c _ q
theorem vals_refs : ∀ as : List Addr, Vals (as.map V.ref) (as.map Value.ref)
  | [] => .nil
  | _ :: r => .cons rfl (vals_refs r)
def ZNew (xs ys : List V) (H H2 : Hp) (l : Addr) (ts : List Addr) : Prop :=
  Same H H2 ∧ H l = none ∧ H2 l = some (.lst (ts.map V.ref)) ∧ ts.length = min xs.length ys.length ∧ ∀ (j : Nat) (t : Addr), ts[j]? = some t → H t = none ∧ ∃ x y, xs[j]? = some x ∧ ys[j]? = some y ∧ H2 t = some (.tup [x, y])
def tListZip (K : PySem.W.Frag) (t : TA) : TE := fun σ H Q => t σ H fun vs H1 => ∃ a b xs ys, vs = [.ref a, .ref b] ∧ SqL K H1 a xs ∧ SqL K H1 b ys ∧ ∀ l ts H2, ZNew xs ys H1 H2 l ts → Q (.ref l) H2
theorem listzip_ok {pins : List (Addr × Obj)} {σ : St} {H : Hp} {s : Shared} {a b : Addr} {xs ys : List V} {Q : VK} (hc : X.calm = true) (I : Inv X pins σ H s) (ha : SqL X.K H a xs) (hb : SqL X.K H b ys) (q : ∀ l ts H2, ZNew xs ys H H2 l ts → Q (.ref l) H2) :
    wpAny (model X.prog X.w) X.A (call (.type "zip") [.ref a, .ref b]) (fun z s1 => wpAny (model X.prog X.w) X.A (call (.type "list") [z]) (EP X pins σ Q) X.xe s1) X.xe s := by
  obtain ⟨us, ru, pu, zu⟩ := I.list ha
  obtain ⟨vs, rv, pv, zv⟩ := I.list hb
  have lu := ru.length
  have lv := rv.length
  have a1 : a < s.heap.objs.size := by obtain ⟨_, e, _⟩ := pu.isList; exact Heap.lt_size e
  have a2 : b < s.heap.objs.size := by obtain ⟨_, e, _⟩ := pv.isList; exact Heap.lt_size e
  refine call_zip_2 pu.isList pv.isList fun h1 hz hTI hTO hi1 hi2 hsz hk => ?_
  refine Zp.listzip (s := { s with heap := h1 }) (old := s.heap.objs.size) (xs := us.toArray) (ys := vs.toArray) (I.ok.hd hc) (zipApart_new a1 a2) (by simp [Nat.le_add_right]) hz hTO hTI hi1 hi2 (Heap.IsList.at pu.isList (fun o e => hk _ o e)) (Heap.IsList.at pv.isList (fun o e => hk _ o e))
    (by simp only [List.size_toArray]; omega) fun h' ws c hlen G hl => ?_
  dsimp only at hlen G hl ⊢
  have kp' : ∀ b o, s.heap.get? b = some o → h'.get? b = some o := fun b o e => G.keep b o (Heap.lt_size e) (hk b o e)
  have big : s.heap.objs.size ≤ h1.objs.size := by rw [hsz]; exact Nat.le_add_right _ _
  obtain ⟨as, eas⟩ : ∃ as, as = List.range' (h1.objs.size + 1) ws.length := ⟨_, rfl⟩
  have hlen' : as.length = min xs.length ys.length := by rw [eas, List.length_range', hlen]; simp only [List.size_toArray]; omega
  have gt : ∀ (j : Nat) (t : Addr), as[j]? = some t → j < ws.length ∧ t = h1.objs.size + 1 + j := fun j t e => by
    rw [eas] at e
    obtain ⟨m, q⟩ := List.getElem?_eq_some_iff.mp e
    rw [List.getElem_range', Nat.one_mul] at q
    exact ⟨by simpa using m, q.symm⟩
  have hws : ws = as.map Value.ref := List.ext_getElem (by rw [eas]; simp) fun j m1 m2 => by
    rw [G.vals j _ (List.getElem?_eq_getElem m1)]
    simp [eas]
  have above : ∀ t ∈ as, h1.objs.size < t := fun t m => by
    obtain ⟨j, e⟩ := List.mem_iff_getElem?.mp m
    rw [(gt j t e).2]
    exact Zp.past _ j
  have hasz : ∀ t ∈ as, s.heap.objs.size ≤ t := fun t ht => Nat.le_trans big (Nat.le_of_lt (above t ht))
  have nd : as.Nodup := eas ▸ List.nodup_range'
  have hfl : H h1.objs.size = none := I.hok.fresh big
  let H2 : Hp := fun p => if p = h1.objs.size then some (.lst (as.map V.ref)) else match as.findIdx? (· == p) with
    | some j => match xs[j]?, ys[j]? with
      | some x, some y => some (.tup [x, y])
      | _, _ => H p
    | none => H p
  have fnd : ∀ (j : Nat) (t : Addr), as[j]? = some t → as.findIdx? (· == t) = some j := fun j t e => by
    rw [List.findIdx?_eq_some_iff_getElem]
    obtain ⟨hj, et⟩ := List.getElem?_eq_some_iff.mp e
    refine ⟨hj, by simp [et], fun k hkj => ?_⟩
    intro z
    have z' : as[k] = t := by simpa using z
    have : k = j := (List.getElem_inj nd).mp (z'.trans et.symm)
    omega
  have ne_l : ∀ t ∈ as, t ≠ h1.objs.size := fun t ht => Nat.ne_of_gt (above t ht)
  have at_t : ∀ (j : Nat) (t : Addr), as[j]? = some t → ∃ x y u v, xs[j]? = some x ∧ ys[j]? = some y ∧ RelV x u ∧ RelV y v ∧ IsPair h' t u v ∧ H2 t = some (.tup [x, y]) := fun j t e => by
    obtain ⟨jm, et⟩ := gt j t e
    obtain ⟨u, v, e1, e2, e3⟩ := G.pair j jm
    rw [← et] at e3
    have hj : j < as.length := (List.getElem?_eq_some_iff.mp e).1
    have hx : j < xs.length := by omega
    have hy : j < ys.length := by omega
    obtain ⟨u', f1, r1⟩ := ru.get (List.getElem?_eq_getElem hx)
    obtain ⟨v', f2, r2⟩ := rv.get (List.getElem?_eq_getElem hy)
    have g1 : us.toArray[j]? = some u' := by simpa using f1
    have g2 : vs.toArray[j]? = some v' := by simpa using f2
    rw [e1] at g1
    rw [e2] at g2
    cases g1
    cases g2
    refine ⟨_, _, u, v, List.getElem?_eq_getElem hx, List.getElem?_eq_getElem hy, r1, r2, e3, ?_⟩
    show (if t = h1.objs.size then _ else _) = _
    rw [if_neg (ne_l t (List.mem_of_getElem? e))]
    simp only [fnd j t e, List.getElem?_eq_getElem hx, List.getElem?_eq_getElem hy]
  have same : Same H H2 := fun p o e => by
    show (if p = h1.objs.size then _ else _) = _
    rw [if_neg (ne_of_none e hfl)]
    have : as.findIdx? (· == p) = none := by
      rw [List.findIdx?_eq_none_iff]
      intro t ht
      have : t ≠ p := fun z => by
        subst z
        have := I.hok.fresh (hasz t ht)
        rw [e] at this
        cases this
      simpa using this
    rw [this]
    exact e
  have atl : H2 h1.objs.size = some (.lst (as.map V.ref)) := if_pos rfl
  refine ⟨.ref h1.objs.size, H2, I.laidAll kp' same fun p o e n => ?_, rfl, q _ as H2 ⟨same, hfl, atl, hlen', fun j t e => ?_⟩⟩
  · by_cases hp : p = h1.objs.size
    · subst hp
      rw [atl] at e
      cases e
      refine ⟨big, by rw [List.length_map, hlen']; omega, as.map Value.ref, c, ?_, ?_⟩
      · exact vals_refs as
      · rw [hl, hws]; rfl
    · have e' : (match as.findIdx? (· == p) with
        | some j => match xs[j]?, ys[j]? with
          | some x, some y => some (HO.tup [x, y])
          | _, _ => H p
        | none => H p) = some o := by
        have : H2 p = _ := if_neg hp
        rw [← this]; exact e
      cases ef : as.findIdx? (· == p) with
      | none => rw [ef, n] at e'; cases e'
      | some j =>
        obtain ⟨hj, hpj, _⟩ := List.findIdx?_eq_some_iff_getElem.mp ef
        have ej : as[j]? = some p := by
          rw [List.getElem?_eq_getElem hj]
          simpa using hpj
        obtain ⟨x, y, u, v, _, _, r1, r2, pr, h2⟩ := at_t j p ej
        rw [e] at h2
        cases h2
        exact ⟨hasz p (List.mem_of_getElem? ej), by show 2 ≤ sizeLine; decide, [u, v], .cons r1 (.cons r2 .nil), ⟨_, pr, rfl, _, rfl⟩⟩
  · obtain ⟨x, y, u, v, f1, f2, r1, r2, pr, h2⟩ := at_t j t e
    exact ⟨I.hok.fresh (hasz t (List.mem_of_getElem? e)), x, y, f1, f2, h2⟩
theorem pe_listzip {a b : Expr} {t : TA} {p1 p2 q1 q2 : Pos} (hc : X.calm = true) (g1 : Gl X "list") (m1 : X.mg "list" = none) (g2 : Gl X "zip") (m2 : X.mg "zip" = none) (ha : PA X [a, b] t)
    (hs : starEach [a, b] X.env = [(false, eval a X.env), (false, eval b X.env)] := by rfl) (hs2 : starEach [b] X.env = [(false, eval b X.env)] := by rfl)
    (hs3 : starEach [Expr.Call (.Name "zip" p2) [a, b] [] q2] X.env = [(false, eval (.Call (.Name "zip" p2) [a, b] [] q2) X.env)] := by rfl) :
    PE X (.Call (.Name "list" p1) [.Call (.Name "zip" p2) [a, b] [] q2] [] q1) (tListZip X.K t) := by
  intro pins s σ H Q I h
  refine Call_ (ld_blt I g1 m1 boot_list (PyProof.Rows.callWith_type1 ?_ hs3 rfl))
  rw [hs3]
  refine Calls.spliced_cons ?_
  refine Call_ (ld_blt I g2 m2 boot_zip (PyProof.Rows.callWith_type1 (thn (ha q2 pins s σ H _ I h) fun us s1 ⟨vs, H1, I1, r1, x, y, xs, ys, e, h1, h2, q⟩ => ?_) (by rw [hs, hs2]) (by rw [hs2]; rfl)))
  subst e
  obtain ⟨u, v, rfl, rx, ry⟩ := vals2 r1
  cases rx
  cases ry
  refine thn (listzip_ok hc I1 h1 h2 q) fun z s2 hz => ?_
  exact Calls.spliced_nil hz
end
end L2
set_option Elab.async false
set_option linter.all false
set_option maxRecDepth 100000
set_option maxHeartbeats 1000000
namespace L2
open PySem PySem.Spec PyProof.Rows
section
variable {X : Cx}
def CMulB (i j : Int) : Prop := i.natAbs.log2 < 1000000 ∧ j.natAbs.log2 < 1000000
def CDivB (i j : Int) : Prop := 0 < j ∧ j.natAbs.log2 < 9000
theorem bits_of_log2 {i : Int} (h : i.natAbs.log2 < 1000000) : Builtin.Int.intBits i ≤ 2 ^ 20 := by
  have million : 1000000 < (2 : Nat) ^ 20 := by decide
  unfold Builtin.Int.intBits
  first
    | omega
    | (split <;> omega)
theorem op_mulB : OpR X (binaryOp .Mult) (rI CMulB fun i j => .int (i * j)) := opI fun _ _ _ _ _ _ _ hc q => mul_int q (.of_bits (bits_of_log2 hc.1) (bits_of_log2 hc.2))
theorem op_fdivB : OpR X (binaryOp .FloorDiv) (rI CDivB fun i j => .int (i / j)) := opI fun i j _ _ _ _ _ hc q => by
  have h1 : (0 : Int) < j := hc.1
  exact floordiv_int (by omega) (by rw [Int.fdiv_eq_ediv_of_nonneg i (by omega)]; exact q) (.inl (PyProof.noPylong_of_log2 hc.2))
end
end L2
set_option Elab.async false
set_option linter.all false
set_option maxRecDepth 100000
set_option maxHeartbeats 1000000
namespace L2
open PySem PySem.Spec PyProof.Rows
def Callee (P : Program) (w : World) (K : PySem.W.Frag) (mg : Str → Option Value) (base : Heap) (CX : CXT) (k : Nat) (x : Str) (ps : List Str) (sp : Sp) : Prop :=
  ∃ (f : Addr) (fd : FuncData), FnOk P w K mg base CX k f fd ps sp ∧ mg x = some (.ref f) ∧ PySem.W.keepIn K (.ref f) = true ∧ Binds K fd ps []
def FunAt (K : PySem.W.Frag) (mg : Str → Option Value) (x : Str) (st : Stmt) (ps : List Str) : Prop :=
  ∃ (f : Addr) (fd : FuncData), Fun K x x st f fd ∧ mg x = some (.ref f) ∧ Binds K fd ps []
theorem Callee.mono {P : Program} {w : World} {K : PySem.W.Frag} {mg : Str → Option Value} {base : Heap} {CX : CXT} {j k : Nat} {x : Str} {ps : List Str} {sp : Sp} (c : Callee P w K mg base CX j x ps sp) (h : j ≤ k) : Callee P w K mg base CX k x ps sp :=
  let ⟨f, fd, F, m, kp, b⟩ := c
  ⟨f, fd, F.mono h, m, kp, b⟩
section
variable {P : Program} {w : World} {K : PySem.W.Frag} {mg : Str → Option Value} {base : Heap}
end
theorem funAt_mk {K : PySem.W.Frag} {mg : Str → Option Value} {h : Heap} {x : Str} {st : Stmt} {ps : List Str} {f : Addr} {oc : Value} {od an : Option Addr} {osl : Array (Option Value)} {kV doc pm cdv ct : Value} (X : K.In h) (G : h.Ns mainGlobals mg)
    (a : PySem.W.nsIn K mainGlobals x = some (some (.ref f))) (l : K.lookup f = some ⟨oc, od, .func (PySem.W.fnOf x x (defArgs st) (defBody st) (defScope st) .none kV doc pm an cdv ct), osl⟩)
    (c : PySem.W.codeIn K cdv x = true) (kp : PySem.W.keepIn K (.ref f) = true)
    (hb : ∀ (kV doc pm : Value) (an : Option Addr) (cdv ct : Value) (us : List Value), us.length = ps.length → bindArgs (PySem.W.fnOf x x (defArgs st) (defBody st) (defScope st) .none kV doc pm an cdv ct) ⟨us, []⟩ = pure (ps.zip us)) : FunAt K mg x st ps := by
  have F := fun_mk (st := st) l c kp
  exact ⟨f, _, F, PySem.W.mg_of X G a, F.binds hb⟩
section
variable {X : Cx} {CX : CXT} {k : Nat} {x : Str} {ps : List Str} {sp : Sp} {E : XK} {p pos : Pos} {e : Expr} {es : List Expr} {t : TA}
end
def compChk (sc : Scope) (XN : List Str) (scope : Scope) (N : List Str) (k : Nat) (fs : List Nat) : Bool :=
  scope.kind == .function && decide (scope.names.map (·.1)).Nodup && scope.names.all (fun y => y.2 != .free || ((sc.names.filter (·.2 == .cell)).map (·.1)).contains y.1) && N.length == k + fs.length &&
    fs.zipIdx.all fun p => match N[k + p.2]?, XN[p.1]? with
      | some x, some y => decide (x = y) && scope.names.lookup x == some .free && sc.names.lookup x == some .cell
      | _, _ => false
theorem cells_names : ∀ (names : List (Str × NameKind)) (n : Nat), ∀ x, x ∈ (names.filter (·.2 == .cell)).map (·.1) → x ∈ (cellsFrom n names []).map (·.1)
  | [], _, x, h => by simp at h
  | (y, k) :: r, n, x, h => by
    unfold cellsFrom
    by_cases hk : (k == NameKind.cell) = true
    · rw [if_pos hk, cellsFrom_acc, List.map_append, List.mem_append]
      rw [List.filter_cons_of_pos (by exact hk), List.map_cons, List.mem_cons] at h
      rcases h with h | h
      · right; simp [h]
      · left; exact cells_names r (n + 1) x h
    · rw [if_neg hk]
      rw [List.filter_cons_of_neg (by exact hk)] at h
      exact cells_names r n x h
theorem compOk_def {X : Cx} {sc scope : Scope} {n k : Nat} {N XN : List Str} {fs : List Nat} (hN : X.N = XN) (he : X.env.cells = cellsFrom n sc.names []) (hs : X.env.scope = sc) (h : compChk sc XN scope N k fs = true) : CompOk X scope N k fs := by
  unfold compChk at h
  simp only [Bool.and_eq_true_iff] at h
  obtain ⟨⟨⟨⟨h1, h2⟩, h3⟩, h4⟩, h5⟩ := h
  refine ⟨by simpa using h1, of_decide_eq_true h2, fun y hy hf => ?_, by simpa using h4, fun j i e => ?_⟩
  · have := List.all_eq_true.mp h3 y hy
    rw [hf] at this
    have c : ((sc.names.filter (·.2 == .cell)).map (·.1)).contains y.1 = true := by simpa using this
    rw [he]
    exact cells_names _ _ _ (by simpa using c)
  · have hm : (i, j) ∈ fs.zipIdx := by
      rw [List.mem_zipIdx_iff_getElem?]
      exact e
    have := List.all_eq_true.mp h5 (i, j) hm
    dsimp only at this
    cases e1 : N[k + j]? with
    | none => rw [e1] at this; cases this
    | some x =>
      cases e2 : XN[i]? with
      | none => rw [e1, e2] at this; cases this
      | some y =>
        rw [e1, e2] at this
        simp only [Bool.and_eq_true] at this
        obtain ⟨⟨q1, q2⟩, q3⟩ := this
        have q1' : x = y := of_decide_eq_true q1
        subst q1'
        refine ⟨x, rfl, by rw [hN]; exact e2, by simpa using q2, .inl ?_⟩
        show X.env.scope.names.lookup x = some .cell
        rw [hs]
        simpa using q3
theorem Same.upd_new {H : Hp} {a : Addr} {o : HO} (h : H a = none) : Same H (upd H a o) := fun b u e => by rw [upd_ne (ne_of_none e h)]; exact e
theorem Same.none {H H' : Hp} (e : Same H H') {l : Addr} (h : H' l = Option.none) : H l = Option.none := e.free h
end L2
set_option Elab.async false
set_option linter.all false
set_option maxRecDepth 100000
set_option maxHeartbeats 1000000
namespace L2
open PySem PySem.Spec PyProof.Rows
end L2
set_option Elab.async false
set_option linter.all false
namespace Mir
open PySem
inductive XC where
  | NotAlike | BadCount | BadRows | BadRow | OtherSpace | BadSize | BadPlaces | ZeroSum | NoBox | BadTable | NoLine | BadName | NoRow | NoName
  deriving DecidableEq
def XC.nm : XC → Str
  | .NotAlike => "NotAlike" | .BadCount => "BadCount" | .BadRows => "BadRows" | .BadRow => "BadRow" | .OtherSpace => "OtherSpace" | .BadSize => "BadSize" | .BadPlaces => "BadPlaces"
  | .ZeroSum => "ZeroSum" | .NoBox => "NoBox" | .BadTable => "BadTable" | .NoLine => "NoLine" | .BadName => "BadName" | .NoRow => "NoRow" | .NoName => "NoName"
inductive D where
  | non | bl (b : Bool) | int (i : Int) | str (x : Str)
  | lst (ds : List D) | tup (ds : List D)
  | obj (c : Nat) (ds : List D)
  | dct (ks : List (List Int)) (ds : List D)
  | any
  | exc (c : XC) (ds : List D)
mutual
/-- no list within -/
def D.imm : D → Bool
  | .lst _ => false
  | .obj _ _ => false
  | .dct _ _ => false
  | .any => false
  | .tup ds => D.imms ds
  | .exc _ ds => D.imms ds
  | _ => true
def D.imms : List D → Bool
  | [] => true
  | d :: r => d.imm && D.imms r
end
def D.con : D → Bool
  | .lst _ => true
  | .dct _ _ => true
  | _ => false
inductive Kd where
  | shr | own | tmp | old
  deriving DecidableEq
@[simp] def Kd.rd : Kd → Kd
  | .old => .shr
  | k => k
structure Res where
  k : Kd
  fr : Bool
  d : D
abbrev Env := List (Option Res)
structure Xc where
  c : XC
  ds : List D
inductive R (α : Type) where
  | ok (a : α) | exc (x : Xc) | stk
@[simp] def R.bind {α β : Type} : R α → (α → R β) → R β
  | .ok a, f => f a
  | .exc x, _ => .exc x
  | .stk, _ => .stk
instance : Monad R where
  pure := .ok
  bind := R.bind
@[simp] theorem R.ok_bind {α β : Type} (a : α) (f : α → R β) : (R.ok a >>= f) = f a := rfl
@[simp] theorem R.pure_bind' {α β : Type} (a : α) (f : α → R β) : ((pure a : R α) >>= f) = f a := rfl
@[simp] theorem R.exc_bind {α β : Type} (x : Xc) (f : α → R β) : (R.exc x >>= f) = .exc x := rfl
@[simp] theorem R.stk_bind {α β : Type} (f : α → R β) : ((R.stk : R α) >>= f) = .stk := rfl
@[simp] theorem R.pure_eq {α : Type} (a : α) : (pure a : R α) = .ok a := rfl
abbrev FE := Env → R Res
abbrev FT := Env → R Bool
@[simp] def sc (d : D) : Res := ⟨.shr, true, d⟩
def Res.give (r : Res) : R Res := if r.k = .own then .stk else .ok ⟨.shr, r.fr, r.d⟩
def vE (i : Nat) : FE := fun ρ => match ρ[i]? with
  | some (some e) => .ok ⟨e.k.rd, e.fr || e.d.imm, e.d⟩
  | _ => .stk
def cE (d : D) : FE := fun _ => .ok (sc d)
def asI : D → R Int
  | .int i => .ok i
  | _ => .stk
def asB : D → R Bool
  | .bl b => .ok b
  | _ => .stk
def asL : D → R (List D)
  | .lst ds => .ok ds
  | _ => .stk
def asS : D → R (List D)
  | .lst ds => .ok ds
  | .tup ds => .ok ds
  | _ => .stk
def i2E (C : Int → Int → Bool) (g : Int → Int → Int) (a b : FE) : FE := fun ρ => do
  let x ← a ρ
  let y ← b ρ
  let i ← asI x.d
  let j ← asI y.d
  if C i j then .ok (sc (.int (g i j))) else .stk
def cmpE (g : Int → Int → Bool) (a b : FE) : FE := fun ρ => do
  let x ← a ρ
  let y ← b ρ
  let i ← asI x.d
  let j ← asI y.d
  .ok (sc (.bl (g i j)))
def C0 : Int → Int → Bool := fun _ _ => true
def CM : Int → Int → Bool := fun i j => decide (i.natAbs.log2 < 1000000) && decide (j.natAbs.log2 < 1000000)
def CD : Int → Int → Bool := fun _ j => decide (0 < j) && decide (j.natAbs.log2 < 9000)
def CP : Int → Int → Bool := fun _ j => decide (0 < j)
def CW : Int → Int → Bool := fun i j => decide (0 ≤ j) && decide (j ≤ 1000000) && decide (i.natAbs < 2 ^ 64)
def addE := i2E C0 (fun i j => i + j)
def subE := i2E C0 (fun i j => i - j)
def mulE := i2E CM (fun i j => i * j)
def fdvE := i2E CD (fun i j => i / j)
def modE := i2E CP (fun i j => i % j)
def powE := i2E CW (fun i j => i ^ j.toNat)
def ltE := cmpE fun i j => decide (i < j)
end Mir
set_option Elab.async false
set_option linter.all false
namespace Mir
open PySem
abbrev FEs := List FE
def evs : FEs → Env → R (List Res)
  | [], _ => .ok []
  | f :: r, ρ => do
    let x ← f ρ
    let xs ← evs r ρ
    .ok (x :: xs)
def gives : List Res → R (Bool × List D)
  | [] => .ok (true, [])
  | r :: rs => do
    let x ← r.give
    let y ← gives rs
    .ok (x.fr && y.1, x.d :: y.2)
def lstE (fs : FEs) : FE := fun ρ => do
  let rs ← evs fs ρ
  let y ← gives rs
  if y.2.length ≤ sizeLine then .ok ⟨.tmp, y.1, .lst y.2⟩ else .stk
def tupE (fs : FEs) : FE := fun ρ => do
  let rs ← evs fs ρ
  let y ← gives rs
  if y.2.length ≤ sizeLine then .ok ⟨.shr, y.1, .tup y.2⟩ else .stk
def lenE (a : FE) : FE := fun ρ => do
  let x ← a ρ
  let ds ← asS x.d
  .ok (sc (.int ds.length))
def idxE (a i : FE) : FE := fun ρ => do
  let x ← a ρ
  let y ← i ρ
  let ds ← asS x.d
  let j ← asI y.d
  match L2.atI ds j with
  | some d => .ok ⟨.shr, x.fr || d.imm, d⟩
  | none => .stk
def lofE (a : FE) : FE := fun ρ => do
  let x ← a ρ
  let ds ← asS x.d
  .ok ⟨.tmp, x.fr, .lst ds⟩
def catE (a b : FE) : FE := fun ρ => do
  let x ← a ρ
  let y ← b ρ
  let xs ← asL x.d
  let ys ← asL y.d
  if xs.length + ys.length ≤ sizeLine then .ok ⟨.tmp, x.fr && y.fr, .lst (xs ++ ys)⟩ else .stk
mutual
def toPy : D → Option PyData
  | .non => some .none
  | .bl b => some (.bool b)
  | .int i => some (.int i)
  | .str x => some (.str x)
  | .lst ds => (toPys ds).map .list
  | .tup ds => (toPys ds).map .tuple
  | _ => none
def toPys : List D → Option (List PyData)
  | [] => some []
  | d :: r => (toPy d).bind fun p => (toPys r).map (p :: ·)
end
def eqvR (x y : D) : R Bool := match toPy x, toPy y with
  | some p, some q => if SeqAt.shaped p && SeqAt.shaped q then .ok (PyData.eqv p q) else .stk
  | _, _ => .stk
def eqE (a b : FE) : FE := fun ρ => do
  let x ← a ρ
  let y ← b ρ
  let t ← eqvR x.d y.d
  .ok (sc (.bl t))
def neE (a b : FE) : FE := fun ρ => do
  let x ← a ρ
  let y ← b ρ
  let t ← eqvR x.d y.d
  .ok (sc (.bl (!t)))
def isND : D → Bool
  | .non => true
  | _ => false
def isNR : D → R Bool
  | .any => .stk
  | d => .ok (isND d)
def notNE (a : FE) : FE := fun ρ => do
  let x ← a ρ
  let b ← isNR x.d
  .ok (sc (.bl (!b)))
def bT (a : FE) : FT := fun ρ => do
  let x ← a ρ
  asB x.d
def notT (t : FT) : FT := fun ρ => do
  let b ← t ρ
  .ok (!b)
def andT (t u : FT) : FT := fun ρ => do
  let b ← t ρ
  if b then u ρ else .ok false
def andE (a b : FE) : FE := fun ρ => do
  let x ← a ρ
  let t ← asB x.d
  if t then b ρ else .ok (sc (.bl false))
structure Its where
  st : Bool
  fr : Bool
  ds : List D
abbrev FI := Env → R Its
def lstI (a : FE) : FI := fun ρ => do
  let x ← a ρ
  let ds ← asL x.d
  .ok ⟨x.k != .own, x.fr, ds⟩
def rngD (lo : Int) (n : Nat) : List D := (List.range n).map fun (i : Nat) => .int (lo + (i : Int))
def rng1I (a : FE) : FI := fun ρ => do
  let x ← a ρ
  let j ← asI x.d
  if -(2 ^ 62) ≤ j ∧ j < 2 ^ 62 then .ok ⟨true, true, rngD 0 j.toNat⟩ else .stk
def rng2I (a b : FE) : FI := fun ρ => do
  let x ← a ρ
  let y ← b ρ
  let i ← asI x.d
  let j ← asI y.d
  if -(2 ^ 62) ≤ i ∧ i < 2 ^ 62 ∧ -(2 ^ 62) ≤ j ∧ j < 2 ^ 62 then .ok ⟨true, true, rngD i (j - i).toNat⟩ else .stk
def zipD : List D → List D → List D := List.zipWith fun a b => .tup [a, b]
inductive Tg where
  | nm (i : Nat) | tp (ts : List Tg)
mutual
def Tg.bind (fr : Bool) : Tg → D → Env → R Env
  | .nm i, d, ρ => .ok (ρ.set i (some ⟨.shr, fr, d⟩))
  | .tp ts, .tup ds, ρ => Tg.binds fr ts ds ρ
  | .tp _, _, _ => .stk
def Tg.binds (fr : Bool) : List Tg → List D → Env → R Env
  | [], [], ρ => .ok ρ
  | t :: ts, d :: ds, ρ => do
    let ρ1 ← Tg.bind fr t d ρ
    Tg.binds fr ts ds ρ1
  | _, _, _ => .stk
end
def cmpEnv (k : Nat) (fs : List Nat) (ρ : Env) : Env := List.replicate k none ++ fs.map fun i => (ρ[i]?).join
abbrev FB := Env → R (Option Res)
def bE (f : FE) : FB := fun ρ => do
  let x ← f ρ
  .ok (some x)
def cmpL (tg : Tg) (b : FB) (fr : Bool) (ρ : Env) : List D → R (Bool × List D)
  | [] => .ok (true, [])
  | d :: r => do
    let ρ1 ← tg.bind fr d ρ
    match b ρ1 with
    | .ok (some x) => do
      let x' ← x.give
      let y ← cmpL tg b fr ρ r
      .ok (x'.fr && y.1, x'.d :: y.2)
    | .ok none => cmpL tg b fr ρ r
    | _ => .stk
def cmpE' (it : FI) (k : Nat) (fs : List Nat) (tg : Tg) (b : FB) : FE := fun ρ => do
  let x ← it ρ
  let y ← cmpL tg b x.fr (cmpEnv k fs ρ) x.ds
  if x.ds.length ≤ sizeLine then .ok ⟨.tmp, y.1, .lst y.2⟩ else .stk
abbrev Φ := List D → R Res
def callE (φ : Φ) (fs : FEs) : FE := fun ρ => do
  let rs ← evs fs ρ
  let r ← φ (rs.map (·.d))
  if r.fr = true then .ok ⟨if r.k = .shr then .shr else .tmp, true, r.d⟩ else do
    let y ← gives rs
    .ok ⟨if r.k = .shr then .shr else .tmp, y.1, r.d⟩
inductive RS where
  | nx (ρ : Env) | rt (r : Res) | bk (ρ : Env) | ct (ρ : Env) | exc (x : Xc) (ρ : Env) | stk
abbrev FS := Env → RS
def R.at (r : R α) (ρ : Env) (k : α → RS) : RS := match r with
  | .ok a => k a
  | .exc x => .exc x ρ
  | .stk => .stk
def nilS : FS := .nx
def seqS (s t : FS) : FS := fun ρ => match s ρ with
  | .nx ρ1 => t ρ1
  | r => r
def Res.keep (r : Res) : R Res := match r.k with
  | .shr => .ok r
  | .tmp => .ok ⟨.own, r.fr, r.d⟩
  | .own => .stk
  | .old => .stk
def setS (i : Nat) (f : FE) : FS := fun ρ => (f ρ).at ρ fun r => (r.keep).at ρ fun e => .nx (ρ.set i (some e))
def exprS (f : FE) : FS := fun ρ => (f ρ).at ρ fun _ => .nx ρ
def retS (f : FE) : FS := fun ρ => (f ρ).at ρ fun r => .rt ⟨if r.k = .shr then .shr else .tmp, r.fr, r.d⟩
def ifS (t : FT) (a b : FS) : FS := fun ρ => (t ρ).at ρ fun c => if c then a ρ else b ρ
def frz (i : Nat) (ρ : Env) : Env := match ρ[i]? with
  | some (some e) => ρ.set i (some ⟨.shr, e.fr, e.d⟩)
  | _ => ρ
def frzS (i : Nat) (s : FS) : FS := fun ρ => s (frz i ρ)
def ownL (i : Nat) (ρ : Env) : R (Bool × List D) := match ρ[i]? with
  | some (some ⟨.own, fr, .lst ds⟩) => .ok (fr, ds)
  | _ => .stk
def appS (i : Nat) (f : FE) : FS := fun ρ => (ownL i ρ).at ρ fun y => (f ρ).at ρ fun r => (r.give).at ρ fun x =>
  if y.2.length < sizeLine then .nx (ρ.set i (some ⟨.own, y.1 && x.fr, .lst (y.2 ++ [x.d])⟩)) else .stk
def forL (tg : Tg) (b : FS) (fr : Bool) : List D → FS
  | [], ρ => .nx ρ
  | d :: r, ρ => (tg.bind fr d ρ).at ρ fun ρ1 => match b ρ1 with
    | .nx ρ2 => forL tg b fr r ρ2
    | .ct ρ2 => forL tg b fr r ρ2
    | .bk ρ2 => .nx ρ2
    | o => o
def forS (it : FI) (tg : Tg) (b : FS) : FS := fun ρ => (it ρ).at ρ fun x => if x.st then forL tg b x.fr x.ds ρ else .stk
def stE (n : Nat) (ds : List D) : Env := ds.map (fun d => some ⟨.shr, false, d⟩) ++ List.replicate (n - ds.length) none
def defR (np n : Nat) (s : FS) : Φ := fun ds => if ds.length = np then (match s (stE n ds) with
  | .nx _ => .ok (sc .non)
  | .rt r => .ok ⟨r.k, r.fr || r.d.imm, r.d⟩
  | .exc x _ => .exc x
  | _ => .stk) else .stk
end Mir
set_option Elab.async false
set_option linter.all false
set_option maxRecDepth 100000
set_option maxHeartbeats 1000000
namespace Mir
open PySem L2
noncomputable def cut (H : Hp) (B : Addr → Prop) : Hp := fun a => haveI := Classical.propDecidable (B a); if B a then none else H a
theorem cut_some {H : Hp} {B : Addr → Prop} {a : Addr} {o : HO} : cut H B a = some o ↔ ¬ B a ∧ H a = some o := by
  unfold cut
  by_cases h : B a
  · simp [h]
  · simp [h]
def stab : HO → Bool
  | .tup _ => true
  | .ext _ => true
  | .frz _ u => stab u
  | _ => false
def Ban (fr : Bool) (H0 : Hp) (B : Addr → Prop) : Addr → Prop := fun a => B a ∨ (fr = true ∧ ∃ o, H0 a = some o ∧ stab o = false)
noncomputable abbrev cutF (fr : Bool) (H0 H : Hp) (B : Addr → Prop) : Hp := cut H (Ban fr H0 B)
theorem cut_same {H : Hp} {B : Addr → Prop} : Same (cut H B) H := fun b o e => (cut_some.mp e).2
theorem cut_mono {H H' : Hp} {B B' : Addr → Prop} (s : ∀ b o, H b = some o → ¬ B b → H' b = some o) (h : ∀ b, B' b → B b ∨ H b = none) : Same (cut H B) (cut H' B') := fun b o e => by
  obtain ⟨n, e⟩ := cut_some.mp e
  refine cut_some.mpr ⟨fun z => ?_, s b o e n⟩
  rcases h b z with h | h
  · exact n h
  · rw [h] at e; cases e
theorem cutF_mono {fr : Bool} {H0 H H' : Hp} {B B' : Addr → Prop} (s : ∀ b o, H b = some o → ¬ B b → H' b = some o) (h : ∀ b, B' b → B b ∨ H b = none) : Same (cutF fr H0 H B) (cutF fr H0 H' B') :=
  cut_mono (fun b o e n => s b o e fun z => n (.inl z)) fun b z => by
    rcases z with z | z
    · exact (h b z).imp .inl id
    · exact .inl (.inr z)
theorem cutF_weak {fr : Bool} {H0 H : Hp} {B : Addr → Prop} : Same (cutF fr H0 H B) (cutF false H0 H B) :=
  cut_mono (fun _ _ e _ => e) fun b z => by
    rcases z with z | ⟨z, _⟩
    · exact .inl (.inl z)
    · cases z
theorem Same.rd {H H' : Hp} {a : Addr} {u : HO} (e : Same H H') (h : Rd H a u) : Rd H' a u := by
  rcases h with h | ⟨o, h⟩
  · exact .inl (e _ _ h)
  · exact .inr ⟨o, e _ _ h⟩
def clK (K : PySem.W.Frag) (c : XC) : Addr := match PySem.W.nsIn K mainGlobals c.nm with
  | some (some (.ref C)) => C
  | _ => 0
def ExcAt (a C : Addr) (h : Heap) : Prop := ∃ o, h.get? a = some o ∧ o.cls = .ref C ∧ PySem.W.notCls o = true
theorem ExcAt.stay {a C : Addr} {h h' : Heap} (x : ExcAt a C h) (k : ∀ o, h.get? a = some o → h'.get? a = some o) : ExcAt a C h' :=
  let ⟨o, e, c⟩ := x
  ⟨o, k o e, c⟩
variable {K : PySem.W.Frag}
def keysAre (ks : List (List Int)) (kvs : List (List Key × V)) : Prop := kvs.map (·.1) = ks.map (·.map Sum.inl)
mutual
def Rep (K : PySem.W.Frag) (G : Hp) : D → V → Prop
  | .non, v => v = .non
  | .bl b, v => v = .bl b
  | .int i, v => v = .int i
  | .str x, v => v = .str x
  | .lst ds, v => ∃ a xs, v = .ref a ∧ Rd G a (.lst xs) ∧ Reps K G ds xs
  | .tup ds, v => ∃ a xs, v = .ref a ∧ G a = some (.tup xs) ∧ Reps K G ds xs
  | .obj _ _, _ => False
  | .any, _ => True
  | .dct ks ds, v => ∃ a kvs, v = .ref a ∧ Rd G a (.dT kvs) ∧ keysAre ks kvs ∧ Reps K G ds (kvs.map (·.2))
  | .exc c ds, v => ds = [] ∧ ∃ a, v = .ref a ∧ G a = some (.ext (ExcAt a (clK K c)))
def Reps (K : PySem.W.Frag) (G : Hp) : List D → List V → Prop
  | [], xs => xs = []
  | d :: r, xs => ∃ x xr, xs = x :: xr ∧ Rep K G d x ∧ Reps K G r xr
end
mutual
theorem Rep.same {G G' : Hp} (e : Same G G') : ∀ {d : D} {v : V}, Rep K G d v → Rep K G' d v
  | .non, _, h => h
  | .bl _, _, h => h
  | .int _, _, h => h
  | .str _, _, h => h
  | .lst _, _, ⟨a, xs, h1, h2, h3⟩ => ⟨a, xs, h1, Same.rd e h2, Reps.same e h3⟩
  | .tup _, _, ⟨a, xs, h1, h2, h3⟩ => ⟨a, xs, h1, e _ _ h2, Reps.same e h3⟩
  | .obj _ _, _, h => h
  | .any, _, h => h
  | .dct _ _, _, ⟨a, xs, h1, h2, h3, h4⟩ => ⟨a, xs, h1, Same.rd e h2, h3, Reps.same e h4⟩
  | .exc _ _, _, ⟨h, a, h1, h2⟩ => ⟨h, a, h1, e _ _ h2⟩
theorem Reps.same {G G' : Hp} (e : Same G G') : ∀ {ds : List D} {vs : List V}, Reps K G ds vs → Reps K G' ds vs
  | [], _, h => h
  | _ :: _, _, ⟨x, xr, h1, h2, h3⟩ => ⟨x, xr, h1, Rep.same e h2, Reps.same e h3⟩
end
theorem Reps.length {G : Hp} : ∀ {ds : List D} {vs : List V}, Reps K G ds vs → ds.length = vs.length
  | [], vs, h => by have e : vs = [] := h; rw [e]; rfl
  | _ :: _, _, ⟨x, xr, h1, _, h3⟩ => by rw [h1]; simp [Reps.length h3]
theorem Reps.get {G : Hp} : ∀ {ds : List D} {vs : List V} {i : Nat} {d : D}, Reps K G ds vs → ds[i]? = some d → ∃ v, vs[i]? = some v ∧ Rep K G d v
  | [], _, _, _, _, e => by simp at e
  | _ :: _, _, 0, _, ⟨x, xr, h1, h2, _⟩, e => by simp at e; subst e; exact ⟨x, by rw [h1]; rfl, h2⟩
  | _ :: _, _, i + 1, d, ⟨x, xr, h1, _, h3⟩, e => by
    obtain ⟨v, a, b⟩ := Reps.get (i := i) (d := d) h3 (by simpa using e)
    exact ⟨v, by rw [h1]; simpa using a, b⟩
theorem Reps.getv {G : Hp} : ∀ {ds : List D} {vs : List V} {i : Nat} {v : V}, Reps K G ds vs → vs[i]? = some v → ∃ d, ds[i]? = some d ∧ Rep K G d v
  | [], _, _, _, h, e => by rw [show _ = [] from h] at e; simp at e
  | _ :: _, _, 0, _, ⟨x, xr, h1, h2, _⟩, e => by subst h1; simp at e; subst e; exact ⟨_, rfl, h2⟩
  | _ :: _, _, i + 1, v, ⟨x, xr, h1, _, h3⟩, e => by
    subst h1
    obtain ⟨d, a, b⟩ := Reps.getv (i := i) (v := v) h3 (by simpa using e)
    exact ⟨d, by simpa using a, b⟩
theorem Reps.of_get {G : Hp} : ∀ {ds : List D} {vs : List V}, ds.length = vs.length → (∀ (i : Nat) d v, ds[i]? = some d → vs[i]? = some v → Rep K G d v) → Reps K G ds vs
  | [], [], _, _ => rfl
  | [], v :: vr, h, _ => absurd h (by simp)
  | d :: r, [], h, _ => absurd h (by simp)
  | d :: r, v :: vr, h, f => ⟨v, vr, rfl, f 0 d v rfl rfl, Reps.of_get (by simpa using h) fun i d v a b => f (i + 1) d v (by simpa using a) (by simpa using b)⟩
theorem Reps.append {G : Hp} : ∀ {ds es : List D} {vs ws : List V}, Reps K G ds vs → Reps K G es ws → Reps K G (ds ++ es) (vs ++ ws)
  | [], _, _, _, h, q => by rw [show _ = [] from h]; exact q
  | _ :: _, _, _, _, ⟨x, xr, h1, h2, h3⟩, q => by subst h1; exact ⟨x, _, rfl, h2, Reps.append h3 q⟩
theorem Reps.take {G : Hp} : ∀ {ds : List D} {vs : List V} (n : Nat), Reps K G ds vs → Reps K G (ds.take n) (vs.take n)
  | _, _, 0, _ => by simp only [List.take_zero]; rfl
  | [], _, _ + 1, h => by rw [show _ = [] from h]; rfl
  | _ :: _, _, n + 1, ⟨x, xr, h1, h2, h3⟩ => by subst h1; exact ⟨x, _, rfl, h2, Reps.take n h3⟩
theorem Reps.drop {G : Hp} : ∀ {ds : List D} {vs : List V} (n : Nat), Reps K G ds vs → Reps K G (ds.drop n) (vs.drop n)
  | _, _, 0, h => h
  | [], _, _ + 1, h => by rw [show _ = [] from h]; rfl
  | _ :: _, _, n + 1, ⟨x, xr, h1, _, h3⟩ => by subst h1; exact Reps.drop n h3
theorem Reps.set {G : Hp} {d : D} {v : V} (r : Rep K G d v) : ∀ {ds : List D} {vs : List V} (i : Nat), Reps K G ds vs → Reps K G (ds.set i d) (vs.set i v)
  | [], _, _, h => by rw [show _ = [] from h]; rfl
  | _ :: _, _, 0, ⟨x, xr, h1, _, h3⟩ => by subst h1; exact ⟨v, xr, rfl, r, h3⟩
  | _ :: _, _, i + 1, ⟨x, xr, h1, h2, h3⟩ => by subst h1; exact ⟨x, _, rfl, h2, Reps.set r i h3⟩
theorem Reps.one {G : Hp} {d : D} {v : V} (r : Rep K G d v) : Reps K G [d] [v] := ⟨v, [], rfl, r, rfl⟩
theorem cutF_stab {H0 H : Hp} {B : Addr → Prop} {a : Addr} {o : HO} (s : Same H0 H) (st : stab o = true) (e : cutF false H0 H B a = some o) : cutF true H0 H B a = some o := by
  obtain ⟨n, e⟩ := cut_some.mp e
  refine cut_some.mpr ⟨fun z => ?_, e⟩
  rcases z with z | ⟨_, o', q1, q2⟩
  · exact n (.inl z)
  · rw [s a o' q1] at e; cases e; rw [st] at q2; cases q2
mutual
theorem Rep.imm {H0 H : Hp} {B : Addr → Prop} (s : Same H0 H) : ∀ {d : D} {v : V}, d.imm = true → Rep K (cutF false H0 H B) d v → Rep K (cutF true H0 H B) d v
  | .non, _, _, h => h
  | .bl _, _, _, h => h
  | .int _, _, _, h => h
  | .str _, _, _, h => h
  | .lst _, _, i, _ => by cases i
  | .tup ds, _, i, ⟨a, xs, h1, h2, h3⟩ => by
    refine ⟨a, xs, h1, ?_, Reps.imm s (by simpa [D.imm] using i) h3⟩
    exact cutF_stab s rfl h2
  | .obj _ _, _, _, h => h
  | .any, _, i, _ => by cases i
  | .dct _ _, _, i, _ => by cases i
  | .exc _ _, _, _, ⟨h, a, h1, h2⟩ => ⟨h, a, h1, cutF_stab s rfl h2⟩
theorem Reps.imm {H0 H : Hp} {B : Addr → Prop} (s : Same H0 H) : ∀ {ds : List D} {vs : List V}, D.imms ds = true → Reps K (cutF false H0 H B) ds vs → Reps K (cutF true H0 H B) ds vs
  | [], _, _, h => h
  | d :: r, _, i, ⟨x, xr, h1, h2, h3⟩ => by
    have i' : d.imm = true ∧ D.imms r = true := by simpa [D.imms] using i
    exact ⟨x, xr, h1, Rep.imm s i'.1 h2, Reps.imm s i'.2 h3⟩
end
theorem Rep.fr {H0 H : Hp} {B : Addr → Prop} {fr : Bool} {d : D} {v : V} (s : Same H0 H) (h : Rep K (cutF fr H0 H B) d v) : Rep K (cutF (fr || d.imm) H0 H B) d v := by
  cases fr with
  | true => exact h
  | false =>
    cases e : d.imm with
    | false => exact h
    | true => exact Rep.imm s e h
def Held (K : PySem.W.Frag) (G : Hp) (d : D) (o : HO) : Prop := match d with
  | .lst ds => ∃ vs, o = .lst vs ∧ Reps K G ds vs
  | .dct ks ds => ∃ kvs, o = .dT kvs ∧ keysAre ks kvs ∧ Reps K G ds (kvs.map (·.2))
  | _ => False
theorem Held.same {G G' : Hp} (e : Same G G') {d : D} {o : HO} (h : Held K G d o) : Held K G' d o := by
  cases d with
  | lst ds => obtain ⟨vs, h1, h2⟩ := h; exact ⟨vs, h1, Reps.same e h2⟩
  | dct ks ds => obtain ⟨kvs, h1, h2, h3⟩ := h; exact ⟨kvs, h1, h2, Reps.same e h3⟩
  | _ => exact h.elim
theorem Held.con {G : Hp} {d : D} {o : HO} (h : Held K G d o) : d.con = true := by
  cases d with
  | lst ds => rfl
  | dct ks ds => rfl
  | _ => exact h.elim
theorem Held.imm {G : Hp} {d : D} {o : HO} (h : Held K G d o) : d.imm = false := by
  cases d with
  | lst ds => rfl
  | dct ks ds => rfl
  | _ => exact h.elim
theorem Held.stab {G : Hp} {d : D} {o : HO} (h : Held K G d o) : stab o = false := by
  cases d with
  | lst ds => obtain ⟨vs, h1, h2⟩ := h; subst h1; rfl
  | dct ks ds => obtain ⟨kvs, h1, h2, h3⟩ := h; subst h1; rfl
  | _ => exact h.elim
theorem Held.lst {G : Hp} {ds : List D} {vs : List V} (h : Reps K G ds vs) : Held K G (.lst ds) (.lst vs) := ⟨vs, rfl, h⟩
theorem Held.rep {G G' : Hp} {a : Addr} {d : D} {o : HO} (h : Held K G d o) (e : Same G G') (q : G' a = some o) : Rep K G' d (.ref a) := by
  cases d with
  | lst ds => obtain ⟨vs, h1, h2⟩ := h; subst h1; exact ⟨a, vs, rfl, Rd.of q, Reps.same e h2⟩
  | dct ks ds => obtain ⟨kvs, h1, h2, h3⟩ := h; subst h1; exact ⟨a, kvs, rfl, Rd.of q, h2, Reps.same e h3⟩
  | _ => exact h.elim
def Good (K : PySem.W.Frag) (H0 H : Hp) (B : Addr → Prop) (v : V) (e : Res) : Prop :=
  match e.k with
  | .shr => Rep K (cutF e.fr H0 H B) e.d v
  | .own => ∃ a o, v = .ref a ∧ B a ∧ H0 a = none ∧ H a = some o ∧ Held K (cutF e.fr H0 H B) e.d o
  | .tmp => False
  | .old => e.fr = false ∧ Rep K (cut H0 B) e.d v
structure DenE (K : PySem.W.Frag) (H0 H : Hp) (B : Addr → Prop) (σ : St) (ρ : Env) : Prop where
  len : ρ.length = σ.length
  sam : Same H0 H
  bnd : ∀ b, B b → ∃ o, H b = some o ∧ stab o = false
  ent : ∀ (i : Nat) (e : Res), ρ[i]? = some (some e) → ∃ v, σ[i]? = some (some v) ∧ Good K H0 H B v e
def GoodR (K : PySem.W.Frag) (H0 H H' : Hp) (B : Addr → Prop) (v : V) (r : Res) : Prop :=
  match r.k with
  | .shr => Rep K (cutF r.fr H0 H' B) r.d v
  | .own => ∃ a o, v = .ref a ∧ B a ∧ H0 a = none ∧ H' a = some o ∧ Held K (cutF r.fr H0 H' B) r.d o
  | .tmp => ∃ a o, v = .ref a ∧ H a = none ∧ H' a = some o ∧ Held K (cutF r.fr H0 H' fun b => B b ∨ b = a) r.d o
  | .old => False
section
variable {H0 H H' H'' : Hp} {B B' : Addr → Prop} {v : V} {r e : Res} {σ : St} {ρ : Env}
theorem Good.mono (g : Good K H0 H B v e) (s : Same H H') : Good K H0 H' B v e := by
  unfold Good at g ⊢
  have m : ∀ fr, Same (cutF fr H0 H B) (cutF fr H0 H' B) := fun fr => cutF_mono (fun b o e _ => s b o e) fun b z => .inl z
  cases k : e.k with
  | shr => rw [k] at g; exact Rep.same (m _) g
  | own => rw [k] at g; obtain ⟨a, o, h1, h2, h3, h4, h5⟩ := g; exact ⟨a, o, h1, h2, h3, s _ _ h4, h5.same (m _)⟩
  | tmp => rw [k] at g; exact g
  | old => rw [k] at g; exact g
theorem DenE.mono (d : DenE K H0 H B σ ρ) (s : Same H H') : DenE K H0 H' B σ ρ :=
  ⟨d.len, d.sam.trans s, fun b h => let ⟨o, e, n⟩ := d.bnd b h; ⟨o, s _ _ e, n⟩, fun i e h => let ⟨v, a, g⟩ := d.ent i e h; ⟨v, a, g.mono s⟩⟩
theorem GoodR.mono (g : GoodR K H0 H H' B v r) (s : Same H' H'') : GoodR K H0 H H'' B v r := by
  unfold GoodR at g ⊢
  have m : ∀ fr (B : Addr → Prop), Same (cutF fr H0 H' B) (cutF fr H0 H'' B) := fun fr B => cutF_mono (fun b o e _ => s b o e) fun b z => .inl z
  cases k : r.k with
  | shr => rw [k] at g; exact Rep.same (m _ _) g
  | own => rw [k] at g; obtain ⟨a, o, h1, h2, h3, h4, h5⟩ := g; exact ⟨a, o, h1, h2, h3, s _ _ h4, h5.same (m _ _)⟩
  | tmp => rw [k] at g; obtain ⟨a, o, h1, h2, h3, h4⟩ := g; exact ⟨a, o, h1, h2, s _ _ h3, h4.same (m _ _)⟩
  | old => rw [k] at g; exact g
theorem GoodR.sc {d : D} (h : Rep K (cutF true H0 H' B) d v) : GoodR K H0 H H' B v (sc d) := h
theorem GoodR.con (g : GoodR K H0 H H' B v r) (e : r.k ≠ .shr) : ∃ a o, v = .ref a ∧ H' a = some o ∧ Held K (cutF r.fr H0 H' B) r.d o := by
  unfold GoodR at g
  cases k : r.k with
  | shr => exact absurd k e
  | own => rw [k] at g; obtain ⟨a, o, h1, _, _, h4, h5⟩ := g; exact ⟨a, o, h1, h4, h5⟩
  | tmp => rw [k] at g; obtain ⟨a, o, h1, _, h3, h4⟩ := g; exact ⟨a, o, h1, h3, h4.same (cutF_mono (fun b o e _ => e) fun b z => .inl (.inl z))⟩
  | old => rw [k] at g; exact g.elim
theorem GoodR.list {ds : List D} (g : GoodR K H0 H H' B v r) (e : r.d = .lst ds) : ∃ a xs, v = .ref a ∧ Rd H' a (.lst xs) ∧ Reps K (cutF r.fr H0 H' B) ds xs := by
  by_cases k : r.k = .shr
  · unfold GoodR at g
    rw [k, e] at g
    obtain ⟨a, xs, h1, h2, h3⟩ := g
    exact ⟨a, xs, h1, Same.rd cut_same h2, h3⟩
  · obtain ⟨a, o, h1, h2, h3⟩ := g.con k
    rw [e] at h3
    obtain ⟨vs, h4, h5⟩ := h3
    subst h4
    exact ⟨a, vs, h1, Rd.of h2, h5⟩
theorem GoodR.dict {ks : List (List Int)} {ds : List D} (g : GoodR K H0 H H' B v r) (e : r.d = .dct ks ds) : ∃ a kvs, v = .ref a ∧ Rd H' a (.dT kvs) ∧ keysAre ks kvs ∧ Reps K (cutF r.fr H0 H' B) ds (kvs.map (·.2)) := by
  by_cases k : r.k = .shr
  · unfold GoodR at g
    rw [k, e] at g
    obtain ⟨a, xs, h1, h2, h3, h4⟩ := g
    exact ⟨a, xs, h1, Same.rd cut_same h2, h3, h4⟩
  · obtain ⟨a, o, h1, h2, h3⟩ := g.con k
    rw [e] at h3
    obtain ⟨kvs, h4, h5, h6⟩ := h3
    subst h4
    exact ⟨a, kvs, h1, Rd.of h2, h5, h6⟩
theorem GoodR.shr_of (g : GoodR K H0 H H' B v r) (h : r.d.con = false) : Rep K (cutF r.fr H0 H' B) r.d v := by
  by_cases k : r.k = .shr
  · unfold GoodR at g
    rw [k] at g; exact g
  · obtain ⟨a, o, h1, h2, h3⟩ := g.con k
    rw [h3.con] at h; cases h
theorem GoodR.int {i : Int} (g : GoodR K H0 H H' B v r) (e : r.d = .int i) : v = .int i := by
  have := g.shr_of (by rw [e]; rfl)
  rw [e] at this; exact this
theorem GoodR.bl {b : Bool} (g : GoodR K H0 H H' B v r) (e : r.d = .bl b) : v = .bl b := by
  have := g.shr_of (by rw [e]; rfl)
  rw [e] at this; exact this
theorem GoodR.tuple {ds : List D} (g : GoodR K H0 H H' B v r) (e : r.d = .tup ds) : ∃ a xs, v = .ref a ∧ H' a = some (.tup xs) ∧ Reps K (cutF r.fr H0 H' B) ds xs := by
  have := g.shr_of (by rw [e]; rfl)
  rw [e] at this
  obtain ⟨a, xs, h1, h2, h3⟩ := this
  exact ⟨a, xs, h1, cut_same _ _ h2, h3⟩
theorem GoodR.give {r' : Res} (den : DenE K H0 H B σ ρ) (g : GoodR K H0 H H' B v r) (e : r.give = .ok r') : r' = ⟨.shr, r.fr, r.d⟩ ∧ Rep K (cutF r.fr H0 H' B) r.d v := by
  unfold Res.give at e
  unfold GoodR at g
  cases k : r.k with
  | shr => rw [k] at g e; simp at e; exact ⟨e.symm, g⟩
  | own => rw [k] at e; simp at e
  | old => rw [k] at g; exact g.elim
  | tmp =>
    rw [k] at g e
    simp at e
    obtain ⟨a, o, h1, h2, h3, h4⟩ := g
    refine ⟨e.symm, ?_⟩
    subst h1
    refine h4.rep (cutF_mono (fun b o e _ => e) fun b z => .inl (.inl z)) (cut_some.mpr ⟨fun z => ?_, h3⟩)
    rcases z with z | ⟨_, o, z, _⟩
    · obtain ⟨o, q, _⟩ := den.bnd a z; rw [h2] at q; cases q
    · rw [den.sam _ _ z] at h2; cases h2
theorem Good.res (s : Same H0 H) (g : Good K H0 H B v e) : GoodR K H0 H H B v ⟨e.k.rd, e.fr || e.d.imm, e.d⟩ := by
  unfold Good at g
  unfold GoodR
  cases k : e.k with
  | shr => rw [k] at g; exact Rep.fr s g
  | own =>
    rw [k] at g
    obtain ⟨a, o, h1, h2, h3, h4, h5⟩ := g
    refine ⟨a, o, h1, h2, h3, h4, ?_⟩
    rw [h5.imm, Bool.or_false]
    exact h5
  | tmp => rw [k] at g; exact g.elim
  | old =>
    rw [k] at g
    refine Rep.fr s (Rep.same ?_ g.2)
    rw [g.1]
    intro b o q
    obtain ⟨n, q⟩ := cut_some.mp q
    refine cut_some.mpr ⟨fun z => ?_, s b o q⟩
    rcases z with z | ⟨z, _⟩
    · exact n z
    · cases z
end
structure XP where
  p : Xc → St → Hp → Prop
  mono : ∀ {x : Xc} {σ : St} {H H' : Hp}, p x σ H → Same H H' → p x σ H'
def XP0 : XP := ⟨fun _ _ _ => False, fun h _ => h⟩
def tE (K : PySem.W.Frag) (P : XP) (f : FE) : TE := fun σ H Q => ∃ H0 B ρ, DenE K H0 H B σ ρ ∧ match f ρ with
  | .ok r => ∀ v H', Same H H' → GoodR K H0 H H' B v r → Q v H'
  | .exc x => P.p x σ H
  | .stk => False
def tT (K : PySem.W.Frag) (P : XP) (f : FT) : TT := fun σ H Q => ∃ H0 B ρ, DenE K H0 H B σ ρ ∧ match f ρ with
  | .ok b => ∀ H', Same H H' → Q b H'
  | .exc x => P.p x σ H
  | .stk => False
theorem PE.imp {X : Cx} {e : Expr} {t t' : TE} (p : PE X e t) (h : ∀ σ H Q, t' σ H Q → t σ H Q) : PE X e t' := fun pins s σ H Q I q => p pins s σ H Q I (h σ H Q q)
theorem PT.imp {X : Cx} {e : Expr} {t t' : TT} (p : PT X e t) (h : ∀ σ H Q, t' σ H Q → t σ H Q) : PT X e t' := fun pins s σ H Q I q => p pins s σ H Q I (h σ H Q q)
theorem tE_of {X : Cx} {P : XP} {f : FE} {H0 H : Hp} {B : Addr → Prop} {σ : St} {ρ : Env} {Q : VK} {r : Res} (d : DenE X.K H0 H B σ ρ) (e : f ρ = .ok r)
    (h : ∀ v H', Same H H' → DenE X.K H0 H' B σ ρ → GoodR X.K H0 H H' B v r → Q v H') : tE X.K P f σ H Q :=
  ⟨H0, B, ρ, d, by rw [e]; exact fun v H' s g => h v H' s (d.mono s) g⟩
theorem tE_exc {X : Cx} {P : XP} {f : FE} {H0 H : Hp} {B : Addr → Prop} {σ : St} {ρ : Env} {Q : VK} {x : Xc} (d : DenE X.K H0 H B σ ρ) (e : f ρ = .exc x) (h : P.p x σ H) : tE X.K P f σ H Q :=
  ⟨H0, B, ρ, d, by rw [e]; exact h⟩
end Mir
set_option Elab.async false
set_option linter.all false
set_option maxRecDepth 100000
set_option maxHeartbeats 1000000
namespace Mir
open PySem L2
variable {X : Cx} {P : XP} {a b c : Expr} {f g : FE} {pos : Pos}
theorem m_vr {i : Nat} {x : Str} (hN : X.N[i]? = some x) (hv : Vis X.env.scope x) (hd : (x == ("__debug__" : Str)) = false := by decide) (hcd : (x == ("__classdict__" : Str)) = false := by decide) : PE X (.Name x pos) (tE X.K P (vE i)) := by
  refine PE.imp (pe_var hN hv hd hcd) ?_
  rintro σ H Q ⟨H0, B, ρ, d, h⟩
  unfold vE at h
  cases e : ρ[i]? with
  | none => rw [e] at h; exact h.elim
  | some o =>
    cases o with
    | none => rw [e] at h; exact h.elim
    | some r =>
      rw [e] at h
      obtain ⟨v, hv, gd⟩ := d.ent i r e
      exact ⟨v, hv, h v H (Same.refl H) (gd.res d.sam)⟩
theorem m_v (i : Nat) {x : Str} (hN : X.N[i]? = some x := by rfl) (hv : Vis X.env.scope x := by first | exact Or.inl rfl | exact Or.inr (Or.inl rfl) | exact Or.inr (Or.inr rfl)) (hd : (x == ("__debug__" : Str)) = false := by decide)
    (hcd : (x == ("__classdict__" : Str)) = false := by decide) : PE X (.Name x pos) (tE X.K P (vE i)) := m_vr hN hv hd hcd
theorem m_c {d : D} {v : V} {e : Expr} (h : PE X e (tC v)) (r : ∀ G, Rep X.K G d v) : PE X e (tE X.K P (cE d)) := by
  refine PE.imp h ?_
  rintro σ H Q ⟨H0, B, ρ, den, h⟩
  exact h v H (Same.refl H) (r _)
theorem m_int {i : Int} {j pos} : PE X (.Constant (.int i) j pos) (tE X.K P (cE (.int i))) := m_c pe_int fun _ => rfl
theorem m_bl {b : Bool} {j pos} : PE X (.Constant (.bool b) j pos) (tE X.K P (cE (.bl b))) := m_c pe_bl fun _ => rfl
theorem m_non {j pos} : PE X (.Constant .none j pos) (tE X.K P (cE .non)) := m_c pe_non fun _ => rfl
theorem m_str {x : Str} {j pos} : PE X (.Constant (.str x) j pos) (tE X.K P (cE (.str x))) := m_c pe_str fun _ => rfl
theorem asI_ok {d : D} {i : Int} (h : asI d = .ok i) : d = .int i := by cases d <;> simp [asI] at h; rw [h]
theorem asI_exc {d : D} {x : Xc} (h : asI d = .exc x) : False := by cases d <;> simp [asI] at h
theorem asB_ok {d : D} {i : Bool} (h : asB d = .ok i) : d = .bl i := by cases d <;> simp [asB] at h; rw [h]
theorem asB_exc {d : D} {x : Xc} (h : asB d = .exc x) : False := by cases d <;> simp [asB] at h
theorem asL_ok {d : D} {i : List D} (h : asL d = .ok i) : d = .lst i := by cases d <;> simp [asL] at h; rw [h]
theorem asL_exc {d : D} {x : Xc} (h : asL d = .exc x) : False := by cases d <;> simp [asL] at h
theorem asS_ok {d : D} {i : List D} (h : asS d = .ok i) : d = .lst i ∨ d = .tup i := by cases d <;> simp [asS] at h <;> simp [h]
theorem asS_exc {d : D} {x : Xc} (h : asS d = .exc x) : False := by cases d <;> simp [asS] at h
theorem t1 {k : Res → R Res} {σ : St} {H : Hp} {Q : VK} {q : VK} (h : tE X.K P (fun ρ => f ρ >>= k) σ H Q)
    (hk : ∀ H0 B ρ v H' r, DenE X.K H0 H' B σ ρ → GoodR X.K H0 H H' B v r → Same H H' → (match k r with
      | .ok r1 => ∀ v1 H1, Same H' H1 → GoodR X.K H0 H H1 B v1 r1 → Q v1 H1
      | .exc x => P.p x σ H'
      | .stk => False) → q v H') : tE X.K P f σ H q := by
  obtain ⟨H0, B, ρ, d, h⟩ := h
  cases e : f ρ with
  | stk => simp [e] at h
  | exc x => simp [e] at h; exact tE_exc d e h
  | ok r =>
    simp [e] at h
    refine tE_of d e fun v H' s d' gd => hk H0 B ρ v H' r d' gd s ?_
    cases e2 : k r with
    | stk => rw [e2] at h; exact h
    | exc x => rw [e2] at h; exact P.mono h s
    | ok r1 => rw [e2] at h; exact fun v1 H1 s1 g1 => h v1 H1 (s.trans s1) g1
theorem t2 {k : Res → Res → R Res} {σ : St} {H : Hp} {Q : VK} {q : V → V → Hp → Prop} (h : tE X.K P (fun ρ => f ρ >>= fun x => g ρ >>= fun y => k x y) σ H Q)
    (hk : ∀ H0 B ρ v w H' r r', DenE X.K H0 H' B σ ρ → GoodR X.K H0 H H' B v r → GoodR X.K H0 H H' B w r' → Same H H' → (match k r r' with
      | .ok r1 => ∀ v1 H1, Same H' H1 → GoodR X.K H0 H H1 B v1 r1 → Q v1 H1
      | .exc x => P.p x σ H'
      | .stk => False) → q v w H') : tE X.K P f σ H fun v H1 => tE X.K P g σ H1 fun w H2 => q v w H2 := by
  obtain ⟨H0, B, ρ, d, h⟩ := h
  cases e : f ρ with
  | stk => simp [e] at h
  | exc x => simp [e] at h; exact tE_exc d e h
  | ok r =>
    simp [e] at h
    refine tE_of d e fun v H1 s1 d1 g1 => ?_
    cases e2 : g ρ with
    | stk => simp [e2] at h
    | exc x => simp [e2] at h; exact tE_exc d1 e2 (P.mono h s1)
    | ok r' =>
      simp [e2] at h
      refine tE_of d1 e2 fun w H2 s2 d2 g2 => hk H0 B ρ v w H2 r r' d2 (g1.mono s2) ?_ (s1.trans s2) ?_
      · unfold GoodR at g2 ⊢
        cases k : r'.k with
        | shr => rw [k] at g2; exact g2
        | own => rw [k] at g2; exact g2
        | tmp => rw [k] at g2; obtain ⟨a, o, h1, h2, h3⟩ := g2; exact ⟨a, o, h1, s1.none h2, h3⟩
        | old => rw [k] at g2; exact g2
      · cases e3 : k r r' with
        | stk => rw [e3] at h; exact h
        | exc x => rw [e3] at h; exact P.mono h (s1.trans s2)
        | ok r1 => rw [e3] at h; exact fun v1 H3 s3 g3 => h v1 H3 ((s1.trans s2).trans s3) g3
theorem m_i2 {op : Operator} {C : Int → Int → Bool} {C' : Int → Int → Prop} {G : Int → Int → Int} (ho : OpR X (binaryOp op) (rI C' fun i j => .int (G i j))) (hC : ∀ i j, C i j = true → C' i j) (ha : PE X a (tE X.K P f)) (hb : PE X b (tE X.K P g)) :
    PE X (.BinOp a op b pos) (tE X.K P (i2E C G f g)) := by
  refine PE.imp (pe_op ho ha hb) ?_
  intro σ H Q h
  refine t2 (q := fun x y H2 => rI C' (fun i j => .int (G i j)) x y H2 Q) h ?_
  intro H0 B ρ v w H' r r' d g1 g2 s h
  cases e1 : asI r.d with
  | stk => simp [e1] at h
  | exc x => exact (asI_exc e1).elim
  | ok i =>
    cases e2 : asI r'.d with
    | stk => simp [e1, e2] at h
    | exc x => exact (asI_exc e2).elim
    | ok j =>
      simp only [e1, e2, R.ok_bind] at h
      by_cases hc : C i j = true
      · rw [if_pos hc] at h
        exact ⟨i, j, g1.int (asI_ok e1), g2.int (asI_ok e2), hC i j hc, h _ H' (Same.refl _) (GoodR.sc (show Rep _ _ (.int (G i j)) _ from rfl))⟩
      · rw [if_neg hc] at h; exact h.elim
theorem rI_of {G : Int → Int → Int} {F : Value → Value → Sem Value} (h : OpR X F (rI0 fun i j => .int (G i j))) : OpR X F (rI (fun _ _ => True) fun i j => .int (G i j)) :=
  fun pins s σ H x y v u Q I rx ry ⟨i, j, e1, e2, _, q⟩ => h pins s σ H x y v u Q I rx ry ⟨i, j, e1, e2, q⟩
theorem m_add (ha : PE X a (tE X.K P f)) (hb : PE X b (tE X.K P g)) : PE X (.BinOp a .Add b pos) (tE X.K P (addE f g)) := m_i2 (rI_of op_add) (fun _ _ _ => trivial) ha hb
theorem m_sub (ha : PE X a (tE X.K P f)) (hb : PE X b (tE X.K P g)) : PE X (.BinOp a .Sub b pos) (tE X.K P (subE f g)) := m_i2 (rI_of op_sub) (fun _ _ _ => trivial) ha hb
theorem m_mul (ha : PE X a (tE X.K P f)) (hb : PE X b (tE X.K P g)) : PE X (.BinOp a .Mult b pos) (tE X.K P (mulE f g)) := m_i2 op_mulB (fun i j h => by
  unfold CM at h; simp at h; exact h) ha hb
theorem m_fdv (ha : PE X a (tE X.K P f)) (hb : PE X b (tE X.K P g)) : PE X (.BinOp a .FloorDiv b pos) (tE X.K P (fdvE f g)) := m_i2 op_fdivB (fun i j h => by
  unfold CD at h; simp at h; exact h) ha hb
theorem m_mod (ha : PE X a (tE X.K P f)) (hb : PE X b (tE X.K P g)) : PE X (.BinOp a .Mod b pos) (tE X.K P (modE f g)) := m_i2 op_mod (fun i j h => by
  unfold CP at h; simp at h; exact h) ha hb
theorem m_pow (ha : PE X a (tE X.K P f)) (hb : PE X b (tE X.K P g)) : PE X (.BinOp a .Pow b pos) (tE X.K P (powE f g)) := m_i2 op_pow (fun i j h => by
  unfold CW at h; simp at h; exact ⟨h.1.1, h.1.2, h.2⟩) ha hb
theorem i_cmp {G : Int → Int → Bool} (σ : St) (H : Hp) (Q : VK) (h : tE X.K P (cmpE G f g) σ H Q) : tOp (rI0 fun i j => .bl (G i j)) (tE X.K P f) (tE X.K P g) σ H Q := by
  refine t2 (q := fun x y H2 => rI0 (fun i j => .bl (G i j)) x y H2 Q) h ?_
  intro H0 B ρ v w H' r r' d g1 g2 s h
  cases e1 : asI r.d with
  | stk => simp [e1] at h
  | exc x => exact (asI_exc e1).elim
  | ok i =>
    cases e2 : asI r'.d with
    | stk => simp [e1, e2] at h
    | exc x => exact (asI_exc e2).elim
    | ok j =>
      simp only [e1, e2, R.ok_bind] at h
      exact ⟨i, j, g1.int (asI_ok e1), g2.int (asI_ok e2), h _ H' (Same.refl _) (GoodR.sc (show Rep _ _ (.bl (G i j)) _ from rfl))⟩
mutual
theorem Rep.has {G H : Hp} (s : Same G H) : ∀ {d : D} {p : PyData} {v : V}, toPy d = some p → Rep X.K G d v → Has X.K H v p
  | .non, _, _, e, h => by simp [toPy] at e; subst e; rw [show _ = V.non from h]; exact .non
  | .bl b, _, _, e, h => by simp [toPy] at e; subst e; rw [show _ = V.bl b from h]; exact .bl b
  | .int i, _, _, e, h => by simp [toPy] at e; subst e; rw [show _ = V.int i from h]; exact .int i
  | .str x, _, _, e, h => by simp [toPy] at e; subst e; rw [show _ = V.str x from h]; exact .str x
  | .lst ds, _, _, e, ⟨a, xs, h1, h2, h3⟩ => by
    simp [toPy] at e
    obtain ⟨ps, e1, e2⟩ := e
    subst e2; subst h1
    exact .lst (.inl (Same.rd s h2)) (Reps.has s e1 h3)
  | .tup ds, _, _, e, ⟨a, xs, h1, h2, h3⟩ => by
    simp [toPy] at e
    obtain ⟨ps, e1, e2⟩ := e
    subst e2; subst h1
    exact .tup (.inl (.inl (s _ _ h2))) (Reps.has s e1 h3)
  | .obj _ _, _, _, e, h => h.elim
  | .any, _, _, e, _ => by simp [toPy] at e
  | .dct _ _, _, _, e, _ => by simp [toPy] at e
  | .exc _ _, _, _, e, _ => by simp [toPy] at e
theorem Reps.has {G H : Hp} (s : Same G H) : ∀ {ds : List D} {ps : List PyData} {vs : List V}, toPys ds = some ps → Reps X.K G ds vs → HasAll X.K H vs ps
  | [], _, _, e, h => by simp [toPys] at e; subst e; rw [show _ = [] from h]; exact .nil
  | d :: r, _, _, e, ⟨x, xr, h1, h2, h3⟩ => by
    simp [toPys, Option.bind_eq_some_iff] at e
    obtain ⟨p, e1, q, e2, e3⟩ := e
    subst e3; subst h1
    exact .cons (Rep.has s e1 h2) (Reps.has s e2 h3)
end
theorem GoodR.has {H0 H H' : Hp} {B : Addr → Prop} {v : V} {r : Res} {p : PyData} (g : GoodR X.K H0 H H' B v r) (e : toPy r.d = some p) : Has X.K H' v p := by
  cases k : r.d with
  | lst ds =>
    obtain ⟨a, xs, h1, h2, h3⟩ := g.list k
    rw [k] at e
    simp [toPy] at e
    obtain ⟨ps, e1, e2⟩ := e
    subst e2; subst h1
    exact .lst (.inl h2) (Reps.has cut_same e1 h3)
  | dct ks ds => rw [k] at e; simp [toPy] at e
  | _ => exact Rep.has cut_same e (g.shr_of (by rw [k]; rfl))
theorem eqvR_exc {x y : D} {z : Xc} (h : eqvR x y = .exc z) : False := by
  unfold eqvR at h
  split at h
  · split at h <;> cases h
  · cases h
theorem i_eqq {n : Bool → Bool} (σ : St) (H : Hp) (Q : VK) (h : tE X.K P (fun ρ => f ρ >>= fun x => g ρ >>= fun y => eqvR x.d y.d >>= fun t => .ok (sc (.bl (n t)))) σ H Q) :
    tOp (fun x y H Q => ∃ d e, Has X.K H x d ∧ Has X.K H y e ∧ SeqAt.shaped d = true ∧ SeqAt.shaped e = true ∧ Q (.bl (n (PyData.eqv d e))) H) (tE X.K P f) (tE X.K P g) σ H Q := by
  refine t2 (q := fun x y H2 => ∃ d e, Has X.K H2 x d ∧ Has X.K H2 y e ∧ SeqAt.shaped d = true ∧ SeqAt.shaped e = true ∧ Q (.bl (n (PyData.eqv d e))) H2) h ?_
  intro H0 B ρ v w H' r r' d g1 g2 s h
  cases e1 : eqvR r.d r'.d with
  | stk => simp [e1] at h
  | exc x => exact (eqvR_exc e1).elim
  | ok t =>
    simp only [e1, R.ok_bind] at h
    unfold eqvR at e1
    split at e1
    · rename_i p q hp hq
      split at e1
      · rename_i hs
        rw [Bool.and_eq_true] at hs
        cases e1
        exact ⟨p, q, g1.has hp, g2.has hq, hs.1, hs.2, h _ H' (Same.refl _) (GoodR.sc (show Rep _ _ (.bl _) _ from rfl))⟩
      · cases e1
    · cases e1
theorem isNR_exc {d : D} {x : Xc} (h : isNR d = .exc x) : False := by
  cases d <;> cases h
theorem GoodR.isN {H0 H H' : Hp} {B : Addr → Prop} {v : V} {r : Res} (g : GoodR X.K H0 H H' B v r) {b : Bool} (hb : isNR r.d = .ok b) : decide (v = .non) = b := by
  suffices h : decide (v = .non) = isND r.d by
    rw [h]
    cases k : r.d <;> rw [k] at hb <;> first | (cases hb; rfl) | cases hb
  cases k : r.d with
  | lst ds =>
    obtain ⟨a, xs, h1, _⟩ := g.list k
    rw [h1]; rfl
  | dct ks ds =>
    obtain ⟨a, xs, h1, _⟩ := g.dict k
    rw [h1]; rfl
  | any => rw [k] at hb; cases hb
  | non => have := g.shr_of (by rw [k]; rfl); rw [k] at this; rw [show v = .non from this]; rfl
  | bl b => have := g.shr_of (by rw [k]; rfl); rw [k] at this; rw [show v = .bl b from this]; rfl
  | int b => have := g.shr_of (by rw [k]; rfl); rw [k] at this; rw [show v = .int b from this]; rfl
  | str b => have := g.shr_of (by rw [k]; rfl); rw [k] at this; rw [show v = .str b from this]; rfl
  | tup b => have := g.shr_of (by rw [k]; rfl); rw [k] at this; obtain ⟨a, _, h1, _⟩ := this; rw [h1]; rfl
  | obj c b => have := g.shr_of (by rw [k]; rfl); rw [k] at this; exact this.elim
  | exc c b => have := g.shr_of (by rw [k]; rfl); rw [k] at this; obtain ⟨_, a, h1, _⟩ := this; rw [h1]; rfl
theorem i_notN (σ : St) (H : Hp) (Q : VK) (h : tE X.K P (notNE f) σ H Q) : tNotN (tE X.K P f) σ H Q := by
  refine t1 (q := fun x H1 => Q (.bl (!decide (x = .non))) H1) h ?_
  intro H0 B ρ v H' r d g1 s h
  cases e1 : isNR r.d with
  | stk => simp [e1] at h
  | exc x => exact (isNR_exc e1).elim
  | ok b =>
    simp only [e1, R.ok_bind] at h
    rw [g1.isN e1]
    exact h _ H' (Same.refl _) (GoodR.sc (show Rep _ _ (.bl _) _ from rfl))
theorem tT_bool {σ : St} {H : Hp} {Q : Bool → Hp → Prop} (h : tT X.K P (bT f) σ H Q) : tE X.K P f σ H fun x H1 => ∃ k, x = .bl k ∧ Q k H1 := by
  obtain ⟨H0, B, ρ, d, h⟩ := h
  unfold bT at h
  cases e : f ρ with
  | stk => simp [e] at h
  | exc x => simp [e] at h; exact tE_exc d e h
  | ok r =>
    cases e1 : asB r.d with
    | stk => simp [e, e1] at h
    | exc x => exact (asB_exc e1).elim
    | ok t =>
      simp [e, e1] at h
      exact tE_of d e fun v H' s d' g' => ⟨t, g'.bl (asB_ok e1), h H' s⟩
theorem m_eq (hu : X.A.units + 64 < cLine) (ha : PE X a (tE X.K P f)) (hb : PE X b (tE X.K P g)) : PE X (.Compare a [.Eq] [b] pos) (tE X.K P (eqE f g)) := PE.imp (pe_cmpR (op_eqD hu) ha hb (nomark _)) (i_eqq (n := id))
theorem mt_cmp {op : CmpOp} {r : R2} (ho : OpR X (compareOp op) r) (ha : PE X a (tE X.K P f)) (hb : PE X b (tE X.K P g)) (hm : behindInMarks op b = false) {F : FE} (himp : ∀ σ H Q, tE X.K P F σ H Q → tOp r (tE X.K P f) (tE X.K P g) σ H Q) :
    PT X (.Compare a [op] [b] pos) (tT X.K P (bT F)) := by
  refine PT.imp (pt_cmpR ho ha hb hm) ?_
  intro σ H Q h
  exact himp σ H _ (tT_bool h)
theorem mt_lt (ha : PE X a (tE X.K P f)) (hb : PE X b (tE X.K P g)) : PT X (.Compare a [.Lt] [b] pos) (tT X.K P (bT (ltE f g))) := mt_cmp op_lt ha hb (nomark _) i_cmp
theorem mt_eq (hu : X.A.units + 64 < cLine) (ha : PE X a (tE X.K P f)) (hb : PE X b (tE X.K P g)) : PT X (.Compare a [.Eq] [b] pos) (tT X.K P (bT (eqE f g))) := mt_cmp (op_eqD hu) ha hb (nomark _) (i_eqq (n := id))
theorem mt_ne (hu : X.A.units + 64 < cLine) (ha : PE X a (tE X.K P f)) (hb : PE X b (tE X.K P g)) : PT X (.Compare a [.NotEq] [b] pos) (tT X.K P (bT (neE f g))) := mt_cmp (op_neD hu) ha hb (nomark _) (i_eqq (n := not))
theorem mt_notN {j p'} (ha : PE X a (tE X.K P f)) : PT X (.Compare a [.IsNot] [.Constant .none j p'] pos) (tT X.K P (bT (notNE f))) := PT.imp (pt_cmp (pc_notN ha)) fun σ H Q h => i_notN σ H _ (tT_bool h)
theorem mt_val {e : Expr} (h : PE X e (tE X.K P f)) (he : ∀ whole, isTrue e X.env whole = (do let v ← whole; standAt e.pos; holding [v] (truthy v)) := by intro _; rfl) : PT X e (tT X.K P (bT f)) := by
  refine PT.imp (pt_val h he) ?_
  intro σ H Q h
  exact tT_bool h
variable {t u : FT} {rest : List Expr}
theorem tT1 {k : Bool → R Bool} {σ : St} {H : Hp} {Q : Bool → Hp → Prop} {q : Bool → Hp → Prop} (h : tT X.K P (fun ρ => t ρ >>= k) σ H Q)
    (hk : ∀ c H', Same H H' → (match k c with
      | .ok b => ∀ H1, Same H' H1 → Q b H1
      | .exc x => P.p x σ H'
      | .stk => False) → q c H') : tT X.K P t σ H q := by
  obtain ⟨H0, B, ρ, d, h⟩ := h
  cases e : t ρ with
  | stk => simp [e] at h
  | exc x => simp [e] at h; exact ⟨H0, B, ρ, d, by rw [e]; exact h⟩
  | ok c =>
    simp [e] at h
    refine ⟨H0, B, ρ, d, ?_⟩
    rw [e]
    intro H' s
    refine hk c H' s ?_
    cases e2 : k c with
    | stk => rw [e2] at h; exact h
    | exc x => rw [e2] at h; exact P.mono h s
    | ok b => rw [e2] at h; exact fun H1 s1 => h H1 (s.trans s1)
theorem mt_not (h : PT X a (tT X.K P t)) : PT X (.UnaryOp .Not a pos) (tT X.K P (notT t)) := by
  refine PT.imp (pt_not h) ?_
  intro σ H Q h
  exact tT1 (q := fun c H1 => Q (!c) H1) h fun c H' s h => h H' (Same.refl _)
theorem tT2 {σ : St} {H : Hp} {Q : Bool → Hp → Prop} {stop : Bool} {h2 : Hp → Prop}
    (h : tT X.K P (fun ρ => t ρ >>= fun b => if b = stop then .ok stop else u ρ) σ H Q) : tT X.K P t σ H fun c H1 => if c = stop then Q stop H1 else tT X.K P u σ H1 Q := by
  obtain ⟨H0, B, ρ, d, h⟩ := h
  cases e : t ρ with
  | stk => simp [e] at h
  | exc x => simp [e] at h; exact ⟨H0, B, ρ, d, by rw [e]; exact h⟩
  | ok c =>
    simp only [e, R.ok_bind] at h
    refine ⟨H0, B, ρ, d, ?_⟩
    rw [e]
    intro H' s
    by_cases hc : c = stop
    · rw [if_pos hc] at h ⊢
      exact h H' s
    · rw [if_neg hc] at h ⊢
      refine ⟨H0, B, ρ, d.mono s, ?_⟩
      cases e2 : u ρ with
      | stk => rw [e2] at h; exact h
      | exc x => rw [e2] at h; exact P.mono h s
      | ok b => rw [e2] at h; exact fun H1 s1 => h H1 (s.trans s1)
theorem andT_eq : andT t u = fun ρ => t ρ >>= fun b => if b = false then .ok false else u ρ := by
  funext ρ
  unfold andT
  cases t ρ with
  | ok b => cases b <;> rfl
  | _ => rfl
theorem mw_and1 (ha : PT X a (tT X.K P t)) : PW X (.BoolOp .And [a] pos) (tT X.K P t) := pw_and1 ha
theorem PW.imp {e : Expr} {t t' : TT} (p : PW X e t) (h : ∀ σ H Q, t' σ H Q → t σ H Q) : PW X e t' := fun wh pins s σ H Q I q => p wh pins s σ H Q I (h σ H Q q)
theorem mw_and (ha : PT X a (tT X.K P t)) (hb : PW X (.BoolOp .And (b :: rest) pos) (tT X.K P u)) : PW X (.BoolOp .And (a :: b :: rest) pos) (tT X.K P (andT t u)) := by
  refine PW.imp (pw_and ha hb) ?_
  intro σ H Q h
  rw [andT_eq] at h
  have h' := tT2 (h2 := fun _ => True) h
  obtain ⟨H0, B, ρ, d, h⟩ := h'
  refine ⟨H0, B, ρ, d, ?_⟩
  cases e : t ρ with
  | stk => rw [e] at h; exact h
  | exc x => rw [e] at h; exact h
  | ok c =>
    rw [e] at h
    intro H' s
    have := h H' s
    cases c with
    | true => simpa using this
    | false => simpa using this
end Mir
set_option Elab.async false
set_option linter.all false
set_option maxRecDepth 100000
set_option maxHeartbeats 1000000
namespace Mir
open PySem L2
variable {X : Cx} {P : XP} {a b c e : Expr} {es : List Expr} {f g : FE} {fs : FEs} {pos : Pos}
def GoodRs (K : PySem.W.Frag) (H0 H H' : Hp) (B : Addr → Prop) : List V → List Res → Prop
  | [], rs => rs = []
  | v :: vs, rs => ∃ r rr, rs = r :: rr ∧ GoodR K H0 H H' B v r ∧ GoodRs K H0 H H' B vs rr
theorem GoodR.old {K : PySem.W.Frag} {H0 H H1 H2 : Hp} {B : Addr → Prop} {v : V} {r : Res} (s : Same H H1) (g : GoodR K H0 H1 H2 B v r) : GoodR K H0 H H2 B v r := by
  unfold GoodR at g ⊢
  cases k : r.k with
  | shr => rw [k] at g; exact g
  | own => rw [k] at g; exact g
  | tmp => rw [k] at g; obtain ⟨a, o, h1, h2, h3⟩ := g; exact ⟨a, o, h1, s.none h2, h3⟩
  | old => rw [k] at g; exact g
theorem GoodRs.old {K : PySem.W.Frag} {H0 H H1 H2 : Hp} {B : Addr → Prop} (s : Same H H1) : ∀ {vs : List V} {rs : List Res}, GoodRs K H0 H1 H2 B vs rs → GoodRs K H0 H H2 B vs rs
  | [], _, h => h
  | _ :: _, _, ⟨r, rr, e, g, gs⟩ => ⟨r, rr, e, g.old s, GoodRs.old s gs⟩
theorem GoodRs.mono {K : PySem.W.Frag} {H0 H H1 H2 : Hp} {B : Addr → Prop} (s : Same H1 H2) : ∀ {vs : List V} {rs : List Res}, GoodRs K H0 H H1 B vs rs → GoodRs K H0 H H2 B vs rs
  | [], _, h => h
  | _ :: _, _, ⟨r, rr, e, g, gs⟩ => ⟨r, rr, e, g.mono s, GoodRs.mono s gs⟩
theorem GoodRs.len {K : PySem.W.Frag} {H0 H H1 : Hp} {B : Addr → Prop} : ∀ {vs : List V} {rs : List Res}, GoodRs K H0 H H1 B vs rs → vs.length = rs.length
  | [], rs, h => by have e : rs = [] := h; rw [e]; rfl
  | _ :: _, _, ⟨r, rr, e, g, gs⟩ => by rw [e]; simp [GoodRs.len gs]
def tAs (K : PySem.W.Frag) (P : XP) (fs : FEs) : TA := fun σ H Q => ∃ H0 B ρ, DenE K H0 H B σ ρ ∧ match evs fs ρ with
  | .ok rs => ∀ vs H', Same H H' → GoodRs K H0 H H' B vs rs → Q vs H'
  | .exc x => P.p x σ H
  | .stk => False
theorem PA.imp {t t' : TA} (p : PA X es t) (h : ∀ σ H Q, t' σ H Q → t σ H Q) : PA X es t' := fun pos pins s σ H Q I q => p pos pins s σ H Q I (h σ H Q q)
theorem ma_nil : PA X [] (tAs X.K P []) := PA.imp pa_nil fun σ H Q ⟨H0, B, ρ, d, h⟩ => h [] H (Same.refl H) rfl
theorem ma_cons (ha : PE X e (tE X.K P f)) (hr : PA X es (tAs X.K P fs)) (hs : starEach (e :: es) X.env = (false, eval e X.env) :: starEach es X.env := by rfl) : PA X (e :: es) (tAs X.K P (f :: fs)) := by
  refine PA.imp (pa_cons ha hr hs) ?_
  rintro σ H Q ⟨H0, B, ρ, d, h⟩
  unfold evs at h
  show tE X.K P f σ H fun x H1 => tAs X.K P fs σ H1 fun xs H2 => Q (x :: xs) H2
  cases e1 : f ρ with
  | stk => simp [e1] at h
  | exc x => simp [e1] at h; exact tE_exc d e1 h
  | ok r =>
    simp only [e1, R.ok_bind] at h
    refine tE_of d e1 fun v H1 s1 d1 g1 => ⟨H0, B, ρ, d1, ?_⟩
    cases e2 : evs fs ρ with
    | stk => simp [e2] at h
    | exc x => simp [e2] at h; exact P.mono h s1
    | ok rs =>
      simp only [e2, R.ok_bind] at h
      exact fun vs H2 s2 gs => h (v :: vs) H2 (s1.trans s2) ⟨r, rs, rfl, g1.mono s2, gs.old s1⟩
theorem tA1 {k : List Res → R Res} {σ : St} {H : Hp} {Q : VK} {q : List V → Hp → Prop} (h : tE X.K P (fun ρ => evs fs ρ >>= k) σ H Q)
    (hk : ∀ H0 B ρ vs H' rs, DenE X.K H0 H B σ ρ → DenE X.K H0 H' B σ ρ → GoodRs X.K H0 H H' B vs rs → Same H H' → (match k rs with
      | .ok r1 => ∀ v1 H1, Same H' H1 → GoodR X.K H0 H H1 B v1 r1 → Q v1 H1
      | .exc x => P.p x σ H'
      | .stk => False) → q vs H') : tAs X.K P fs σ H q := by
  obtain ⟨H0, B, ρ, d, h⟩ := h
  refine ⟨H0, B, ρ, d, ?_⟩
  cases e : evs fs ρ with
  | stk => simp [e] at h
  | exc x => simp [e] at h; exact h
  | ok rs =>
    simp only [e, R.ok_bind] at h
    intro vs H' s gs
    refine hk H0 B ρ vs H' rs d (d.mono s) gs s ?_
    cases e2 : k rs with
    | stk => rw [e2] at h; exact h
    | exc x => rw [e2] at h; exact P.mono h s
    | ok r1 => rw [e2] at h; exact fun v1 H1 s1 g1 => h v1 H1 (s.trans s1) g1
theorem GoodRs.gives {K : PySem.W.Frag} {H0 H H' : Hp} {B : Addr → Prop} {σ : St} {ρ : Env} (den : DenE K H0 H B σ ρ) : ∀ {vs : List V} {rs : List Res} {y : Bool × List D}, GoodRs K H0 H H' B vs rs → gives rs = .ok y → Reps K (cutF y.1 H0 H' B) y.2 vs
  | [], _, y, h, e => by rw [show _ = [] from h] at e; simp [Mir.gives] at e; subst e; rfl
  | v :: vs, _, y, ⟨r, rr, e1, g, gs⟩, e => by
    subst e1
    simp only [Mir.gives] at e
    cases e2 : r.give with
    | stk => simp [e2] at e
    | exc x => simp [e2] at e
    | ok r' =>
      cases e3 : Mir.gives rr with
      | stk => simp [e2, e3] at e
      | exc x => simp [e2, e3] at e
      | ok y' =>
        simp only [e2, e3, R.ok_bind] at e
        cases e
        obtain ⟨q1, q2⟩ := g.give den e2
        have q3 := GoodRs.gives den gs e3
        subst q1
        have w : ∀ {fr fr' : Bool} {d : D} {v : V}, Rep K (cutF fr H0 H' B) d v → Rep K (cutF (fr && fr') H0 H' B) d v := fun {fr fr' d v} h => by
          cases fr' with
          | true => simpa using h
          | false => simp; exact Rep.same cutF_weak h
        have w2 : ∀ {fr fr' : Bool} {d : List D} {v : List V}, Reps K (cutF fr' H0 H' B) d v → Reps K (cutF (fr && fr') H0 H' B) d v := fun {fr fr' d v} h => by
          cases fr with
          | true => simpa using h
          | false => simp; exact Reps.same cutF_weak h
        exact ⟨v, vs, rfl, w q2, w2 q3⟩
theorem gives_exc {x : Xc} : ∀ {rs : List Res}, gives rs = .exc x → False
  | [], h => by simp [gives] at h
  | r :: rs, h => by
    simp only [gives] at h
    cases e2 : r.give with
    | stk => simp [e2] at h
    | exc x => unfold Res.give at e2; split at e2 <;> cases e2
    | ok r' =>
      cases e3 : gives rs with
      | stk => simp [e2, e3] at h
      | exc x => exact gives_exc e3
      | ok y => simp [e2, e3] at h
theorem new_list {K : PySem.W.Frag} {H0 H H' : Hp} {B : Addr → Prop} {σ : St} {ρ : Env} {p : Addr} {vs : List V} {ds : List D} {fr : Bool} (den : DenE K H0 H' B σ ρ) (s : Same H H') (hp : H' p = none) (r : Reps K (cutF fr H0 H' B) ds vs) :
    GoodR K H0 H (upd H' p (.lst vs)) B (.ref p) ⟨.tmp, fr, .lst ds⟩ := by
  refine ⟨p, _, rfl, s.none hp, upd_same, .lst (Reps.same (cutF_mono (fun b o e _ => Same.upd_new hp b o e) fun b z => ?_) r)⟩
  rcases z with z | z
  · exact .inl z
  · exact .inr (by rw [z]; exact hp)
theorem new_tup {K : PySem.W.Frag} {H0 H' : Hp} {B : Addr → Prop} {σ : St} {ρ : Env} {p : Addr} {vs : List V} {ds : List D} {fr : Bool} (den : DenE K H0 H' B σ ρ) (hp : H' p = none) (r : Reps K (cutF fr H0 H' B) ds vs) :
    Rep K (cutF fr H0 (upd H' p (.tup vs)) B) (.tup ds) (.ref p) := by
  refine ⟨p, vs, rfl, cut_some.mpr ⟨fun z => ?_, upd_same⟩, Reps.same (cutF_mono (fun b o e _ => Same.upd_new hp b o e) fun b z => .inl z) r⟩
  rcases z with z | ⟨_, o, z, _⟩
  · obtain ⟨o, q, _⟩ := den.bnd p z; rw [hp] at q; cases q
  · rw [den.sam _ _ z] at hp; cases hp
theorem m_lst (h : PA X es (tAs X.K P fs)) : PE X (.List es pos) (tE X.K P (lstE fs)) := by
  refine PE.imp (pe_lst h) ?_
  intro σ H Q h
  refine tA1 h ?_
  intro H0 B ρ vs H' rs d0 d gs s h
  cases e : gives rs with
  | stk => simp [e] at h
  | exc x => exact (gives_exc e).elim
  | ok y =>
    simp only [e, R.ok_bind] at h
    have r := gs.gives d0 e
    by_cases hz : y.2.length ≤ sizeLine
    · rw [if_pos hz] at h
      exact ⟨by rw [← r.length]; exact hz, fun p hp => h _ _ (Same.upd_new hp) (new_list d s hp r)⟩
    · rw [if_neg hz] at h; exact h.elim
theorem m_tup {x1} (h : PA X es (tAs X.K P fs)) : PE X (.Tuple es x1 pos) (tE X.K P (tupE fs)) := by
  refine PE.imp (pe_tup h) ?_
  intro σ H Q h
  refine tA1 h ?_
  intro H0 B ρ vs H' rs d0 d gs s h
  cases e : gives rs with
  | stk => simp [e] at h
  | exc x => exact (gives_exc e).elim
  | ok y =>
    simp only [e, R.ok_bind] at h
    have r := gs.gives d0 e
    by_cases hz : y.2.length ≤ sizeLine
    · rw [if_pos hz] at h
      exact ⟨by rw [← r.length]; exact hz, fun p hp => h _ _ (Same.upd_new hp) (new_tup d hp r)⟩
    · rw [if_neg hz] at h; exact h.elim
theorem GoodR.seq {K : PySem.W.Frag} {H0 H H' : Hp} {B : Addr → Prop} {v : V} {r : Res} {ds : List D} (g : GoodR K H0 H H' B v r) (e : asS r.d = .ok ds) : ∃ a xs, v = .ref a ∧ (Rd H' a (.lst xs) ∨ H' a = some (.tup xs)) ∧ Reps K (cutF r.fr H0 H' B) ds xs := by
  rcases asS_ok e with e | e
  · obtain ⟨a, xs, h1, h2, h3⟩ := g.list e
    exact ⟨a, xs, h1, .inl h2, h3⟩
  · obtain ⟨a, xs, h1, h2, h3⟩ := g.tuple e
    exact ⟨a, xs, h1, .inr h2, h3⟩
theorem call1 {k : Res → R Res} {rule : List V → Hp → VK → Prop} {σ : St} {H : Hp} {Q : VK} (h : tE X.K P (fun ρ => f ρ >>= k) σ H Q)
    (hk : ∀ H0 B ρ v H' r, DenE X.K H0 H B σ ρ → DenE X.K H0 H' B σ ρ → GoodR X.K H0 H H' B v r → Same H H' → (match k r with
      | .ok r1 => ∀ v1 H1, Same H' H1 → GoodR X.K H0 H H1 B v1 r1 → Q v1 H1
      | .exc x => P.p x σ H'
      | .stk => False) → rule [v] H' Q) : tCB rule (tAs X.K P [f]) σ H Q := by
  show tAs X.K P [f] σ H fun vs H1 => rule vs H1 Q
  have e : (fun ρ => evs [f] ρ >>= fun rs => match rs with | [r] => k r | _ => .stk) = fun ρ => f ρ >>= k := by
    funext ρ
    unfold evs
    cases f ρ with
    | ok r => rfl
    | _ => rfl
  rw [← e] at h
  refine tA1 h ?_
  intro H0 B ρ vs H' rs d0 d gs s h
  match vs, rs, gs with
  | [], rs, gs => have e : rs = [] := gs; subst e; exact h.elim
  | [v], _, ⟨r, rr, e1, g1, g2⟩ =>
    subst e1
    rw [show rr = [] from g2] at h
    exact hk H0 B ρ v H' r d0 d g1 s h
  | v :: w :: _, _, ⟨r, rr, e1, g1, r2, rr2, e2, g2⟩ =>
    subst e1; subst e2
    exact h.elim
variable {x : Str} {p : Pos}
theorem m_len (hg : Gl X "len") (hm : X.mg "len" = none) (ha : PE X a (tE X.K P f)) (he : starEach [a] X.env = [(false, eval a X.env)] := by rfl) : PE X (.Call (.Name "len" p) [a] [] pos) (tE X.K P (lenE f)) := by
  refine PE.imp (pe_callB call_len_seq hg hm PySem.boot_len (ma_cons ha ma_nil he) (he := he)) ?_
  intro σ H Q h
  refine call1 h ?_
  intro H0 B ρ v H' r d0 d g s h
  cases e : asS r.d with
  | stk => simp [e] at h
  | exc x => exact (asS_exc e).elim
  | ok ds =>
    simp only [e, R.ok_bind] at h
    obtain ⟨a, xs, h1, h2, h3⟩ := g.seq e
    exact ⟨a, xs, by rw [h1], h2.imp .inl fun z => .inl (.inl z), h _ H' (Same.refl _) (by rw [h3.length]; exact GoodR.sc (show Rep _ _ (.int _) _ from rfl))⟩
theorem m_lof (hg : Gl X "list") (hm : X.mg "list" = none) (ha : PE X a (tE X.K P f)) (he : starEach [a] X.env = [(false, eval a X.env)] := by rfl) : PE X (.Call (.Name "list" p) [a] [] pos) (tE X.K P (lofE f)) := by
  refine PE.imp (pe_callTy call_list_of hg hm (by decide +kernel) (ma_cons ha ma_nil he) (he := he)) ?_
  intro σ H Q h
  refine call1 h ?_
  intro H0 B ρ v H' r d0 d g s h
  cases e : asS r.d with
  | stk => simp [e] at h
  | exc x => exact (asS_exc e).elim
  | ok ds =>
    simp only [e, R.ok_bind] at h
    obtain ⟨a, xs, h1, h2, h3⟩ := g.seq e
    exact ⟨a, xs, by rw [h1], h2.imp .inl fun z => .inl (.inl z), fun l hl => h _ _ (Same.upd_new hl) (new_list d s hl h3)⟩
theorem atI_rep {K : PySem.W.Frag} {G : Hp} {ds : List D} {xs : List V} {j : Int} {d : D} (r : Reps K G ds xs) (e : atI ds j = some d) : ∃ v, atI xs j = some v ∧ Rep K G d v := by
  unfold atI at e ⊢
  rw [← r.length]
  cases q : ixN ds.length j with
  | none => rw [q] at e; cases e
  | some n => rw [q] at e; exact r.get e
theorem i_idx {σ : St} {H : Hp} {Q : VK} (h : tE X.K P (idxE f g) σ H Q) : tOp (fun x y H Q => rIxL X.K x y H Q ∨ rIxT X.K x y H Q) (tE X.K P f) (tE X.K P g) σ H Q := by
  refine t2 (q := fun x y H2 => rIxL X.K x y H2 Q ∨ rIxT X.K x y H2 Q) h ?_
  intro H0 B ρ v w H' r r' d g1 g2 s h
  cases e1 : asS r.d with
  | stk => simp [e1] at h
  | exc x => exact (asS_exc e1).elim
  | ok ds =>
    cases e2 : asI r'.d with
    | stk => simp [e1, e2] at h
    | exc x => exact (asI_exc e2).elim
    | ok j =>
      simp only [e1, e2, R.ok_bind] at h
      cases e3 : atI ds j with
      | none => rw [e3] at h; exact h.elim
      | some dd =>
        rw [e3] at h
        rcases asS_ok e1 with e | e
        · obtain ⟨a, xs, h1, h2, h3⟩ := g1.list e
          obtain ⟨z, z1, z2⟩ := atI_rep h3 e3
          exact .inl ⟨a, xs, j, z, h1, g2.int (asI_ok e2), .inl h2, z1, h z H' (Same.refl _) (Rep.fr d.sam z2)⟩
        · obtain ⟨a, xs, h1, h2, h3⟩ := g1.tuple e
          obtain ⟨z, z1, z2⟩ := atI_rep h3 e3
          exact .inr ⟨a, xs, j, z, h1, g2.int (asI_ok e2), .inl (.inl h2), z1, h z H' (Same.refl _) (Rep.fr d.sam z2)⟩
theorem ix_seq : IxR X (fun x y H Q => rIxL X.K x y H Q ∨ rIxT X.K x y H Q) := by
  intro value slice pins s σ H x y v u Q I rx ry h hs
  rcases h with h | h
  · exact ix_list value slice pins s σ H x y v u Q I rx ry h hs
  · exact ix_tup value slice pins s σ H x y v u Q I rx ry h hs
theorem m_idx (ha : PE X a (tE X.K P f)) (hb : PE X b (tE X.K P g)) (hs : PlainIx b := by exact fun _ _ => rfl) : PE X (.Subscript a b pos) (tE X.K P (idxE f g)) := PE.imp (pe_ix ix_seq ha hb hs) fun σ H Q h => i_idx h
theorem Inv.rdL {pins : List (Addr × Obj)} {σ : St} {H : Hp} {s : Shared} {l : Addr} {xs : List V} (I : Inv X pins σ H s) (h : Rd H l (.lst xs)) : xs.length ≤ sizeLine ∧ ∃ (its : List Value) (n : Nat), Vals xs its ∧ s.heap.get? l = some { cls := .type "list", data := .seq its.toArray n } := h.ok I.hok
def rCatS : R2 := fun x y H Q => ∃ l b xs zs, x = .ref l ∧ y = .ref b ∧ Rd H l (.lst xs) ∧ Rd H b (.lst zs) ∧ xs.length + zs.length ≤ sizeLine ∧ ∀ p, H p = none → Q (.ref p) (upd H p (.lst (xs ++ zs)))
theorem op_catS : OpR X (binaryOp .Add) rCatS := by
  intro pins s σ H x y v u Q I rx ry h
  obtain ⟨l, b, xs, zs, rfl, rfl, hH, hB, hz, q⟩ := h
  cases rx
  cases ry
  obtain ⟨z, its, n, r, e⟩ := Inv.rdL I hH
  obtain ⟨z2, its2, n2, r2, e2⟩ := Inv.rdL I hB
  have hl := r.length
  have hl2 := r2.length
  refine PySem.P.add_list e e2 ?_ (by rw [List.size_toArray, List.size_toArray]; omega)
  have ea : its.toArray ++ its2.toArray = (its ++ its2).toArray := by simp
  rw [ea]
  exact ⟨.ref _, _, I.lnew (t' := s.toks) (r.append r2) (by rw [List.length_append]; omega), rfl, q _ I.fresh⟩
theorem Reps.andL {K : PySem.W.Frag} {H0 H : Hp} {B : Addr → Prop} {fr fr' : Bool} {ds : List D} {vs : List V} (h : Reps K (cutF fr H0 H B) ds vs) : Reps K (cutF (fr && fr') H0 H B) ds vs := by
  cases fr' with
  | true => simpa using h
  | false => simp; exact Reps.same cutF_weak h
theorem Reps.andR {K : PySem.W.Frag} {H0 H : Hp} {B : Addr → Prop} {fr fr' : Bool} {ds : List D} {vs : List V} (h : Reps K (cutF fr' H0 H B) ds vs) : Reps K (cutF (fr && fr') H0 H B) ds vs := by
  cases fr with
  | true => simpa using h
  | false => simp; exact Reps.same cutF_weak h
theorem m_cat (ha : PE X a (tE X.K P f)) (hb : PE X b (tE X.K P g)) : PE X (.BinOp a .Add b pos) (tE X.K P (catE f g)) := by
  refine PE.imp (pe_op op_catS ha hb) ?_
  intro σ H Q h
  refine t2 (q := fun x y H2 => rCatS x y H2 Q) h ?_
  intro H0 B ρ v w H' r r' d g1 g2 s h
  cases e1 : asL r.d with
  | stk => simp [e1] at h
  | exc x => exact (asL_exc e1).elim
  | ok xs =>
    cases e2 : asL r'.d with
    | stk => simp [e1, e2] at h
    | exc x => exact (asL_exc e2).elim
    | ok ys =>
      simp only [e1, e2, R.ok_bind] at h
      obtain ⟨a1, xs1, h1, h2, h3⟩ := g1.list (asL_ok e1)
      obtain ⟨a2, xs2, k1, k2, k3⟩ := g2.list (asL_ok e2)
      by_cases hz : xs.length + ys.length ≤ sizeLine
      · rw [if_pos hz] at h
        exact ⟨a1, a2, xs1, xs2, h1, k1, h2, k2, by rw [← h3.length, ← k3.length]; exact hz, fun p hp => h _ _ (Same.upd_new hp) (new_list d s hp (h3.andL.append k3.andR))⟩
      · rw [if_neg hz] at h; exact h.elim
theorem PO.imp {e : Option Expr} {t t' : TO} (p : PO X e t) (h : ∀ σ H Q, t' σ H Q → t σ H Q) : PO X e t' := fun pins s σ H Q I q => p pins s σ H Q I (h σ H Q q)
theorem m_and {rest : List Expr} (ha : PE X a (tE X.K P f)) (hb : PE X (.BoolOp .And (b :: rest) pos) (tE X.K P g)) : PE X (.BoolOp .And (a :: b :: rest) pos) (tE X.K P (andE f g)) := by
  refine PE.imp (pe_and ha hb) ?_
  rintro σ H Q ⟨H0, B, ρ, d, h⟩
  unfold andE at h
  show tE X.K P f σ H fun x H1 => ∃ c, x = .bl c ∧ if c = true then tE X.K P g σ H1 Q else Q (.bl false) H1
  cases e : f ρ with
  | stk => simp [e] at h
  | exc x => simp [e] at h; exact tE_exc d e h
  | ok r =>
    cases e1 : asB r.d with
    | stk => simp [e, e1] at h
    | exc x => exact (asB_exc e1).elim
    | ok t =>
      simp only [e, e1, R.ok_bind] at h
      refine tE_of d e fun v H1 s1 d1 g1 => ⟨t, g1.bl (asB_ok e1), ?_⟩
      cases t with
      | false => exact iteF (h _ H1 s1 (GoodR.sc (show Rep _ _ (.bl false) _ from rfl)))
      | true =>
        refine iteT ⟨H0, B, ρ, d1, ?_⟩
        rw [if_pos rfl] at h
        cases e2 : g ρ with
        | stk => rw [e2] at h; exact h
        | exc x => rw [e2] at h; exact P.mono h s1
        | ok r2 => rw [e2] at h; exact fun v2 H2 s2 g2 => h v2 H2 (s1.trans s2) (g2.old s1)
theorem m_one {op} (h : PE X a (tE X.K P f)) : PE X (.BoolOp op [a] pos) (tE X.K P f) := pe_one h
end Mir
set_option Elab.async false
set_option linter.all false
set_option maxRecDepth 100000
set_option maxHeartbeats 1000000
namespace Mir
open PySem L2
variable {X : Cx} {P : XP} {a b c e : Expr} {es : List Expr} {f g : FE} {fs : FEs} {pos : Pos}
def Walk (K : PySem.W.Frag) (H0 H' : Hp) (B : Addr → Prop) (J : It) (w : Its) : Prop := ∃ A : Addr → Prop, (w.st = true → ∀ a, A a → ¬ B a) ∧
  ∀ (H2 : Hp) (B2 : Addr → Prop), (∀ a o, A a → H' a = some o → H2 a = some o) → (∀ b o, H' b = some o → ¬ B b → H2 b = some o) → (∀ b, B2 b → B b ∨ H' b = none) → (∀ b, B2 b → ∃ o, H2 b = some o) → Same H0 H2 → ∀ i,
    (w.ds.length ≤ i → J.stop i H2) ∧ ∀ d, w.ds[i]? = some d → J.go i H2 ∧ ∀ x H3, J.yld i H2 x H3 → Same H2 H3 ∧ Rep K (cutF w.fr H0 H3 B2) d x
def tI (K : PySem.W.Frag) (P : XP) (f : FI) : TI := fun σ H Rq => ∃ H0 B ρ, DenE K H0 H B σ ρ ∧ match f ρ with
  | .ok w => ∀ J H', Same H H' → Walk K H0 H' B J w → Rq J H'
  | .exc x => P.p x σ H
  | .stk => False
theorem PI.imp {tg : Expr} {t t' : TI} (p : PI X tg e t) (h : ∀ σ H Rq, t' σ H Rq → t σ H Rq) : PI X tg e t' := fun pins s σ H Rq I q => p pins s σ H Rq I (h σ H Rq q)
theorem GoodR.notB {K : PySem.W.Frag} {H0 H H' : Hp} {B : Addr → Prop} {v : V} {r : Res} {σ : St} {ρ : Env} {ds : List D} {a : Addr} (den : DenE K H0 H B σ ρ) (g : GoodR K H0 H H' B v r) (e : r.d = .lst ds) (hv : v = .ref a) (hk : (r.k != .own) = true) : ¬ B a := by
  unfold GoodR at g
  cases k : r.k with
  | shr =>
    rw [k, e, hv] at g
    obtain ⟨a', xs, h1, h2, h3⟩ := g
    cases h1
    rcases h2 with h | ⟨o, h⟩
    · exact fun z => (cut_some.mp h).1 (.inl z)
    · exact fun z => (cut_some.mp h).1 (.inl z)
  | own => rw [k] at hk; cases hk
  | old => rw [k] at g; exact g.elim
  | tmp =>
    rw [k, hv] at g
    obtain ⟨a', o', h1, h2, _⟩ := g
    cases h1
    intro z
    obtain ⟨o, q, _⟩ := den.bnd a z
    rw [h2] at q; cases q
theorem rd_keep {H H2 : Hp} {a : Addr} {u : HO} (h : Rd H a u) (k : ∀ o, H a = some o → H2 a = some o) : Rd H2 a u := by
  rcases h with h | ⟨o, h⟩
  · exact .inl (k _ h)
  · exact .inr ⟨o, k _ h⟩
theorem walk_list {K : PySem.W.Frag} {H0 H' : Hp} {B : Addr → Prop} {a : Addr} {xs : List V} {ds : List D} {st fr : Bool} (hs : st = true → ¬ B a) (h2 : Rd H' a (.lst xs)) (h3 : Reps K (cutF fr H0 H' B) ds xs) : Walk K H0 H' B (Itl K a) ⟨st, fr, ds⟩ := by
  refine ⟨fun b => b = a, fun h b z => by rw [z]; exact hs h, fun H2 B2 k1 k2 k3 k4 k5 i => ?_⟩
  have q : SqL K H2 a xs := .inl (rd_keep h2 fun o => k1 a o rfl)
  refine ⟨fun hi => ⟨xs, q, by rw [← h3.length]; exact hi⟩, fun d hd => ?_⟩
  obtain ⟨v, hv, rv⟩ := h3.get hd
  refine ⟨⟨xs, v, q, hv⟩, fun x H3 y => ?_⟩
  obtain ⟨e, y⟩ := y
  subst e
  have := y xs q
  rw [hv] at this
  cases this
  exact ⟨Same.refl _, Rep.same (cutF_mono k2 k3) rv⟩
theorem walk_rng {K : PySem.W.Frag} {H0 H' : Hp} {B : Addr → Prop} {lo : Int} {n : Nat} : Walk K H0 H' B (Itr lo n) ⟨true, true, rngD lo n⟩ := by
  refine ⟨fun _ => False, fun _ _ z => z.elim, fun H2 B2 _ _ _ _ _ i => ⟨fun hi => ?_, fun d hd => ?_⟩⟩
  · show n ≤ i
    simpa [rngD] using hi
  · unfold rngD at hd
    rw [List.getElem?_map] at hd
    cases q : (List.range n)[i]? with
    | none => rw [q] at hd; cases hd
    | some k =>
      rw [q] at hd
      cases hd
      obtain ⟨q1, q2⟩ := List.getElem?_eq_some_iff.mp q
      have hi : i < n := by simpa using q1
      have : k = i := by rw [← q2]; simp
      subst this
      refine ⟨hi, fun x H3 y => ?_⟩
      obtain ⟨e1, e2⟩ := y
      subst e1
      exact ⟨Same.refl _, e2⟩
theorem mi_lst {tg : Expr} (ha : PE X a (tE X.K P f)) : PI X tg a (tI X.K P (lstI f)) := by
  refine PI.imp (pi_list ha) ?_
  rintro σ H Rq ⟨H0, B, ρ, d, h⟩
  unfold lstI at h
  show tE X.K P f σ H fun x H1 => ∃ a, x = .ref a ∧ (∃ xs, SqL X.K H1 a xs) ∧ Rq (Itl X.K a) H1
  cases e : f ρ with
  | stk => simp [e] at h
  | exc x => simp [e] at h; exact tE_exc d e h
  | ok r =>
    cases e1 : asL r.d with
    | stk => simp [e, e1] at h
    | exc x => exact (asL_exc e1).elim
    | ok ds =>
      simp only [e, e1, R.ok_bind] at h
      refine tE_of d e fun v H' s d' g' => ?_
      obtain ⟨a, xs, h1, h2, h3⟩ := g'.list (asL_ok e1)
      exact ⟨a, h1, ⟨xs, .inl h2⟩, h _ H' s (walk_list (fun hk => g'.notB d (asL_ok e1) h1 hk) h2 h3)⟩
variable {p : Pos}
theorem tA_I {k : List Res → R Its} {σ : St} {H : Hp} {Rq : It → Hp → Prop} {q : List V → Hp → Prop} (h : tI X.K P (fun ρ => evs fs ρ >>= k) σ H Rq)
    (hk : ∀ H0 B ρ vs H' rs, DenE X.K H0 H B σ ρ → DenE X.K H0 H' B σ ρ → GoodRs X.K H0 H H' B vs rs → Same H H' → (match k rs with
      | .ok w => ∀ J H1, Same H' H1 → Walk X.K H0 H1 B J w → Rq J H1
      | .exc x => P.p x σ H'
      | .stk => False) → q vs H') : tAs X.K P fs σ H q := by
  obtain ⟨H0, B, ρ, d, h⟩ := h
  refine ⟨H0, B, ρ, d, ?_⟩
  cases e : evs fs ρ with
  | stk => simp [e] at h
  | exc x => simp [e] at h; exact h
  | ok rs =>
    simp only [e, R.ok_bind] at h
    intro vs H' s gs
    refine hk H0 B ρ vs H' rs d (d.mono s) gs s ?_
    cases e2 : k rs with
    | stk => rw [e2] at h; exact h
    | exc x => rw [e2] at h; exact P.mono h s
    | ok r1 => rw [e2] at h; exact fun v1 H1 s1 g1 => h v1 H1 (s.trans s1) g1
theorem mi_rng1 {tg : Expr} (hg : Gl X "range") (hm : X.mg "range" = none) (ha : PE X a (tE X.K P f)) (hs : starEach [a] X.env = [(false, eval a X.env)] := by rfl) : PI X tg (.Call (.Name "range" p) [a] [] pos) (tI X.K P (rng1I f)) := by
  refine PI.imp (pi_range1 hg hm (ma_cons ha ma_nil hs) hs) ?_
  intro σ H Rq h
  show tAs X.K P [f] σ H fun vs H1 => ∃ j : Int, vs = [.int j] ∧ -(2 ^ 62) ≤ j ∧ j < 2 ^ 62 ∧ Rq (Itr 0 j.toNat) H1
  have e : rng1I f = fun ρ => evs [f] ρ >>= fun rs => match rs with | [x] => (asI x.d >>= fun j => if -(2 ^ 62) ≤ j ∧ j < 2 ^ 62 then .ok ⟨true, true, rngD 0 j.toNat⟩ else .stk) | _ => .stk := by
    funext ρ
    unfold rng1I evs
    cases f ρ with
    | ok r => rfl
    | _ => rfl
  rw [e] at h
  refine tA_I h ?_
  intro H0 B ρ vs H' rs d0 d gs s h
  match vs, rs, gs with
  | [], rs, gs => have e : rs = [] := gs; subst e; exact h.elim
  | [v], _, ⟨r, rr, e1, g1, g2⟩ =>
    subst e1
    rw [show rr = [] from g2] at h
    cases e2 : asI r.d with
    | stk => simp [e2] at h
    | exc x => exact (asI_exc e2).elim
    | ok j =>
      simp only [e2, R.ok_bind] at h
      by_cases hj : -(2 ^ 62) ≤ j ∧ j < 2 ^ 62
      · rw [if_pos hj] at h
        exact ⟨j, by rw [g1.int (asI_ok e2)], hj.1, hj.2, h _ H' (Same.refl _) walk_rng⟩
      · rw [if_neg hj] at h; exact h.elim
  | v :: w :: _, _, ⟨r, rr, e1, g1, r2, rr2, e2, g2⟩ =>
    subst e1; subst e2
    exact h.elim
theorem two {k : Res → Res → R Its} {F : FI} (hF : F = fun ρ => f ρ >>= fun x => g ρ >>= fun y => k x y) {σ : St} {H : Hp} {Rq : It → Hp → Prop} {q : List V → Hp → Prop} (h : tI X.K P F σ H Rq)
    (hk : ∀ H0 B ρ v w H' r r', DenE X.K H0 H B σ ρ → DenE X.K H0 H' B σ ρ → GoodR X.K H0 H H' B v r → GoodR X.K H0 H H' B w r' → Same H H' → (match k r r' with
      | .ok w => ∀ J H1, Same H' H1 → Walk X.K H0 H1 B J w → Rq J H1
      | .exc x => P.p x σ H'
      | .stk => False) → q [v, w] H') : tAs X.K P [f, g] σ H q := by
  have e : F = fun ρ => evs [f, g] ρ >>= fun rs => match rs with | [x, y] => k x y | _ => .stk := by
    rw [hF]
    funext ρ
    unfold evs evs
    cases f ρ with
    | ok r =>
      show (g ρ >>= fun y => k r y) = _
      cases g ρ with
      | ok r' => rfl
      | _ => rfl
    | _ => rfl
  rw [e] at h
  refine tA_I h ?_
  intro H0 B ρ vs H' rs d0 d gs s h
  match vs, rs, gs with
  | [], rs, gs => have e : rs = [] := gs; subst e; exact h.elim
  | [v], _, ⟨r, rr, e1, g1, g2⟩ =>
    subst e1
    rw [show rr = [] from g2] at h
    exact h.elim
  | [v, w], _, ⟨r, rr, e1, g1, r2, rr2, e2, g2, g3⟩ =>
    subst e1; subst e2
    rw [show rr2 = [] from g3] at h
    exact hk H0 B ρ v w H' r r2 d0 d g1 g2 s h
  | _ :: _ :: _ :: _, _, ⟨r, rr, e1, g1, r2, rr2, e2, g2, r3, rr3, e3, _⟩ =>
    subst e1; subst e2; subst e3
    exact h.elim
theorem mi_rng2 {tg : Expr} (hg : Gl X "range") (hm : X.mg "range" = none) (ha : PE X a (tE X.K P f)) (hb : PE X b (tE X.K P g)) (hs : starEach [a, b] X.env = [(false, eval a X.env), (false, eval b X.env)] := by rfl) (hs2 : starEach [b] X.env = [(false, eval b X.env)] := by rfl) :
    PI X tg (.Call (.Name "range" p) [a, b] [] pos) (tI X.K P (rng2I f g)) := by
  refine PI.imp (pi_range2 hg hm (ma_cons ha (ma_cons hb ma_nil hs2) (by rw [hs, hs2])) hs hs2) ?_
  intro σ H Rq h
  refine two rfl h ?_
  intro H0 B ρ v w H' r r' d0 d g1 g2 s h
  cases e1 : asI r.d with
  | stk => simp [e1] at h
  | exc x => exact (asI_exc e1).elim
  | ok i =>
    cases e2 : asI r'.d with
    | stk => simp [e1, e2] at h
    | exc x => exact (asI_exc e2).elim
    | ok j =>
      simp only [e1, e2, R.ok_bind] at h
      by_cases hj : -(2 ^ 62) ≤ i ∧ i < 2 ^ 62 ∧ -(2 ^ 62) ≤ j ∧ j < 2 ^ 62
      · rw [if_pos hj] at h
        exact ⟨i, j, by rw [g1.int (asI_ok e1), g2.int (asI_ok e2)], hj, h _ H' (Same.refl _) walk_rng⟩
      · rw [if_neg hj] at h; exact h.elim
end Mir
set_option Elab.async false
set_option linter.all false
set_option maxRecDepth 100000
set_option maxHeartbeats 1000000
namespace Mir
open PySem L2
variable {X : Cx} {P : XP} {a b c e : Expr} {es : List Expr} {f g : FE} {fs : FEs} {pos : Pos}
mutual
def gOf (K : PySem.W.Frag) : Tg → TG
  | .nm i => gName i
  | .tp ts => gTup K ts.length (gsOf K ts)
def gsOf (K : PySem.W.Frag) : List Tg → TGs
  | [] => gNil
  | t :: ts => gCons (gOf K t) (gsOf K ts)
end
theorem binds_len {fr : Bool} : ∀ (ts : List Tg) (ds : List D) (ρ ρ' : Env), Tg.binds fr ts ds ρ = .ok ρ' → ds.length = ts.length
  | [], ds, ρ, ρ', e => by
    cases ds with
    | nil => rfl
    | cons d ds => simp [Tg.binds] at e
  | t :: ts, ds, ρ, ρ', e => by
    cases ds with
    | nil => simp [Tg.binds] at e
    | cons d ds =>
      simp only [Tg.binds] at e
      cases e1 : Tg.bind fr t d ρ with
      | stk => simp [e1] at e
      | exc x => simp [e1] at e
      | ok ρ1 =>
        simp only [e1, R.ok_bind] at e
        simp [binds_len ts ds ρ1 ρ' e]
section
variable {K : PySem.W.Frag} {G H : Hp} {fr : Bool} {I : St → Env → Prop}
mutual
theorem gOf_gen (sub : Same G H) (hI : ∀ σ ρ i d v, I σ ρ → Rep K G d v → I (σ.set i (some v)) (ρ.set i (some ⟨.shr, fr, d⟩))) : ∀ (t : Tg) (d : D) (v : V) (σ : St) (ρ ρ' : Env) (Q : St → Hp → Prop), Tg.bind fr t d ρ = .ok ρ' → Rep K G d v → I σ ρ → (∀ σ', I σ' ρ' → Q σ' H) → gOf K t v σ H Q
  | .nm i, d, v, σ, ρ, ρ', Q, e, r, i0, q => by
    unfold gOf
    simp only [Tg.bind] at e
    cases e
    exact q _ (hI σ ρ i d v i0 r)
  | .tp ts, d, v, σ, ρ, ρ', Q, e, r, i0, q => by
    unfold gOf
    cases d with
    | tup ds =>
      simp only [Tg.bind] at e
      obtain ⟨a, xs, h1, h2, h3⟩ := r
      have := gsOf_gen sub hI ts ds xs σ ρ ρ' Q e h3 i0 q
      exact ⟨a, xs, h1, .inl (.inl (sub _ _ h2)), by rw [← h3.length]; exact this.2, this.1⟩
    | _ => simp [Tg.bind] at e
theorem gsOf_gen (sub : Same G H) (hI : ∀ σ ρ i d v, I σ ρ → Rep K G d v → I (σ.set i (some v)) (ρ.set i (some ⟨.shr, fr, d⟩))) : ∀ (ts : List Tg) (ds : List D) (vs : List V) (σ : St) (ρ ρ' : Env) (Q : St → Hp → Prop), Tg.binds fr ts ds ρ = .ok ρ' → Reps K G ds vs → I σ ρ → (∀ σ', I σ' ρ' → Q σ' H) → gsOf K ts vs σ H Q ∧ ds.length = ts.length
  | [], ds, vs, σ, ρ, ρ', Q, e, r, i0, q => by
    cases ds with
    | nil =>
      simp only [Tg.binds] at e
      cases e
      exact ⟨by unfold gsOf; exact ⟨r, q σ i0⟩, rfl⟩
    | cons d ds => simp [Tg.binds] at e
  | t :: ts, ds, vs, σ, ρ, ρ', Q, e, r, i0, q => by
    cases ds with
    | nil => simp [Tg.binds] at e
    | cons d ds =>
      simp only [Tg.binds] at e
      obtain ⟨x, xr, h1, h2, h3⟩ := r
      cases e1 : Tg.bind fr t d ρ with
      | stk => simp [e1] at e
      | exc x => simp [e1] at e
      | ok ρ1 =>
        simp only [e1, R.ok_bind] at e
        have len := binds_len ts ds ρ1 ρ' e
        refine ⟨?_, by simp [len]⟩
        unfold gsOf
        exact ⟨x, xr, h1, gOf_gen sub hI t d x σ ρ ρ1 _ e1 h2 i0 fun σ' i1 => (gsOf_gen sub hI ts ds xr σ' ρ1 ρ' Q e h3 i1 q).1⟩
end
end
theorem Good.to {K : PySem.W.Frag} {H0 H H' : Hp} {B B' : Addr → Prop} {v : V} {r : Res} (sm : Same H0 H) (g : Good K H0 H B v r) (k : ∀ b o, H b = some o → ¬ B b → H' b = some o) (ko : ∀ b o, H b = some o → B b → r.k = .own → v = .ref b → H' b = some o ∧ B' b) (h : ∀ b, B' b → B b ∨ H b = none) : Good K H0 H' B' v r := by
  unfold Good at g ⊢
  have m : ∀ fr, Same (cutF fr H0 H B) (cutF fr H0 H' B') := fun fr => cutF_mono k h
  cases e : r.k with
  | shr => rw [e] at g; exact Rep.same (m _) g
  | own =>
    rw [e] at g
    obtain ⟨a, o, h1, h2, h3, h4, h5⟩ := g
    obtain ⟨q1, q2⟩ := ko a _ h4 h2 e h1
    exact ⟨a, o, h1, q2, h3, q1, h5.same (m _)⟩
  | tmp => rw [e] at g; exact g
  | old => rw [e] at g; exact ⟨g.1, Rep.same (cut_mono (fun _ _ q _ => q) fun b z => (h b z).imp id fun q => sm.none q) g.2⟩
theorem DenE.to {K : PySem.W.Frag} {H0 H H' : Hp} {B B' : Addr → Prop} {σ : St} {ρ : Env} (d : DenE K H0 H B σ ρ) (s : Same H H') (hB : ∀ b, B b → B' b) (h : ∀ b, B' b → B b ∨ H b = none) (bnd : ∀ b, B' b → ∃ o, H' b = some o ∧ stab o = false) : DenE K H0 H' B' σ ρ :=
  ⟨d.len, d.sam.trans s, bnd, fun i e he => let ⟨v, a, g⟩ := d.ent i e he; ⟨v, a, g.to d.sam (fun b o q _ => s b o q) (fun b o q q2 _ _ => ⟨s b o q, hB b q2⟩) h⟩⟩
theorem DenE.set {K : PySem.W.Frag} {H0 H : Hp} {B : Addr → Prop} {σ : St} {ρ : Env} {i : Nat} {v : V} {r : Res} (d : DenE K H0 H B σ ρ) (g : Good K H0 H B v r) : DenE K H0 H B (σ.set i (some v)) (ρ.set i (some r)) := by
  refine ⟨by rw [List.length_set, List.length_set]; exact d.len, d.sam, d.bnd, fun j e he => ?_⟩
  by_cases hj : i = j
  · subst hj
    by_cases hi : i < ρ.length
    · rw [List.getElem?_set_self hi] at he
      cases he
      exact ⟨v, List.getElem?_set_self (by rw [← d.len]; exact hi), g⟩
    · rw [List.getElem?_eq_none (by rw [List.length_set]; omega)] at he
      cases he
  · rw [List.getElem?_set_ne hj] at he
    obtain ⟨w, q1, q2⟩ := d.ent j e he
    exact ⟨w, by rw [List.getElem?_set_ne hj]; exact q1, q2⟩
theorem DenE.comp {K : PySem.W.Frag} {H0 H : Hp} {B : Addr → Prop} {σ : St} {ρ : Env} (d : DenE K H0 H B σ ρ) (k : Nat) (fs : List Nat) : DenE K H0 H B (compSt k fs σ) (cmpEnv k fs ρ) := by
  refine ⟨by simp [compSt, cmpEnv], d.sam, d.bnd, fun i e he => ?_⟩
  unfold cmpEnv at he
  unfold compSt
  by_cases hi : i < k
  · rw [List.getElem?_append_left (by simpa using hi), List.getElem?_replicate, if_pos hi] at he
    cases he
  · rw [List.getElem?_append_right (by simpa using hi), List.length_replicate, List.getElem?_map] at he
    rw [List.getElem?_append_right (by simpa using hi), List.length_replicate, List.getElem?_map]
    cases q : fs[i - k]? with
    | none => rw [q] at he; cases he
    | some j =>
      rw [q] at he
      simp only [Option.map_some, Option.some.injEq] at he ⊢
      have he' : ρ[j]? = some (some e) := by
        cases z : ρ[j]? with
        | none => rw [z] at he; cases he
        | some y => rw [z] at he; simp at he; rw [he]
      obtain ⟨v, q1, q2⟩ := d.ent j e he'
      exact ⟨v, by rw [q1]; rfl, q2⟩
def tBm (K : PySem.W.Frag) (P : XP) (f : FB) : St → Hp → (Option V → Hp → Prop) → Prop := fun σ H Q => ∃ H0 B ρ, DenE K H0 H B σ ρ ∧ match f ρ with
  | .ok (some r) => ∀ v H', Same H H' → GoodR K H0 H H' B v r → Q (some v) H'
  | .ok none => ∀ H', Same H H' → Q none H'
  | .exc x => P.p x σ H
  | .stk => False
theorem PB.imp {ifs : List Expr} {t t' : St → Hp → (Option V → Hp → Prop) → Prop} (p : PB X ifs e t) (h : ∀ σ H Q, t' σ H Q → t σ H Q) : PB X ifs e t' := fun pins s σ H Q I q => p pins s σ H Q I (h σ H Q q)
theorem mb_elt (he : PE X e (tE X.K P f)) : PB X [] e (tBm X.K P (bE f)) := by
  refine PB.imp (pb_elt he) ?_
  rintro σ H Q ⟨H0, B, ρ, d, h⟩
  unfold bE at h
  show tE X.K P f σ H fun v H' => Q (some v) H'
  cases e1 : f ρ with
  | stk => simp [e1] at h
  | exc x => simp [e1] at h; exact tE_exc d e1 h
  | ok r => simp only [e1, R.ok_bind] at h; exact tE_of d e1 fun v H' s d' g' => h v H' s g'
theorem bind_exc {fr : Bool} {x : Xc} : ∀ (t : Tg) (d : D) (ρ : Env), Tg.bind fr t d ρ = .exc x → False := by
  have hs : ∀ (n : Nat), (∀ (t : Tg) (d : D) (ρ : Env), sizeOf t ≤ n → Tg.bind fr t d ρ = .exc x → False) ∧ (∀ (ts : List Tg) (ds : List D) (ρ : Env), sizeOf ts ≤ n → Tg.binds fr ts ds ρ = .exc x → False) := by
    intro n
    induction n with
    | zero =>
      refine ⟨fun t d ρ h => ?_, fun ts ds ρ h => ?_⟩
      · cases t <;> simp at h
      · cases ts <;> simp at h
    | succ n ih =>
      refine ⟨fun t d ρ h e => ?_, fun ts ds ρ h e => ?_⟩
      · cases t with
        | nm i => simp [Tg.bind] at e
        | tp ts =>
          cases d with
          | tup ds => simp only [Tg.bind] at e; exact ih.2 ts ds ρ (by simp at h; omega) e
          | _ => simp [Tg.bind] at e
      · cases ts with
        | nil => cases ds <;> simp [Tg.binds] at e
        | cons t ts =>
          cases ds with
          | nil => simp [Tg.binds] at e
          | cons d ds =>
            simp only [Tg.binds] at e
            simp at h
            cases e1 : Tg.bind fr t d ρ with
            | stk => simp [e1] at e
            | exc y => simp [e1] at e; subst e; exact ih.1 t d ρ (by omega) e1
            | ok ρ1 => simp only [e1, R.ok_bind] at e; exact ih.2 ts ds ρ1 (by omega) e
  exact fun t d ρ e => (hs (sizeOf t)).1 t d ρ (Nat.le_refl _) e
theorem cmpL_exc {tg : Tg} {fb : FB} {fr : Bool} {ρ : Env} {x : Xc} : ∀ {ds : List D}, cmpL tg fb fr ρ ds = .exc x → False
  | [], e => by simp [cmpL] at e
  | d :: r, e => by
    simp only [cmpL] at e
    cases e1 : tg.bind fr d ρ with
    | stk => simp [e1] at e
    | exc y => exact bind_exc _ _ _ e1
    | ok ρ1 =>
      simp only [e1, R.ok_bind] at e
      cases e2 : fb ρ1 with
      | stk => simp [e2] at e
      | exc y => simp [e2] at e
      | ok o =>
        cases o with
        | none => simp only [e2] at e; exact cmpL_exc e
        | some r' =>
          simp only [e2] at e
          cases e3 : r'.give with
          | stk => simp [e3] at e
          | exc y => unfold Res.give at e3; split at e3 <;> cases e3
          | ok z =>
            simp only [e3, R.ok_bind] at e
            cases e4 : cmpL tg fb fr ρ r with
            | stk => simp [e4] at e
            | exc y => exact cmpL_exc e4
            | ok z => simp [e4] at e
theorem cmp_core {K : PySem.W.Frag} {H0 H H1 : Hp} {B : Addr → Prop} {σ : St} {ρ : Env} {J : It} {w : Its} {k : Nat} {fs : List Nat} {tg : Tg} {fb : FB} {y : Bool × List D} {acc : Addr} {Qf : Hp → Prop}
    (d : DenE K H0 H B σ ρ) (s1 : Same H H1) (hw : Walk K H0 H1 B J w) (e : cmpL tg fb w.fr (cmpEnv k fs ρ) w.ds = .ok y) (hz : w.ds.length ≤ sizeLine) (hacc : H1 acc = none)
    (hq : ∀ H2, Same H H2 → GoodR K H0 H H2 B (.ref acc) ⟨.tmp, y.1, .lst y.2⟩ → Qf H2) : CompRd J k fs (gOf K tg) (tBm K XP0 fb) σ acc Qf H1 := by
  obtain ⟨A, hst, hwk⟩ := hw
  have hacc0 : H acc = none := s1.none hacc
  have nB : ¬ B acc := fun z => by obtain ⟨o, q, _⟩ := d.bnd acc z; rw [hacc0] at q; cases q
  refine ⟨fun i m ys H2 => m = w.ds.length - i ∧ i ≤ w.ds.length ∧ ys.length ≤ i ∧ Same H1 H2 ∧ H2 acc = some (.lst ys) ∧ ∃ es1 esS frS, y.2 = es1 ++ esS ∧ cmpL tg fb w.fr (cmpEnv k fs ρ) (w.ds.drop i) = .ok (frS, esS) ∧ (y.1 = true → frS = true) ∧
    Reps K (cutF y.1 H0 H2 fun b => B b ∨ b = acc) es1 ys, ⟨w.ds.length, rfl, Nat.zero_le _, Nat.le_refl _, Same.upd_new hacc, upd_same, [], y.2, y.1, rfl, e, fun h => h, rfl⟩, ?_⟩
  rintro i m ys H2 ⟨hm, hi, hys, s2, ha2, es1, esS, frS, hy, hS, hfr, hR⟩
  refine ⟨ha2, ?_⟩
  have sH2 := s1.trans s2
  have bnd2 : ∀ b, (B b ∨ b = acc) → ∃ o, H2 b = some o ∧ stab o = false := fun b z => by
    rcases z with z | z
    · obtain ⟨o, q, n⟩ := d.bnd b z
      exact ⟨o, sH2 _ _ q, n⟩
    · exact ⟨_, by rw [z]; exact ha2, rfl⟩
  have cond : ∀ b, (B b ∨ b = acc) → B b ∨ H1 b = none := fun b z => z.imp id fun z => by rw [z]; exact hacc
  have cond0 : ∀ b, (B b ∨ b = acc) → B b ∨ H b = none := fun b z => z.imp id fun z => by rw [z]; exact hacc0
  have wk := hwk H2 (fun b => B b ∨ b = acc) (fun a o _ q => s2 _ _ q) (fun b o q _ => s2 _ _ q) cond (fun b z => let ⟨o, q, _⟩ := bnd2 b z; ⟨o, q⟩) (d.sam.trans sH2) i
  by_cases hlt : i < w.ds.length
  · refine .inr ?_
    have hd : w.ds[i]? = some w.ds[i] := List.getElem?_eq_getElem hlt
    obtain ⟨go, yl⟩ := wk.2 _ hd
    refine ⟨go, Nat.lt_of_le_of_lt hys (Nat.lt_of_lt_of_le hlt hz), fun x H3 y3 => ?_⟩
    obtain ⟨s3, rx⟩ := yl x H3 y3
    rw [List.drop_eq_getElem_cons hlt] at hS
    simp only [cmpL] at hS
    have den3 : DenE K H0 H3 (fun b => B b ∨ b = acc) (compSt k fs σ) (cmpEnv k fs ρ) :=
      (d.to (sH2.trans s3) (fun b z => .inl z) cond0 fun b z => let ⟨o, q, n⟩ := bnd2 b z; ⟨o, s3 _ _ q, n⟩).comp k fs
    cases e1 : tg.bind w.fr w.ds[i] (cmpEnv k fs ρ) with
    | stk => simp [e1] at hS
    | exc x => simp [e1] at hS
    | ok ρ1 =>
      simp only [e1, R.ok_bind] at hS
      refine gOf_gen (G := cutF w.fr H0 H3 fun b => B b ∨ b = acc) (fr := w.fr) (I := fun σ' ρ' => DenE K H0 H3 (fun b => B b ∨ b = acc) σ' ρ') cut_same (fun σ' ρ' i d' v' D r => D.set r) tg _ x _ _ ρ1 _ e1 rx den3 fun σ4 den4 => ?_
      refine ⟨H0, _, ρ1, den4, ?_⟩
      cases e2 : fb ρ1 with
      | stk => simp [e2] at hS
      | exc x => simp [e2] at hS
      | ok o =>
        cases o with
        | none =>
          simp only [e2] at hS
          intro H5 s5
          refine ⟨w.ds.length - (i + 1), by omega, rfl, hlt, by omega, (s2.trans s3).trans s5, s5 _ _ (s3 _ _ ha2), es1, esS, frS, hy, hS, hfr, Reps.same (cutF_mono (fun b o q _ => s5 _ _ (s3 _ _ q)) fun b z => .inl z) hR⟩
        | some r =>
          simp only [e2] at hS
          cases e3 : r.give with
          | stk => simp [e3] at hS
          | exc x => simp [e3] at hS
          | ok r' =>
            simp only [e3, R.ok_bind] at hS
            cases e4 : cmpL tg fb w.fr (cmpEnv k fs ρ) (w.ds.drop (i + 1)) with
            | stk => simp [e4] at hS
            | exc x => simp [e4] at hS
            | ok z =>
              simp only [e4, R.ok_bind] at hS
              cases hS
              intro v H5 s5 g5
              obtain ⟨q1, q2⟩ := g5.give den4 e3
              subst q1
              refine ⟨s5 _ _ (s3 _ _ ha2), w.ds.length - (i + 1), by omega, rfl, hlt, by simp; omega, ?_, upd_same, es1 ++ [r.d], z.2, z.1, by rw [hy]; simp, e4, fun h => ?_, ?_⟩
              · intro b o q
                rw [upd_ne (ne_of_none q hacc)]
                exact s5 _ _ (s3 _ _ (s2 _ _ q))
              · have := hfr h
                simp at this
                exact this.2
              · have m : ∀ fr, Same (cutF fr H0 H5 fun b => B b ∨ b = acc) (cutF fr H0 (upd H5 acc (.lst (ys ++ [v]))) fun b => B b ∨ b = acc) := fun fr => cutF_mono (fun b o q n => by rw [upd_ne (fun z => n (.inr z))]; exact q) fun b z => .inl z
                have m2 : Same (cutF y.1 H0 H2 fun b => B b ∨ b = acc) (cutF y.1 H0 H5 fun b => B b ∨ b = acc) := cutF_mono (fun b o q _ => s5 _ _ (s3 _ _ q)) fun b z => .inl z
                refine Reps.append (Reps.same (m _) (Reps.same m2 hR)) (Reps.one (Rep.same (m _) ?_))
                cases hy1 : y.1 with
                | false => exact Rep.same cutF_weak q2
                | true =>
                  have := hfr hy1
                  simp at this
                  rw [this.1] at q2
                  exact q2
  · have hi' : i = w.ds.length := by omega
    refine .inl ⟨wk.1 (by omega), hq H2 sH2 ⟨acc, _, rfl, hacc0, ha2, .lst ?_⟩⟩
    rw [List.drop_of_length_le (by omega)] at hS
    simp only [cmpL] at hS
    cases hS
    rw [hy, List.append_nil]
    exact hR
variable {scope : Scope} {N : List Str} {k : Nat} {cs : List Nat} {tg iter elt : Expr} {ifs : List Expr} {t : Tg} {it : FI} {fb : FB}
theorem i_comp (σ : St) (H : Hp) (Q : VK) (h : tE X.K P (cmpE' it k cs t fb) σ H Q) : tComp (tI X.K P it) k cs (gOf X.K t) (tBm X.K XP0 fb) σ H Q := by
  obtain ⟨H0, B, ρ, d, h⟩ := h
  unfold cmpE' at h
  refine ⟨H0, B, ρ, d, ?_⟩
  cases e : it ρ with
  | stk => simp [e] at h
  | exc x => simp [e] at h; exact h
  | ok w =>
    simp only [e, R.ok_bind] at h
    intro J H1 s1 hw acc hacc
    cases e2 : cmpL t fb w.fr (cmpEnv k cs ρ) w.ds with
    | stk => simp [e2] at h
    | exc x => exact (cmpL_exc e2).elim
    | ok y =>
      simp only [e2, R.ok_bind] at h
      by_cases hz : w.ds.length ≤ sizeLine
      · rw [if_pos hz] at h
        exact cmp_core d s1 hw e2 hz hacc fun H2 s2 g2 => h _ H2 s2 g2
      · rw [if_neg hz] at h; exact h.elim
theorem m_comp (hc : X.calm = true) (C : CompOk X scope N k cs) (hi : PI X tg iter (tI X.K P it)) (hg : ∀ fp s H, PG (cxComp X scope N fp s H) tg (gOf X.K t)) (gl : GLow k (gOf X.K t)) (hb : ∀ fp s H, PB (cxComp X scope N fp s H) ifs elt (tBm X.K XP0 fb))
    (hs : ∀ x, foldedSetIterable iter X.env x = pure x := by intro _; rfl) : PE X (.ListComp elt [⟨tg, iter, ifs, 0⟩] scope pos) (tE X.K P (cmpE' it k cs t fb)) :=
  PE.imp (pe_comp hc C hi hg gl hb hs) i_comp
end Mir
set_option Elab.async false
set_option linter.all false
set_option maxRecDepth 100000
set_option maxHeartbeats 1000000
namespace Mir
open PySem L2
variable {X : Cx} {P : XP} {a b c e : Expr} {es : List Expr} {f g : FE} {fs : FEs} {pos : Pos}
def ownAt (σ : St) (ρ : Env) (i : Nat) (a : Addr) : Prop := σ[i]? = some (some (.ref a)) ∧ ∃ e, ρ[i]? = some (some e) ∧ e.k = .own
def ownd (σ : St) (ρ : Env) (a : Addr) : Prop := ∃ i, ownAt σ ρ i a
abbrev Bs (T : Addr → Prop) (σ : St) (ρ : Env) : Addr → Prop := fun a => ownd σ ρ a ∨ T a
structure DenS (K : PySem.W.Frag) (H0 H : Hp) (T : Addr → Prop) (σ : St) (ρ : Env) : Prop where
  e : DenE K H0 H (Bs T σ ρ) σ ρ
  sep : ∀ a, ownd σ ρ a → ¬ T a
  dis : ∀ i j a, ownAt σ ρ i a → ownAt σ ρ j a → i = j
structure Ext (H : Hp) (σ : St) (ρ : Env) (H' : Hp) (σ' : St) (ρ' : Env) : Prop where
  kp : ∀ b o, H b = some o → ¬ ownd σ ρ b → H' b = some o
  ow : ∀ b, ownd σ' ρ' b → ownd σ ρ b ∨ H b = none
section
variable {K : PySem.W.Frag} {H0 H H' H'' : Hp} {T : Addr → Prop} {σ σ' σ'' : St} {ρ ρ' ρ'' : Env}
theorem Ext.refl : Ext H σ ρ H σ ρ := ⟨fun _ _ h _ => h, fun _ h => .inl h⟩
theorem Ext.trans (x : Ext H σ ρ H' σ' ρ') (y : Ext H' σ' ρ' H'' σ'' ρ'') : Ext H σ ρ H'' σ'' ρ'' := by
  refine ⟨fun b o h n => y.kp b o (x.kp b o h n) fun z => ?_, fun b z => ?_⟩
  · rcases x.ow b z with q | q
    · exact n q
    · rw [h] at q; cases q
  · rcases y.ow b z with q | q
    · exact x.ow b q
    · cases e : H b with
      | none => exact .inr rfl
      | some o =>
        by_cases hb : ownd σ ρ b
        · exact .inl hb
        · rw [x.kp b o e hb] at q; cases q
theorem Ext.same (s : Same H H') : Ext H σ ρ H' σ ρ := ⟨fun b o h _ => s b o h, fun _ h => .inl h⟩
theorem DenS.mono (d : DenS K H0 H T σ ρ) (s : Same H H') : DenS K H0 H' T σ ρ := ⟨d.e.mono s, d.sep, d.dis⟩
theorem ownAt_set {i j : Nat} {v : V} {r : Res} {a : Addr} (h : ownAt (σ.set i (some v)) (ρ.set i (some r)) j a) : (j = i ∧ v = .ref a ∧ r.k = .own) ∨ (j ≠ i ∧ ownAt σ ρ j a) := by
  obtain ⟨h1, e, h2, h3⟩ := h
  by_cases hj : i = j
  · subst hj
    by_cases hi : i < σ.length
    · rw [List.getElem?_set_self hi] at h1
      cases h1
      by_cases hr : i < ρ.length
      · rw [List.getElem?_set_self hr] at h2; cases h2
        exact .inl ⟨rfl, rfl, h3⟩
      · rw [List.getElem?_eq_none (by rw [List.length_set]; omega)] at h2; cases h2
    · rw [List.getElem?_eq_none (by rw [List.length_set]; omega)] at h1; cases h1
  · rw [List.getElem?_set_ne hj] at h1 h2
    exact .inr ⟨fun z => hj z.symm, h1, e, h2, h3⟩
theorem ownAt_set' {i j : Nat} {v : V} {r : Res} {a : Addr} (h : ownAt σ ρ j a) (hj : j ≠ i) : ownAt (σ.set i (some v)) (ρ.set i (some r)) j a := by
  obtain ⟨h1, e, h2, h3⟩ := h
  exact ⟨by rw [List.getElem?_set_ne (Ne.symm hj)]; exact h1, e, by rw [List.getElem?_set_ne (Ne.symm hj)]; exact h2, h3⟩
theorem DenS.set_shr {i : Nat} {v : V} {fr : Bool} {dd : D} (d : DenS K H0 H T σ ρ) (r : Rep K (cutF fr H0 H (Bs T σ ρ)) dd v) : DenS K H0 H T (σ.set i (some v)) (ρ.set i (some ⟨.shr, fr, dd⟩)) ∧ ∀ a, ownd (σ.set i (some v)) (ρ.set i (some ⟨.shr, fr, dd⟩)) a → ownd σ ρ a := by
  have sub : ∀ a, ownd (σ.set i (some v)) (ρ.set i (some ⟨.shr, fr, dd⟩)) a → ownd σ ρ a := fun a ⟨j, h⟩ => by
    rcases ownAt_set h with ⟨_, _, h⟩ | ⟨_, h⟩
    · cases h
    · exact ⟨j, h⟩
  have subB : ∀ a, Bs T (σ.set i (some v)) (ρ.set i (some ⟨.shr, fr, dd⟩)) a → Bs T σ ρ a := fun a z => z.imp (sub a) id
  refine ⟨⟨⟨by rw [List.length_set, List.length_set]; exact d.e.len, d.e.sam, fun b z => d.e.bnd b (subB b z), fun j e he => ?_⟩, fun a z => d.sep a (sub a z), fun j k a h1 h2 => ?_⟩, sub⟩
  · by_cases hj : i = j
    · subst hj
      by_cases hi : i < ρ.length
      · rw [List.getElem?_set_self hi] at he
        cases he
        exact ⟨v, List.getElem?_set_self (by rw [← d.e.len]; exact hi), Rep.same (cutF_mono (fun _ _ q _ => q) fun b z => .inl (subB b z)) r⟩
      · rw [List.getElem?_eq_none (by rw [List.length_set]; omega)] at he; cases he
    · rw [List.getElem?_set_ne hj] at he
      obtain ⟨w, q1, q2⟩ := d.e.ent j e he
      refine ⟨w, by rw [List.getElem?_set_ne hj]; exact q1, q2.to d.e.sam (fun _ _ q _ => q) (fun b o q _ k1 k2 => ⟨q, .inl ⟨j, ownAt_set' ⟨by rw [q1, k2], e, he, k1⟩ (fun z => hj z.symm)⟩⟩) fun b z => .inl (subB b z)⟩
  · rcases ownAt_set h1 with ⟨_, _, h⟩ | ⟨_, h1⟩
    · cases h
    · rcases ownAt_set h2 with ⟨_, _, h⟩ | ⟨_, h2⟩
      · cases h
      · exact d.dis j k a h1 h2
theorem DenS.set_con {i : Nat} {a : Addr} {o : HO} {dd : D} {fr : Bool} (d : DenS K H0 H T σ ρ) (s : Same H H') (ha : H a = none) (ha' : H' a = some o) (r : Held K (cutF fr H0 H' fun b => Bs T σ ρ b ∨ b = a) dd o) :
    DenS K H0 H' T (σ.set i (some (.ref a))) (ρ.set i (some ⟨.own, fr, dd⟩)) ∧ Ext H σ ρ H' (σ.set i (some (.ref a))) (ρ.set i (some ⟨.own, fr, dd⟩)) := by
  have sub : ∀ b, ownd (σ.set i (some (.ref a))) (ρ.set i (some ⟨.own, fr, dd⟩)) b → ownd σ ρ b ∨ b = a := fun b ⟨j, h⟩ => by
    rcases ownAt_set h with ⟨_, h, _⟩ | ⟨_, h⟩
    · cases h; exact .inr rfl
    · exact .inl ⟨j, h⟩
  have subB : ∀ b, Bs T (σ.set i (some (.ref a))) (ρ.set i (some ⟨.own, fr, dd⟩)) b → Bs T σ ρ b ∨ b = a := fun b z => by
    rcases z with z | z
    · exact (sub b z).imp .inl id
    · exact .inl (.inr z)
  have subH : ∀ b, Bs T (σ.set i (some (.ref a))) (ρ.set i (some ⟨.own, fr, dd⟩)) b → Bs T σ ρ b ∨ H b = none := fun b z => (subB b z).imp id fun z => by rw [z]; exact ha
  have nB : ∀ b, Bs T σ ρ b → b ≠ a := fun b z q => by obtain ⟨o, w, _⟩ := d.e.bnd b z; rw [q, ha] at w; cases w
  refine ⟨⟨⟨by rw [List.length_set, List.length_set]; exact d.e.len, d.e.sam.trans s, fun b z => ?_, fun j e he => ?_⟩, fun b z => ?_, fun j k b h1 h2 => ?_⟩, fun b o h _ => s b o h, fun b z => (sub b z).imp id fun z => by rw [z]; exact ha⟩
  · rcases subB b z with z | z
    · obtain ⟨o, w, n⟩ := d.e.bnd b z; exact ⟨o, s _ _ w, n⟩
    · exact ⟨_, by rw [z]; exact ha', r.stab⟩
  · by_cases hj : i = j
    · subst hj
      by_cases hi : i < ρ.length
      · rw [List.getElem?_set_self hi] at he
        cases he
        have hσ : (σ.set i (some (V.ref a)))[i]? = some (some (V.ref a)) := List.getElem?_set_self (by rw [← d.e.len]; exact hi)
        refine ⟨.ref a, hσ, a, o, rfl, .inl ⟨i, hσ, _, List.getElem?_set_self hi, rfl⟩, d.e.sam.none ha, ha', r.same (cutF_mono (fun _ _ q _ => q) fun b z => .inl (subB b z))⟩
      · rw [List.getElem?_eq_none (by rw [List.length_set]; omega)] at he; cases he
    · rw [List.getElem?_set_ne hj] at he
      obtain ⟨w, q1, q2⟩ := d.e.ent j e he
      refine ⟨w, by rw [List.getElem?_set_ne hj]; exact q1, q2.to d.e.sam (fun _ _ q _ => s _ _ q) (fun b o q _ k1 k2 => ⟨s _ _ q, .inl ⟨j, ownAt_set' ⟨by rw [q1, k2], e, he, k1⟩ (fun z => hj z.symm)⟩⟩) subH⟩
  · rcases sub b z with z | z
    · exact d.sep b z
    · intro q; exact nB b (.inr q) z
  · rcases ownAt_set h1 with ⟨e1, h, _⟩ | ⟨_, h1⟩
    · cases h
      rcases ownAt_set h2 with ⟨e2, _, _⟩ | ⟨_, h2⟩
      · rw [e1, e2]
      · exact absurd rfl (nB _ (.inl ⟨k, h2⟩))
    · rcases ownAt_set h2 with ⟨_, h, _⟩ | ⟨_, h2⟩
      · cases h; exact absurd rfl (nB _ (.inl ⟨j, h1⟩))
      · exact d.dis j k b h1 h2
theorem DenS.writeO {i : Nat} {a : Addr} {e : Res} {o' : HO} {dd : D} {fr : Bool} (d : DenS K H0 H T σ ρ) (hσ : σ[i]? = some (some (.ref a))) (he : ρ[i]? = some (some e)) (hk : e.k = .own) (h0 : H0 a = none) (r : Held K (cutF fr H0 H (Bs T σ ρ)) dd o') :
    DenS K H0 (upd H a o') T σ (ρ.set i (some ⟨.own, fr, dd⟩)) ∧ Ext H σ ρ (upd H a o') σ (ρ.set i (some ⟨.own, fr, dd⟩)) := by
  have oi : ownAt σ ρ i a := ⟨hσ, e, he, hk⟩
  have hi : i < ρ.length := by
    obtain ⟨h, _⟩ := List.getElem?_eq_some_iff.mp he; exact h
  have fwd : ∀ j b, ownAt σ (ρ.set i (some ⟨.own, fr, dd⟩)) j b → ownAt σ ρ j b := fun j b ⟨h1, e', h2, h3⟩ => by
    by_cases hj : i = j
    · subst hj; exact ⟨h1, e, he, hk⟩
    · rw [List.getElem?_set_ne hj] at h2; exact ⟨h1, e', h2, h3⟩
  have bwd : ∀ j b, ownAt σ ρ j b → ownAt σ (ρ.set i (some ⟨.own, fr, dd⟩)) j b := fun j b ⟨h1, e', h2, h3⟩ => by
    by_cases hj : i = j
    · subst hj; exact ⟨h1, _, List.getElem?_set_self hi, rfl⟩
    · exact ⟨h1, e', by rw [List.getElem?_set_ne hj]; exact h2, h3⟩
  have subB : ∀ b, Bs T σ (ρ.set i (some ⟨.own, fr, dd⟩)) b → Bs T σ ρ b := fun b z => z.imp (fun ⟨j, h⟩ => ⟨j, fwd j b h⟩) id
  have Ba : Bs T σ ρ a := .inl ⟨i, oi⟩
  have kp : ∀ b o, H b = some o → ¬ Bs T σ ρ b → upd H a o' b = some o := fun b o q n => by rw [upd_ne (fun z => n (by rw [z]; exact Ba))]; exact q
  refine ⟨⟨⟨by rw [List.length_set]; exact d.e.len, fun b o q => ?_, fun b z => ?_, fun j e' he' => ?_⟩, fun b z => d.sep b (let ⟨j, h⟩ := z; ⟨j, fwd j b h⟩), fun j k b h1 h2 => d.dis j k b (fwd j b h1) (fwd k b h2)⟩, fun b o q n => ?_, fun b z => .inl (let ⟨j, h⟩ := z; ⟨j, fwd j b h⟩)⟩
  · rw [upd_ne (ne_of_none q h0)]; exact d.e.sam b o q
  · by_cases hb : b = a
    · subst hb; exact ⟨_, upd_same, r.stab⟩
    · obtain ⟨o, w, n⟩ := d.e.bnd b (subB b z); exact ⟨o, by rw [upd_ne hb]; exact w, n⟩
  · by_cases hj : i = j
    · subst hj
      rw [List.getElem?_set_self hi] at he'
      cases he'
      exact ⟨.ref a, hσ, a, o', rfl, .inl ⟨i, bwd i a oi⟩, h0, upd_same, r.same (cutF_mono kp fun b z => .inl (subB b z))⟩
    · rw [List.getElem?_set_ne hj] at he'
      obtain ⟨w, q1, q2⟩ := d.e.ent j e' he'
      refine ⟨w, q1, q2.to d.e.sam kp (fun b o q _ k1 k2 => ?_) fun b z => .inl (subB b z)⟩
      have oj : ownAt σ ρ j b := ⟨by rw [q1, k2], e', he', k1⟩
      refine ⟨?_, .inl ⟨j, bwd j b oj⟩⟩
      rw [upd_ne (fun z => hj (d.dis i j a oi (by rw [z] at oj; exact oj)))]
      exact q
  · rw [upd_ne (fun z => n (by rw [z]; exact ⟨i, oi⟩))]; exact q
theorem DenS.write {i : Nat} {a : Addr} {e : Res} {vs : List V} {ds : List D} {fr : Bool} (d : DenS K H0 H T σ ρ) (hσ : σ[i]? = some (some (.ref a))) (he : ρ[i]? = some (some e)) (hk : e.k = .own) (h0 : H0 a = none) (r : Reps K (cutF fr H0 H (Bs T σ ρ)) ds vs) :
    DenS K H0 (upd H a (.lst vs)) T σ (ρ.set i (some ⟨.own, fr, .lst ds⟩)) ∧ Ext H σ ρ (upd H a (.lst vs)) σ (ρ.set i (some ⟨.own, fr, .lst ds⟩)) := d.writeO hσ he hk h0 (.lst r)
theorem ownL_ok {i : Nat} {y : Bool × List D} (h : ownL i ρ = .ok y) : ρ[i]? = some (some ⟨.own, y.1, .lst y.2⟩) := by
  unfold ownL at h
  split at h
  · rename_i e; cases h; exact e
  · cases h
theorem DenS.own {i : Nat} {fr : Bool} {ds : List D} (d : DenS K H0 H T σ ρ) (he : ρ[i]? = some (some ⟨.own, fr, .lst ds⟩)) : ∃ a vs, σ[i]? = some (some (.ref a)) ∧ H0 a = none ∧ H a = some (.lst vs) ∧ Reps K (cutF fr H0 H (Bs T σ ρ)) ds vs := by
  obtain ⟨v, q1, a, o, h1, h2, h3, h4, vs, h5, h6⟩ := d.e.ent i _ he
  subst h1
  subst h5
  exact ⟨a, vs, q1, h3, h4, h6⟩
theorem DenS.freeze (d : DenS K H0 H T σ ρ) (i : Nat) : DenS K H0 H T σ (frz i ρ) ∧ Ext H σ ρ H σ (frz i ρ) := by
  unfold frz
  split
  · rename_i e he
    have hi : i < ρ.length := by
      obtain ⟨h, _⟩ := List.getElem?_eq_some_iff.mp he; exact h
    have fwd : ∀ j b, ownAt σ (ρ.set i (some ⟨.shr, e.fr, e.d⟩)) j b → j ≠ i ∧ ownAt σ ρ j b := fun j b ⟨h1, e', h2, h3⟩ => by
      by_cases hj : i = j
      · subst hj; rw [List.getElem?_set_self hi] at h2; cases h2; cases h3
      · rw [List.getElem?_set_ne hj] at h2; exact ⟨fun z => hj z.symm, h1, e', h2, h3⟩
    have subB : ∀ b, Bs T σ (ρ.set i (some ⟨.shr, e.fr, e.d⟩)) b → Bs T σ ρ b := fun b z => z.imp (fun ⟨j, h⟩ => ⟨j, (fwd j b h).2⟩) id
    refine ⟨⟨⟨by rw [List.length_set]; exact d.e.len, d.e.sam, fun b z => d.e.bnd b (subB b z), fun j e' he' => ?_⟩, fun b z => d.sep b (let ⟨j, h⟩ := z; ⟨j, (fwd j b h).2⟩), fun j k b h1 h2 => d.dis j k b (fwd j b h1).2 (fwd k b h2).2⟩, fun b o q _ => q, fun b z => .inl (let ⟨j, h⟩ := z; ⟨j, (fwd j b h).2⟩)⟩
    by_cases hj : i = j
    · subst hj
      rw [List.getElem?_set_self hi] at he'
      cases he'
      obtain ⟨w, q1, q2⟩ := d.e.ent i e he
      refine ⟨w, q1, ?_⟩
      have m : Same (cutF e.fr H0 H (Bs T σ ρ)) (cutF e.fr H0 H (Bs T σ (ρ.set i (some ⟨.shr, e.fr, e.d⟩)))) := cutF_mono (fun _ _ q _ => q) fun b z => .inl (subB b z)
      unfold Good at q2
      cases k : e.k with
      | shr => rw [k] at q2; exact Rep.same m q2
      | own =>
        rw [k] at q2
        obtain ⟨a, o, h1, h2, h3, h4, h5⟩ := q2
        show Rep K (cutF e.fr H0 H (Bs T σ (ρ.set i (some ⟨.shr, e.fr, e.d⟩)))) e.d w
        rw [h1]
        refine h5.rep m (cut_some.mpr ⟨fun z => ?_, h4⟩)
        rcases z with z | ⟨_, o, z, _⟩
        · rcases z with ⟨j, z⟩ | z
          · obtain ⟨z1, z2⟩ := fwd j a z
            exact z1 (d.dis j i a z2 ⟨by rw [q1, h1], e, he, k⟩)
          · exact d.sep a ⟨i, by rw [q1, h1], e, he, k⟩ z
        · rw [h3] at z; cases z
      | tmp => rw [k] at q2; exact q2.elim
      | old =>
        rw [k] at q2
        refine Rep.same (fun b o q => ?_) q2.2
        obtain ⟨n, q⟩ := cut_some.mp q
        refine cut_some.mpr ⟨fun z => ?_, d.e.sam b o q⟩
        rcases z with z | ⟨z, _⟩
        · exact n (subB b z)
        · rw [q2.1] at z; cases z
    · rw [List.getElem?_set_ne hj] at he'
      obtain ⟨w, q1, q2⟩ := d.e.ent j e' he'
      refine ⟨w, q1, q2.to d.e.sam (fun _ _ q _ => q) (fun b o q _ k1 k2 => ⟨q, .inl ⟨j, by rw [q1, k2], e', by rw [List.getElem?_set_ne hj]; exact he', k1⟩⟩) fun b z => .inl (subB b z)⟩
  · exact ⟨d, Ext.refl⟩
end
end Mir
set_option Elab.async false
set_option linter.all false
set_option maxRecDepth 100000
set_option maxHeartbeats 1000000
namespace Mir
open PySem L2
variable {X : Cx} {P : XP} {a b c e : Expr} {es : List Expr} {f g : FE} {fs : FEs} {pos : Pos}
def RetOk (K : PySem.W.Frag) (H0 H' : Hp) (T : Addr → Prop) (v : V) (r : Res) : Prop :=
  match r.k with
  | .shr => Rep K (cutF r.fr H0 H' T) r.d v
  | _ => ∃ a o, v = .ref a ∧ H0 a = none ∧ H' a = some o ∧ Held K (cutF r.fr H0 H' fun b => T b ∨ b = a) r.d o
def SPost (K : PySem.W.Frag) (P : XP) (D : Ends) (H0 : Hp) (T : Addr → Prop) (H : Hp) (σ : St) (ρ : Env) (r : RS) : Prop :=
  match r with
  | .nx ρ' => ∀ σ' H', DenS K H0 H' T σ' ρ' → Ext H σ ρ H' σ' ρ' → D.nx σ' H'
  | .bk ρ' => ∀ σ' H', DenS K H0 H' T σ' ρ' → Ext H σ ρ H' σ' ρ' → D.bk σ' H'
  | .ct ρ' => ∀ σ' H', DenS K H0 H' T σ' ρ' → Ext H σ ρ H' σ' ρ' → D.ct σ' H'
  | .rt r => ∀ v H', Same H0 H' → RetOk K H0 H' T v r → D.rt v H'
  | .exc x ρ' => ∀ σ' H', DenS K H0 H' T σ' ρ' → Ext H σ ρ H' σ' ρ' → P.p x σ' H'
  | .stk => False
def tS (K : PySem.W.Frag) (P : XP) (F : FS) : TS := fun D σ H => ∃ H0 T ρ, DenS K H0 H T σ ρ ∧ SPost K P D H0 T H σ ρ (F ρ)
theorem SPost.trans {K : PySem.W.Frag} {D : Ends} {H0 H H1 : Hp} {T : Addr → Prop} {σ σ1 : St} {ρ ρ1 : Env} {r : RS} (x : Ext H σ ρ H1 σ1 ρ1) (h : SPost K P D H0 T H σ ρ r) : SPost K P D H0 T H1 σ1 ρ1 r := by
  cases r with
  | nx ρ' => exact fun σ' H' d y => h σ' H' d (x.trans y)
  | bk ρ' => exact fun σ' H' d y => h σ' H' d (x.trans y)
  | ct ρ' => exact fun σ' H' d y => h σ' H' d (x.trans y)
  | rt r => exact h
  | exc z ρ' => exact fun σ' H' d y => h σ' H' d (x.trans y)
  | stk => exact h
theorem PS.imp {st : Stmt} {t t' : TS} (p : PS X st t) (h : ∀ D σ H, t' D σ H → t D σ H) : PS X st t' := fun pins s σ H D I q => p pins s σ H D I (h D σ H q)
theorem PSs.imp {st : List Stmt} {t t' : TS} (p : PSs X st t) (h : ∀ D σ H, t' D σ H → t D σ H) : PSs X st t' := fun pins s σ H D I q => p pins s σ H D I (h D σ H q)
variable {st : Stmt} {rest : List Stmt} {F G : FS}
theorem ms_nil : PSs X [] (tS X.K P nilS) := PSs.imp pss_nil fun D σ H ⟨H0, T, ρ, d, h⟩ => h σ H d Ext.refl
theorem i_seq {K : PySem.W.Frag} (D : Ends) (σ : St) (H : Hp) (h : tS K P (seqS F G) D σ H) : tSeq (tS K P F) (tS K P G) D σ H := by
  obtain ⟨H0, T, ρ, d, h⟩ := h
  refine ⟨H0, T, ρ, d, ?_⟩
  unfold seqS at h
  cases e : F ρ with
  | nx ρ1 =>
    rw [e] at h
    exact fun σ1 H1 d1 x1 => ⟨H0, T, ρ1, d1, h.trans x1⟩
  | bk ρ' => rw [e] at h; exact h
  | ct ρ' => rw [e] at h; exact h
  | rt r => rw [e] at h; exact h
  | exc z ρ' => rw [e] at h; exact h
  | stk => rw [e] at h; exact h
theorem ms_cons (h1 : PS X st (tS X.K P F)) (h2 : PSs X rest (tS X.K P G)) : PSs X (st :: rest) (tS X.K P (seqS F G)) := PSs.imp (pss_cons h1 h2) i_seq
theorem ms_one (h1 : PS X st (tS X.K P F)) : PSs X [st] (tS X.K P F) := pss_one h1
theorem tS_E {K : PySem.W.Frag} {k : Res → Env → RS} {D : Ends} {σ : St} {H : Hp} {q : VK} (hX : X.K = K) (h : tS K P (fun ρ => (f ρ).at ρ fun r => k r ρ) D σ H)
    (hk : ∀ H0 T ρ v H' r, DenS K H0 H T σ ρ → DenS K H0 H' T σ ρ → Same H H' → GoodR K H0 H H' (Bs T σ ρ) v r → SPost K P D H0 T H σ ρ (k r ρ) → q v H') : tE K P f σ H q := by
  subst hX
  obtain ⟨H0, T, ρ, d, h⟩ := h
  cases e : f ρ with
  | stk => simp only [e, R.at] at h; exact h.elim
  | exc x => simp only [e, R.at] at h; exact tE_exc d.e e (h σ H d Ext.refl)
  | ok r =>
    simp only [e, R.at] at h
    exact tE_of d.e e fun v H' s d' g' => hk H0 T ρ v H' r d (d.mono s) s g' h
theorem m_expr (he : PE X e (tE X.K P f)) (hs : swapsWith e none pos.line X.env = pure false := by rfl) : PS X (.Expr e pos) (tS X.K P (exprS f)) := by
  refine PS.imp (ps_expr he hs) ?_
  intro D σ H h
  exact tS_E (q := fun _ H1 => D.nx σ H1) rfl h fun H0 T ρ v H' r d d' s g h => h σ H' d' (Ext.same s)
theorem ret_ok {K : PySem.W.Frag} {H0 H H' : Hp} {T : Addr → Prop} {σ : St} {ρ : Env} {v : V} {r : Res} (d : DenS K H0 H T σ ρ) (g : GoodR K H0 H H' (Bs T σ ρ) v r) : RetOk K H0 H' T v ⟨if r.k = .shr then .shr else .tmp, r.fr, r.d⟩ := by
  unfold GoodR at g
  unfold RetOk
  cases k : r.k with
  | shr => rw [k] at g; exact Rep.same (cutF_mono (fun _ _ q _ => q) fun b z => .inl (.inr z)) g
  | own =>
    rw [k] at g
    obtain ⟨a, o, h1, h2, h3, h4, h5⟩ := g
    exact ⟨a, o, h1, h3, h4, h5.same (cutF_mono (fun _ _ q _ => q) fun b z => .inl (z.elim .inr fun z => by rw [z]; exact h2))⟩
  | tmp =>
    rw [k] at g
    obtain ⟨a, o, h1, h2, h3, h4⟩ := g
    exact ⟨a, o, h1, d.e.sam.none h2, h3, h4.same (cutF_mono (fun _ _ q _ => q) fun b z => .inl (z.imp .inr id))⟩
  | old => rw [k] at g; exact g.elim
theorem m_ret (he : PE X e (tE X.K P f)) : PS X (.Return (some e) pos) (tS X.K P (retS f)) := by
  refine PS.imp (ps_ret he) ?_
  intro D σ H h
  exact tS_E (q := D.rt) (k := fun r ρ => .rt ⟨if r.k = .shr then .shr else .tmp, r.fr, r.d⟩) rfl h fun H0 T ρ v H' r d d' s g h => h v H' d'.e.sam (ret_ok d g)
theorem set_core {K : PySem.W.Frag} {D : Ends} {H0 H H' : Hp} {T : Addr → Prop} {σ : St} {ρ : Env} {v : V} {r : Res} {i : Nat} (d : DenS K H0 H T σ ρ) (s : Same H H') (g : GoodR K H0 H H' (Bs T σ ρ) v r) (h : SPost K P D H0 T H σ ρ ((r.keep).at ρ fun e => .nx (ρ.set i (some e)))) :
    D.nx (σ.set i (some v)) H' := by
  unfold Res.keep at h
  unfold GoodR at g
  cases k : r.k with
  | shr =>
    rw [k] at g h
    have d' := (d.mono s).set_shr (i := i) g
    refine h _ H' ?_ ⟨fun b o q _ => s b o q, fun b z => .inl ?_⟩
    · have e : r = ⟨.shr, r.fr, r.d⟩ := by rw [← k]
      rw [e]; exact d'.1
    · have e : r = ⟨.shr, r.fr, r.d⟩ := by rw [← k]
      rw [e] at z; exact d'.2 b z
  | own => rw [k] at h; exact h.elim
  | old => rw [k] at h; exact h.elim
  | tmp =>
    rw [k] at g h
    obtain ⟨a, o, h1, h2, h3, h4⟩ := g
    subst h1
    have d' := d.set_con (i := i) s h2 h3 h4
    simp only [R.at] at h
    exact h _ H' d'.1 d'.2
theorem m_set {i : Nat} {x : Str} {pos' : Pos} (hN : X.N.Nodup) (hi : X.N[i]? = some x) (hx : Loc X.env.scope x) (he : PE X e (tE X.K P f)) (hs : swapsWith e (some (.Name x pos')) pos.line X.env = pure false := by rfl) (hf : X.fn x = true ∨ X.env.scope.names.lookup x = some .local := by first | exact .inl rfl | exact .inr rfl | assumption) :
    PS X (.Assign [.Name x pos'] e pos) (tS X.K P (setS i f)) := by
  refine PS.imp (ps_set hN hi hx he hs hf) ?_
  intro D σ H h
  exact tS_E (q := fun v H1 => D.nx (σ.set i (some v)) H1) (k := fun r ρ => (r.keep).at ρ fun e => .nx (ρ.set i (some e))) rfl h fun H0 T ρ v H' r d d' s g h => set_core d s g h
theorem tS_T {t : FT} {D : Ends} {σ : St} {H : Hp} {F G : FS} (h : tS X.K P (ifS t F G) D σ H) : tT X.K P t σ H fun b H1 => if b = true then tS X.K P F D σ H1 else tS X.K P G D σ H1 := by
  obtain ⟨H0, T, ρ, d, h⟩ := h
  unfold ifS at h
  refine ⟨H0, _, ρ, d.e, ?_⟩
  cases e : t ρ with
  | stk => simp only [e, R.at] at h; exact h.elim
  | exc x => simp only [e, R.at] at h; exact h σ H d Ext.refl
  | ok k =>
    simp only [e, R.at] at h
    intro H1 s1
    cases k with
    | true => exact iteT ⟨H0, T, ρ, d.mono s1, SPost.trans (Ext.same s1) h⟩
    | false => exact iteF ⟨H0, T, ρ, d.mono s1, SPost.trans (Ext.same s1) h⟩
theorem m_ifS {t : FT} {sa sb : List Stmt} (hc : PT X c (tT X.K P t)) (ha : PSs X sa (tS X.K P F)) (hb : PSs X sb (tS X.K P G)) : PS X (.If c sa sb pos) (tS X.K P (ifS t F G)) := by
  refine PS.imp (ps_if hc ha hb) ?_
  intro D σ H h
  exact tS_T h
theorem m_frz {i : Nat} (h : PS X st (tS X.K P F)) : PS X st (tS X.K P (frzS i F)) := by
  refine PS.imp h ?_
  rintro D σ H ⟨H0, T, ρ, d, h⟩
  obtain ⟨d', x⟩ := d.freeze i
  exact ⟨H0, T, frz i ρ, d', SPost.trans x h⟩
theorem m_app {i : Nat} {x : Str} {p ap cp : Pos} (hN : X.N[i]? = some x) (hv : Vis X.env.scope x) (he : PE X e (tE X.K P f)) (hd : (x == ("__debug__" : Str)) = false := by decide) (hcd : (x == ("__classdict__" : Str)) = false := by decide)
    (h1 : starEach [e] X.env = [(false, eval e X.env)] := by rfl) (hbase : attributeBase (.Name x p) "append" X.env (eval (.Name x p) X.env) = eval (.Name x p) X.env := by rfl)
    (hfew : ((backTo cp (starEach [e] X.env)).all (fun x => !x.1) && (backToKw cp (keywordEach [] X.env)).all (fun x => x.1.isSome) && decide ([e].length + ([] : List Keyword).length + (if ([] : List Keyword).isEmpty then 0 else 1) < 30)) = true := by rfl)
    (hline : (ap.endLine == cp.line) = true := by rfl)
    (hs : swapsWith (.Call (.Attribute (.Name x p) "append" ap) [e] [] cp) none pos.line X.env = pure false := by rfl) :
    PS X (.Expr (.Call (.Attribute (.Name x p) "append" ap) [e] [] cp) pos) (tS X.K P (appS i f)) := by
  refine PS.imp (ps_expr (pe_bm PySem.F.plainAttrs_list PySem.F.slot_list_append PySem.F.type_list_append mt_append (pe_var hN hv hd hcd) (pa_cons he pa_nil h1) hbase hfew hline (hs := h1)) hs) ?_
  rintro D σ H ⟨H0, T, ρ, d, h⟩
  unfold appS at h
  cases e3 : ownL i ρ with
  | stk => simp only [e3, R.at] at h; exact h.elim
  | exc z => unfold ownL at e3; split at e3 <;> cases e3
  | ok y =>
    simp only [e3, R.at] at h
    have ho := ownL_ok e3
    obtain ⟨a, vs, q1, q2, q3, q4⟩ := d.own ho
    refine ⟨_, q1, .inl ⟨rfl, vs, SqL.of q3⟩, ?_⟩
    cases e1 : f ρ with
    | stk => simp only [e1] at h; exact h.elim
    | exc z => simp only [e1] at h; exact tE_exc d.e e1 (h σ H d Ext.refl)
    | ok r =>
      simp only [e1] at h
      refine tE_of d.e e1 fun v H' s d' g' => ?_
      cases e2 : r.give with
      | stk => simp only [e2] at h; exact h.elim
      | exc z => unfold Res.give at e2; split at e2 <;> cases e2
      | ok r' =>
        simp only [e2] at h
        obtain ⟨g1, g2⟩ := g'.give d.e e2
        subst g1
        by_cases hz : y.2.length < sizeLine
        · rw [if_pos hz] at h
          have dS := d.mono s
          have q4' : Reps X.K (cutF y.1 H0 H' (Bs T σ ρ)) y.2 vs := Reps.same (cutF_mono (fun b o q _ => s b o q) fun b z => .inl z) q4
          refine ⟨a, vs, v, rfl, rfl, s _ _ q3, by rw [← q4.length]; exact hz, ?_⟩
          obtain ⟨w1, w2⟩ := dS.write (fr := y.1 && r.fr) (ds := y.2 ++ [r.d]) (vs := vs ++ [v]) q1 ho rfl q2 (q4'.andL.append (Reps.one g2).andR)
          exact h σ _ w1 ((Ext.same s).trans w2)
        · rw [if_neg hz] at h; exact h.elim
theorem m_for {iter : Expr} {body : List Stmt} {tg : Expr} {t : Tg} {it : FI} (hp : PassesOwn (model X.prog X.w) X.A X.env X.xe) (hc : X.calm = true) (hi : PI X tg iter (tI X.K P it)) (hg : PG X tg (gOf X.K t)) (hb : PSs X body (tS X.K P F))
    (hs : ∀ x, foldedSetIterable iter X.env x = pure x := by intro _; rfl) : PS X (.For tg iter body [] pos) (tS X.K P (forS it t F)) := by
  refine PS.imp (ps_for hp hc hi hg hb hs) ?_
  rintro D σ H ⟨H0, T, ρ, d, h⟩
  unfold forS at h
  refine ⟨H0, _, ρ, d.e, ?_⟩
  cases e : it ρ with
  | stk => simp only [e, R.at] at h; exact h.elim
  | exc z => simp only [e, R.at] at h; exact h σ H d Ext.refl
  | ok w =>
    simp only [e, R.at] at h
    by_cases hst : w.st = true
    · rw [if_pos hst] at h
      intro J H1 s1 hw
      obtain ⟨A, hA, hwk⟩ := hw
      refine ⟨fun i m σ' H' => m = w.ds.length - i ∧ i ≤ w.ds.length ∧ ∃ ρi, DenS X.K H0 H' T σ' ρi ∧ Ext H1 σ ρ H' σ' ρi ∧ SPost X.K P D H0 T H1 σ ρ (forL t F w.fr (w.ds.drop i) ρi), ⟨w.ds.length, rfl, Nat.zero_le _, ρ, d.mono s1, Ext.refl, SPost.trans (Ext.same s1) h⟩, ?_⟩
      rintro i m σ' H' ⟨hm, hi', ρi, di, xi, pi⟩
      have wk := hwk H' (Bs T σ' ρi) (fun a o ha q => xi.kp a o q fun z => hA hst a ha (.inl z)) (fun b o q n => xi.kp b o q fun z => n (.inl z)) (fun b z => ?_) (fun b z => let ⟨o, q, _⟩ := di.e.bnd b z; ⟨o, q⟩) di.e.sam i
      · by_cases hlt : i < w.ds.length
        · refine .inr ?_
          have hd : w.ds[i]? = some w.ds[i] := List.getElem?_eq_getElem hlt
          obtain ⟨go, yl⟩ := wk.2 _ hd
          refine ⟨go, fun σ'' H'' => w.ds.length - (i + 1) = w.ds.length - (i + 1) ∧ i + 1 ≤ w.ds.length ∧ ∃ ρi, DenS X.K H0 H'' T σ'' ρi ∧ Ext H1 σ ρ H'' σ'' ρi ∧ SPost X.K P D H0 T H1 σ ρ (forL t F w.fr (w.ds.drop (i + 1)) ρi), fun σ'' H'' q => ⟨_, by omega, q⟩, fun x H3 y3 => ?_⟩
          obtain ⟨s3, rx⟩ := yl x H3 y3
          rw [List.drop_eq_getElem_cons hlt] at pi
          simp only [forL] at pi
          cases e1 : t.bind w.fr w.ds[i] ρi with
          | stk => simp only [e1, R.at] at pi; exact pi.elim
          | exc z => exact (bind_exc _ _ _ e1).elim
          | ok ρ1 =>
            simp only [e1, R.at] at pi
            refine gOf_gen (G := cutF w.fr H0 H3 (Bs T σ' ρi)) (fr := w.fr) (I := fun σ2 ρ2 => DenS X.K H0 H3 T σ2 ρ2 ∧ ∀ a, ownd σ2 ρ2 a → ownd σ' ρi a) cut_same (fun σ2 ρ2 j dd v ⟨D2, O2⟩ r => ?_) t _ x σ' ρi ρ1 _ e1 rx ⟨di.mono s3, fun a z => z⟩ fun σ4 ⟨d4, o4⟩ => ?_
            · have := D2.set_shr (i := j) (Rep.same (cutF_mono (fun _ _ q _ => q) fun b z => .inl (z.imp (O2 b) id)) r)
              exact ⟨this.1, fun a z => O2 a (this.2 a z)⟩
            · have x4 : Ext H1 σ ρ H3 σ4 ρ1 := xi.trans ⟨fun b o q _ => s3 b o q, fun b z => .inl (o4 b z)⟩
              refine ⟨H0, T, ρ1, d4, ?_⟩
              cases e2 : F ρ1 with
              | stk => simp only [e2] at pi; exact pi
              | nx ρ2 => simp only [e2] at pi; exact fun σ5 H5 d5 x5 => ⟨rfl, hlt, ρ2, d5, x4.trans x5, pi⟩
              | ct ρ2 => simp only [e2] at pi; exact fun σ5 H5 d5 x5 => ⟨rfl, hlt, ρ2, d5, x4.trans x5, pi⟩
              | bk ρ2 => simp only [e2] at pi; exact fun σ5 H5 d5 x5 => pi σ5 H5 d5 (x4.trans x5)
              | rt r => simp only [e2] at pi; exact pi
              | exc z ρ2 => simp only [e2] at pi; exact fun σ5 H5 d5 x5 => pi σ5 H5 d5 (x4.trans x5)
        · refine .inl ⟨wk.1 (by omega), ?_⟩
          rw [List.drop_of_length_le (by omega)] at pi
          exact pi σ' H' di xi
      · rcases z with z | z
        · exact (xi.ow b z).imp .inl id
        · exact .inl (.inr z)
    · rw [if_neg hst] at h; exact h.elim
end Mir
set_option Elab.async false
set_option linter.all false
set_option maxRecDepth 100000
set_option maxHeartbeats 1000000
namespace Mir
open PySem L2
variable {X : Cx} {P : XP} {a b c e : Expr} {es : List Expr} {f g : FE} {fs : FEs} {pos : Pos}
def spM (K : PySem.W.Frag) (cl : XC → Addr) (φ : Φ) : Sp := fun vs H Q E => ∃ ds B, (∀ b, B b → ∃ o, H b = some o ∧ stab o = false) ∧ Reps K (cut H B) ds vs ∧ match φ ds with
  | .ok r => ∀ v H', Same H H' → RetOk K H H' B v r → Q v H'
  | .exc x => ∀ H', Same H H' → E (.ref (cl x.c)) none H'
  | .stk => False
def Thr (CX : CXT) (cl : XC → Addr) (X : Cx) (P : XP) : Prop := ∀ (pins : List (Addr × Obj)) (σ : St) (H : Hp) (s : Shared) (e : Value) (s' : Shared), Inv X pins σ H s → CX X.stack H s (fun c _ H' => ∃ x : Xc, c = .ref (cl x.c) ∧ P.p x σ H') e s' → X.xe e s'
theorem run_fnX {CX : CXT} {k : Nat} {fa : Addr} {fd : FuncData} {ps : List Str} {sp : Sp} {E : XK} {pins : List (Addr × Obj)} {σ : St} {H : Hp} {s : Shared} {Q : VK} {us : List Value} {vs : List V} (F : FnOk X.prog X.w X.K X.mg X.base CX k fa fd ps sp) (hr : Room k X.A) (hb : Binds X.K fd ps [])
    (hx : ∀ e s', CX X.stack H s E e s' → X.xe e s') (I : Inv X pins σ H s) (r : Vals vs us) (h : sp vs H Q E) : wpAny (model X.prog X.w) X.A (call (.ref fa) us) (EP X pins σ Q) X.xe s := by
  have hl : us.length = ps.length := by rw [← r.length]; exact F.len _ _ _ _ h
  have hb' := hb s us I.kIn (by rw [List.append_nil]; exact hl)
  rw [List.append_nil] at hb'
  refine wpAny_call (codeAny_mono (F.run X.A X.stack s H ⟨us, []⟩ us vs Q E hr I.env0 hb' r h) fun r s' hq => ?_)
  cases r with
  | error e => exact hx e s' hq
  | ok fl =>
    cases fl with
    | ret u => exact I.after hq
    | next => exact False.elim hq
    | brk => exact False.elim hq
    | cont => exact False.elim hq
theorem GoodRs.plain {K : PySem.W.Frag} {H0 H H' : Hp} {B : Addr → Prop} {σ : St} {ρ : Env} {Z : Addr → Prop} (den : DenE K H0 H B σ ρ) : ∀ {vs : List V} {rs : List Res}, GoodRs K H0 H H' B vs rs → (∀ b, Z b → B b ∧ V.ref b ∉ vs) → Reps K (cut H' Z) (rs.map (·.d)) vs
  | [], _, h, _ => by rw [show _ = [] from h]; rfl
  | v :: vs, _, ⟨r, rr, e, g, gs⟩, hz => by
    subst e
    refine ⟨v, vs, rfl, ?_, GoodRs.plain den gs fun b z => ⟨(hz b z).1, fun q => (hz b z).2 (List.mem_cons_of_mem _ q)⟩⟩
    have m : ∀ fr, Same (cutF fr H0 H' B) (cut H' Z) := fun fr => cut_mono (fun _ _ q _ => q) fun b z => .inl (.inl (hz b z).1)
    unfold GoodR at g
    cases k : r.k with
    | shr => rw [k] at g; exact Rep.same (m _) g
    | own =>
      rw [k] at g
      obtain ⟨a, o, h1, h2, h3, h4, h5⟩ := g
      subst h1
      exact h5.rep (m _) (cut_some.mpr ⟨fun z => (hz a z).2 List.mem_cons_self, h4⟩)
    | old => rw [k] at g; exact g.elim
    | tmp =>
      rw [k] at g
      obtain ⟨a, o, h1, h2, h3, h4⟩ := g
      subst h1
      exact h4.rep (cut_mono (fun _ _ q _ => q) fun b z => .inl (.inl (.inl (hz b z).1))) (cut_some.mpr ⟨fun z => (hz a z).2 List.mem_cons_self, h3⟩)
theorem gives_ds : ∀ {rs : List Res} {y : Bool × List D}, gives rs = .ok y → y.2 = rs.map (·.d)
  | [], y, e => by simp [gives] at e; subst e; rfl
  | r :: rs, y, e => by
    simp only [gives] at e
    cases e2 : r.give with
    | stk => simp [e2] at e
    | exc x => simp [e2] at e
    | ok r' =>
      cases e3 : gives rs with
      | stk => simp [e2, e3] at e
      | exc x => simp [e2, e3] at e
      | ok y' =>
        simp only [e2, e3, R.ok_bind] at e
        cases e
        have : r'.d = r.d := by
          unfold Res.give at e2
          split at e2
          · cases e2
          · cases e2; rfl
        simp [gives_ds e3, this]
theorem call_core {cl : XC → Addr} {φ : Φ} {σ : St} {H : Hp} {Q : VK} (h : tE X.K P (callE φ fs) σ H Q) : tAs X.K P fs σ H fun vs H1 => spM X.K cl φ vs H1 Q (fun c _ H' => ∃ x : Xc, c = .ref (cl x.c) ∧ P.p x σ H') := by
  refine tA1 h ?_
  intro H0 B ρ vs H' rs d0 d gs s h
  cases e : φ (rs.map (·.d)) with
  | stk => simp [e] at h
  | exc x =>
    simp [e] at h
    refine ⟨rs.map (·.d), fun _ => False, fun _ z => z.elim, gs.plain d0 (fun _ z => z.elim), ?_⟩
    rw [e]
    exact fun H2 s2 => ⟨x, rfl, P.mono h s2⟩
  | ok r =>
    simp only [e, R.ok_bind] at h
    by_cases hf : r.fr = true
    · rw [if_pos hf] at h
      refine ⟨rs.map (·.d), fun b => B b ∧ V.ref b ∉ vs, fun b z => d.bnd b z.1, gs.plain d0 (fun _ z => z), ?_⟩
      rw [e]
      intro v H2 s2 ro
      refine h v H2 s2 ?_
      have ban : ∀ b o, H2 b = some o → ¬ Ban true H' (fun b => B b ∧ V.ref b ∉ vs) b → ¬ Ban true H0 B b := fun b o q n z => by
        rcases z with z | ⟨_, o', z1, z2⟩
        · obtain ⟨o', z1, z2⟩ := d.bnd b z
          exact n (.inr ⟨rfl, o', z1, z2⟩)
        · exact n (.inr ⟨rfl, o', d.sam _ _ z1, z2⟩)
      unfold RetOk at ro
      unfold GoodR
      cases k : r.k with
      | shr =>
        rw [k] at ro
        simp only [if_true]
        rw [hf] at ro
        exact Rep.same (fun b o q => let ⟨q1, q2⟩ := cut_some.mp q; cut_some.mpr ⟨ban b o q2 q1, q2⟩) ro
      | own =>
        rw [k] at ro
        obtain ⟨a, o', h1, h2, h3, h5⟩ := ro
        rw [hf] at h5
        refine ⟨a, o', h1, s.none h2, h3, h5.same (fun b o q => ?_)⟩
        obtain ⟨q1, q2⟩ := cut_some.mp q
        refine cut_some.mpr ⟨fun z => ?_, q2⟩
        rcases z with (z | z) | z
        · exact ban b o q2 (fun w => q1 (w.imp .inl id)) (.inl z)
        · exact q1 (.inl (.inr z))
        · exact ban b o q2 (fun w => q1 (w.imp .inl id)) (.inr z)
      | old =>
        rw [k] at ro
        obtain ⟨a, o', h1, h2, h3, h5⟩ := ro
        rw [hf] at h5
        refine ⟨a, o', h1, s.none h2, h3, h5.same (fun b o q => ?_)⟩
        obtain ⟨q1, q2⟩ := cut_some.mp q
        refine cut_some.mpr ⟨fun z => ?_, q2⟩
        rcases z with (z | z) | z
        · exact ban b o q2 (fun w => q1 (w.imp .inl id)) (.inl z)
        · exact q1 (.inl (.inr z))
        · exact ban b o q2 (fun w => q1 (w.imp .inl id)) (.inr z)
      | tmp =>
        rw [k] at ro
        obtain ⟨a, o', h1, h2, h3, h5⟩ := ro
        rw [hf] at h5
        refine ⟨a, o', h1, s.none h2, h3, h5.same (fun b o q => ?_)⟩
        obtain ⟨q1, q2⟩ := cut_some.mp q
        refine cut_some.mpr ⟨fun z => ?_, q2⟩
        rcases z with (z | z) | z
        · exact ban b o q2 (fun w => q1 (w.imp .inl id)) (.inl z)
        · exact q1 (.inl (.inr z))
        · exact ban b o q2 (fun w => q1 (w.imp .inl id)) (.inr z)
    · rw [if_neg hf] at h
      have hf' : r.fr = false := by cases q : r.fr with | true => exact absurd q hf | false => rfl
      cases e2 : gives rs with
      | stk => simp [e2] at h
      | exc x => exact (gives_exc e2).elim
      | ok y =>
        simp only [e2, R.ok_bind] at h
        have re := gs.gives d0 e2
        rw [gives_ds e2] at re
        refine ⟨rs.map (·.d), Ban y.1 H0 B, fun b z => ?_, re, ?_⟩
        · rcases z with z | ⟨_, o, z1, z2⟩
          · exact d.bnd b z
          · exact ⟨o, d.sam _ _ z1, z2⟩
        · rw [e]
          intro v H2 s2 ro
          refine h v H2 s2 ?_
          unfold RetOk at ro
          unfold GoodR
          cases k : r.k with
          | shr =>
            rw [k, hf'] at ro
            simp only [if_true]
            exact Rep.same (cut_mono (fun _ _ q _ => q) fun b z => .inl (.inl z)) ro
          | own =>
            rw [k, hf'] at ro
            obtain ⟨a, o', h1, h2, h3, h5⟩ := ro
            refine ⟨a, o', h1, s.none h2, h3, h5.same (cut_mono (fun _ _ q _ => q) fun b z => .inl (.inl ?_))⟩
            rcases z with (z | z) | z
            · exact .inl (.inl z)
            · exact .inr z
            · exact .inl (.inr z)
          | old =>
            rw [k, hf'] at ro
            obtain ⟨a, o', h1, h2, h3, h5⟩ := ro
            refine ⟨a, o', h1, s.none h2, h3, h5.same (cut_mono (fun _ _ q _ => q) fun b z => .inl (.inl ?_))⟩
            rcases z with (z | z) | z
            · exact .inl (.inl z)
            · exact .inr z
            · exact .inl (.inr z)
          | tmp =>
            rw [k, hf'] at ro
            obtain ⟨a, o', h1, h2, h3, h5⟩ := ro
            refine ⟨a, o', h1, s.none h2, h3, h5.same (cut_mono (fun _ _ q _ => q) fun b z => .inl (.inl ?_))⟩
            rcases z with (z | z) | z
            · exact .inl (.inl z)
            · exact .inr z
            · exact .inl (.inr z)
variable {x : Str} {p : Pos} {ps : List Str} {k : Nat} {CX : CXT} {cl : XC → Addr} {φ : Φ}
theorem m_call (cc : Callee X.prog X.w X.K X.mg X.base CX k x ps (spM X.K cl φ)) (hr : Room k X.A) (hg : Gl X x) (ht : Thr CX cl X P) (ha : PA X (e :: es) (tAs X.K P fs))
    (hdb : (x == ("__debug__" : Str)) = false := by decide) (he : starEach (e :: es) X.env = (false, eval e X.env) :: starEach es X.env := by rfl) (hpl : (backTo pos (starEach es X.env)).any (·.1) = false := by rfl) :
    PE X (.Call (.Name x p) (e :: es) [] pos) (tE X.K P (callE φ fs)) := by
  obtain ⟨fa, fd, F, m, kp, b⟩ := cc
  intro pins s σ H Q I h
  refine wpAny_Call_Name_kw (ld_glob I hg m ?_ hdb)
  refine PySem.W.callWith_K (h₀ := X.base) I.ok.mod.kin kp (thn (ha pos pins s σ H _ I (call_core (cl := cl) h)) fun us s1 ⟨vs, H1, I1, r, q⟩ => ⟨I1.kIn, ?_⟩) he hpl
  exact run_fnX F hr b (fun e s' hq => ht pins σ H1 s1 e s' I1 hq) I1 r q
theorem DenS.start {K : PySem.W.Frag} {H : Hp} {B : Addr → Prop} {vs : List V} {ds : List D} {N : List Str} (hB : ∀ b, B b → ∃ o, H b = some o ∧ stab o = false) (r : Reps K (cut H B) ds vs) : DenS K H H B (L2.start N vs) (stE N.length ds) := by
  have no : ∀ i a, ¬ ownAt (L2.start N vs) (stE N.length ds) i a := fun i a ⟨_, e, h2, h3⟩ => by
    unfold stE at h2
    by_cases hi : i < ds.length
    · rw [List.getElem?_append_left (by simpa using hi), List.getElem?_map] at h2
      cases q : ds[i]? with
      | none => rw [q] at h2; cases h2
      | some d => rw [q] at h2; cases h2; cases h3
    · rw [List.getElem?_append_right (by simpa using hi), List.getElem?_replicate] at h2
      split at h2 <;> cases h2
  refine ⟨⟨?_, Same.refl H, fun b z => ?_, fun i e he => ?_⟩, fun a ⟨i, z⟩ => (no i a z).elim, fun i j a z _ => (no i a z).elim⟩
  · unfold stE L2.start
    simp [r.length]
  · rcases z with ⟨i, z⟩ | z
    · exact (no i b z).elim
    · exact hB b z
  · unfold stE at he
    by_cases hi : i < ds.length
    · rw [List.getElem?_append_left (by simpa using hi), List.getElem?_map] at he
      cases q : ds[i]? with
      | none => rw [q] at he; cases he
      | some d =>
        rw [q] at he
        cases he
        obtain ⟨v, q1, q2⟩ := r.get q
        refine ⟨v, ?_, ?_⟩
        · unfold L2.start
          have : i < vs.length := by rw [← r.length]; exact hi
          rw [List.getElem?_append_left (by simpa using this), List.getElem?_map, q1]
          rfl
        · refine Rep.same (cut_mono (fun _ _ q _ => q) fun b z => .inl ?_) q2
          rcases z with (⟨j, z⟩ | z) | ⟨z, _⟩
          · exact (no j b z).elim
          · exact z
          · cases z
    · rw [List.getElem?_append_right (by simpa using hi), List.getElem?_replicate] at he
      split at he <;> cases he
theorem RetOk.fr {K : PySem.W.Frag} {H0 H' : Hp} {T : Addr → Prop} {v : V} {r : Res} (s : Same H0 H') (h : RetOk K H0 H' T v r) : RetOk K H0 H' T v ⟨r.k, r.fr || r.d.imm, r.d⟩ := by
  unfold RetOk at h ⊢
  cases k : r.k with
  | shr => rw [k] at h; exact Rep.fr s h
  | own =>
    rw [k] at h
    obtain ⟨a, o, h1, h2, h3, h4⟩ := h
    refine ⟨a, o, h1, h2, h3, ?_⟩
    rw [h4.imm, Bool.or_false]
    exact h4
  | old =>
    rw [k] at h
    obtain ⟨a, o, h1, h2, h3, h4⟩ := h
    refine ⟨a, o, h1, h2, h3, ?_⟩
    rw [h4.imm, Bool.or_false]
    exact h4
  | tmp =>
    rw [k] at h
    obtain ⟨a, o, h1, h2, h3, h4⟩ := h
    refine ⟨a, o, h1, h2, h3, ?_⟩
    rw [h4.imm, Bool.or_false]
    exact h4
section
variable {Pg : Program} {w : World} {K : PySem.W.Frag} {mg : Str → Option Value} {base : Heap}
theorem spM_len {φ : Φ} {n : Nat} (h : ∀ ds, ds.length ≠ n → φ ds = .stk) : ∀ vs H Q E, spM K cl φ vs H Q E → vs.length = n := fun vs H Q E ⟨ds, B, _, r, q⟩ => by
  rw [← r.length]
  by_cases e : ds.length = n
  · exact e
  · rw [h ds e] at q; exact q.elim
end
end Mir
set_option Elab.async false
set_option linter.all false
set_option maxRecDepth 100000
set_option maxHeartbeats 1000000
namespace Mir
open PySem L2
variable {X : Cx} {P : XP} {a b c e : Expr} {es : List Expr} {f g : FE} {fs : FEs} {pos : Pos}
theorem mg_nm {i : Nat} {x : Str} (hN : X.N.Nodup) (hi : X.N[i]? = some x) (hx : Loc X.env.scope x) (hf : X.fn x = true ∨ X.env.scope.names.lookup x = some .local := by first | exact .inl rfl | exact .inr rfl | assumption) : PG X (.Name x pos) (gOf X.K (.nm i)) := by
  unfold gOf
  exact pg_name hN hi hx hf
theorem mgs_nil : PGs X [] (gsOf X.K []) := by
  unfold gsOf
  exact pgs_nil
theorem mgs_cons {t : Tg} {ts : List Tg} (h1 : PG X e (gOf X.K t)) (h2 : PGs X es (gsOf X.K ts)) (hs : (assignEach (e :: es) X.env).map (·.2) = assign e X.env :: (assignEach es X.env).map (·.2) := by rfl) : PGs X (e :: es) (gsOf X.K (t :: ts)) := by
  unfold gsOf
  exact pgs_cons h1 h2 hs
theorem mg_tp {ts : List Tg} {k : Nat} (hc : X.calm = true) (h : PGs X es (gsOf X.K ts)) (hn : (assignEach es X.env).length = ts.length := by rfl) (hst : (assignEach es X.env).findIdx? (·.1) = none := by rfl) : PG X (.Tuple es k pos) (gOf X.K (.tp ts)) := by
  unfold gOf
  exact pg_tup hc h hn hst
mutual
def Tg.inK (k : Nat) : Tg → Bool
  | .nm i => decide (i < k)
  | .tp ts => Tg.inKs k ts
def Tg.inKs (k : Nat) : List Tg → Bool
  | [] => true
  | t :: ts => t.inK k && Tg.inKs k ts
end
mutual
theorem gmono {K : PySem.W.Frag} : ∀ t : Tg, GMono (gOf K t)
  | .nm i => by unfold gOf; exact mono_name
  | .tp ts => by unfold gOf; exact mono_tup (gsmono ts)
theorem gsmono {K : PySem.W.Frag} : ∀ ts : List Tg, GsMono (gsOf K ts)
  | [] => by unfold gsOf; exact monos_nil
  | t :: ts => by unfold gsOf; exact monos_cons (gmono t) (gsmono ts)
end
mutual
theorem glow {K : PySem.W.Frag} {k : Nat} : ∀ {t : Tg}, t.inK k = true → GLow k (gOf K t)
  | .nm i, h => by unfold gOf; exact low_name (by simpa [Tg.inK] using h)
  | .tp ts, h => by unfold gOf; exact low_tup (gslow (by simpa [Tg.inK] using h))
theorem gslow {K : PySem.W.Frag} {k : Nat} : ∀ {ts : List Tg}, Tg.inKs k ts = true → GsLow k (gsOf K ts)
  | [], _ => by unfold gsOf; exact lows_nil
  | t :: ts, h => by
    have h' : t.inK k = true ∧ Tg.inKs k ts = true := by simpa [Tg.inKs] using h
    unfold gsOf
    exact lows_cons (gmono t) (gsmono ts) (glow h'.1) (gslow h'.2)
end
def intsR : List D → R (List Int)
  | [] => .ok []
  | d :: r => do
    let i ← asI d
    let l ← intsR r
    .ok (i :: l)
def sumE (a : FE) : FE := fun ρ => do
  let x ← a ρ
  let ds ← asL x.d
  let l ← intsR ds
  .ok (sc (.int l.sum))
theorem intsR_exc {x : Xc} : ∀ {ds : List D}, intsR ds = .exc x → False
  | [], h => by simp [intsR] at h
  | d :: r, h => by
    simp only [intsR] at h
    cases e : asI d with
    | stk => simp [e] at h
    | exc y => exact asI_exc e
    | ok i =>
      cases e2 : intsR r with
      | stk => simp [e, e2] at h
      | exc y => exact intsR_exc e2
      | ok l => simp [e, e2] at h
theorem Reps.ints {K : PySem.W.Frag} {G : Hp} : ∀ {ds : List D} {vs : List V} {l : List Int}, intsR ds = .ok l → Reps K G ds vs → vs = l.map V.int
  | [], vs, l, h, r => by simp [intsR] at h; subst h; exact r
  | d :: r, vs, l, h, ⟨x, xr, h1, h2, h3⟩ => by
    simp only [intsR] at h
    cases e : asI d with
    | stk => simp [e] at h
    | exc y => simp [e] at h
    | ok i =>
      cases e2 : intsR r with
      | stk => simp [e, e2] at h
      | exc y => simp [e, e2] at h
      | ok l' =>
        simp [e, e2] at h
        subst h
        rw [asI_ok e] at h2
        rw [h1, Reps.ints e2 h3, show x = .int i from h2]
        rfl
variable {p : Pos}
theorem m_sum (hc : X.calm = true) (hg : Gl X "sum") (hm : X.mg "sum" = none) (ha : PE X a (tE X.K P f)) (he : starEach [a] X.env = [(false, eval a X.env)] := by rfl) : PE X (.Call (.Name "sum" p) [a] [] pos) (tE X.K P (sumE f)) := by
  refine PE.imp (pe_callB (call_sum hc) hg hm (by decide +kernel) (ma_cons ha ma_nil he) (he := he)) ?_
  intro σ H Q h
  refine call1 h ?_
  intro H0 B ρ v H' r d0 d g s h
  cases e : asL r.d with
  | stk => simp [e] at h
  | exc x => exact (asL_exc e).elim
  | ok ds =>
    cases e2 : intsR ds with
    | stk => simp [e, e2] at h
    | exc x => exact (intsR_exc e2).elim
    | ok l =>
      simp only [e, e2, R.ok_bind] at h
      obtain ⟨a, xs, h1, h2, h3⟩ := g.list (asL_ok e)
      exact ⟨a, l, by rw [h1], by rw [← Reps.ints e2 h3]; exact .inl h2, h _ H' (Same.refl _) (GoodR.sc (show Rep _ _ (.int _) _ from rfl))⟩
inductive Ty where
  | int | bool | list | tuple | str
  deriving DecidableEq
def Ty.nm : Ty → String
  | .int => "int"
  | .bool => "bool"
  | .list => "list"
  | .tuple => "tuple"
  | .str => "str"
def tyD : D → String
  | .non => "NoneType"
  | .bl _ => "bool"
  | .int _ => "int"
  | .str _ => "str"
  | .lst _ => "list"
  | .tup _ => "tuple"
  | _ => ""
theorem tyOf_rd {K : PySem.W.Frag} {H : Hp} {a : Addr} {xs : List V} (h : Rd H a (.lst xs)) : TyOf K H (.ref a) (.type "list") := by
  rcases h with h | ⟨o, h⟩
  · exact .lst h
  · exact .frz h
theorem GoodR.ty {K : PySem.W.Frag} {H0 H H' : Hp} {B : Addr → Prop} {v : V} {r : Res} (g : GoodR K H0 H H' B v r) (h1 : ∀ c ds, r.d ≠ .obj c ds) (h2 : ∀ c ds, r.d ≠ .exc c ds) (h3 : r.d ≠ .any) (h4 : ∀ c ds, r.d ≠ .dct c ds) : TyOf K H' v (.type (tyD r.d)) := by
  cases k : r.d with
  | lst ds => obtain ⟨a, xs, q1, q2, q3⟩ := g.list k; rw [q1]; exact tyOf_rd q2
  | non => have := g.shr_of (by rw [k]; rfl); rw [k] at this; rw [show v = .non from this]; exact .non
  | bl b => have := g.shr_of (by rw [k]; rfl); rw [k] at this; rw [show v = .bl b from this]; exact .bl b
  | int b => have := g.shr_of (by rw [k]; rfl); rw [k] at this; rw [show v = .int b from this]; exact .int b
  | str b => have := g.shr_of (by rw [k]; rfl); rw [k] at this; rw [show v = .str b from this]; exact .str b
  | tup ds =>
    obtain ⟨a, xs, q1, q2, q3⟩ := g.tuple k
    rw [q1]
    exact .tup q2
  | obj c b => exact absurd k (h1 _ _)
  | exc c b => exact absurd k (h2 _ _)
  | any => exact absurd k h3
  | dct c b => exact absurd k (h4 _ _)
end Mir
set_option Elab.async false
set_option linter.all false
set_option maxRecDepth 100000
set_option maxHeartbeats 1000000
namespace Mir
open PySem L2
variable {X : Cx} {P : XP} {a b c e : Expr} {es : List Expr} {f g : FE} {fs : FEs} {pos p : Pos}
theorem Reps.rep {K : PySem.W.Frag} {G : Hp} {ds : List D} {vs : List V} (r : Reps K G ds vs) : ∀ n : Nat, Reps K G (List.replicate n ds).flatten (List.replicate n vs).flatten
  | 0 => rfl
  | n + 1 => by
    rw [List.replicate_succ, List.flatten_cons, List.replicate_succ, List.flatten_cons]
    exact r.append (Reps.rep r n)
theorem twoE {k : Res → Res → R Res} {F : FE} (hF : F = fun ρ => f ρ >>= fun x => g ρ >>= fun y => k x y) {σ : St} {H : Hp} {Q : VK} {q : List V → Hp → Prop} (h : tE X.K P F σ H Q)
    (hk : ∀ H0 B ρ v w H' r r', DenE X.K H0 H B σ ρ → DenE X.K H0 H' B σ ρ → GoodR X.K H0 H H' B v r → GoodR X.K H0 H H' B w r' → Same H H' → (match k r r' with
      | .ok r1 => ∀ v1 H1, Same H' H1 → GoodR X.K H0 H H1 B v1 r1 → Q v1 H1
      | .exc x => P.p x σ H'
      | .stk => False) → q [v, w] H') : tAs X.K P [f, g] σ H q := by
  have e : F = fun ρ => evs [f, g] ρ >>= fun rs => match rs with | [x, y] => k x y | _ => .stk := by
    rw [hF]
    funext ρ
    unfold evs evs
    cases f ρ with
    | ok r =>
      show (g ρ >>= fun y => k r y) = _
      cases g ρ with
      | ok r' => rfl
      | _ => rfl
    | _ => rfl
  rw [e] at h
  refine tA1 h ?_
  intro H0 B ρ vs H' rs d0 d gs s h
  match vs, rs, gs with
  | [], rs, gs => have e : rs = [] := gs; subst e; exact h.elim
  | [v], _, ⟨r, rr, e1, g1, g2⟩ =>
    subst e1
    rw [show rr = [] from g2] at h
    exact h.elim
  | [v, w], _, ⟨r, rr, e1, g1, r2, rr2, e2, g2, g3⟩ =>
    subst e1; subst e2
    rw [show rr2 = [] from g3] at h
    exact hk H0 B ρ v w H' r r2 d0 d g1 g2 s h
  | _ :: _ :: _ :: _, _, ⟨r, rr, e1, g1, r2, rr2, e2, g2, r3, rr3, e3, _⟩ =>
    subst e1; subst e2; subst e3
    exact h.elim
def lzpE (a b : FE) : FE := fun ρ => do
  let x ← a ρ
  let y ← b ρ
  let xs ← asL x.d
  let ys ← asL y.d
  .ok ⟨.tmp, x.fr && y.fr, .lst (zipD xs ys)⟩
theorem m_lzp {p1 p2 q1 q2 : Pos} (hc : X.calm = true) (g1 : Gl X "list") (m1 : X.mg "list" = none) (g2 : Gl X "zip") (m2 : X.mg "zip" = none) (ha : PE X a (tE X.K P f)) (hb : PE X b (tE X.K P g))
    (hs : starEach [a, b] X.env = [(false, eval a X.env), (false, eval b X.env)] := by rfl) (hs2 : starEach [b] X.env = [(false, eval b X.env)] := by rfl)
    (hs3 : starEach [Expr.Call (.Name "zip" p2) [a, b] [] q2] X.env = [(false, eval (.Call (.Name "zip" p2) [a, b] [] q2) X.env)] := by rfl) :
    PE X (.Call (.Name "list" p1) [.Call (.Name "zip" p2) [a, b] [] q2] [] q1) (tE X.K P (lzpE f g)) := by
  refine PE.imp (pe_listzip hc g1 m1 g2 m2 (ma_cons ha (ma_cons hb ma_nil hs2) (by rw [hs, hs2])) hs hs2 hs3) ?_
  intro σ H Q h
  refine twoE rfl h ?_
  intro H0 B ρ v w H' r r' d0 d g1 g2 s h
  cases e1 : asL r.d with
  | stk => simp [e1] at h
  | exc x => exact (asL_exc e1).elim
  | ok ds =>
    cases e2 : asL r'.d with
    | stk => simp [e1, e2] at h
    | exc x => exact (asL_exc e2).elim
    | ok es =>
      simp only [e1, e2, R.ok_bind] at h
      obtain ⟨a1, xs, h1, h2, h3⟩ := g1.list (asL_ok e1)
      obtain ⟨a2, ys, k1, k2, k3⟩ := g2.list (asL_ok e2)
      refine ⟨a1, a2, xs, ys, by rw [h1, k1], .inl h2, .inl k2, fun l ts H2 z => ?_⟩
      obtain ⟨z1, z2, z3, z4, z5⟩ := z
      refine h _ H2 z1 ⟨l, _, rfl, s.none z2, z3, .lst (Reps.of_get ?_ fun i dd vv hd hv => ?_)⟩
      · simp [zipD, z4, h3.length, k3.length]
      · rw [List.getElem?_map] at hv
        cases ht : ts[i]? with
        | none => rw [ht] at hv; cases hv
        | some t =>
          rw [ht] at hv
          cases hv
          obtain ⟨n1, x, y, ex, ey, et⟩ := z5 i t ht
          unfold zipD at hd
          rw [List.getElem?_zipWith] at hd
          obtain ⟨d1, f1, r1⟩ := h3.getv ex
          obtain ⟨d2, f2, r2⟩ := k3.getv ey
          rw [f1, f2] at hd
          cases hd
          have tl : t ≠ l := fun q => by rw [q, z3] at et; cases et
          have m : ∀ fr, Same (cutF fr H0 H' B) (cutF fr H0 H2 fun b => B b ∨ b = l) := fun fr => cutF_mono (fun b o q _ => z1 b o q) fun b q => q.imp id fun q => by rw [q]; exact z2
          refine ⟨t, [x, y], rfl, cut_some.mpr ⟨fun q => ?_, et⟩, x, [y], rfl, ?_, y, [], rfl, ?_, rfl⟩
          · rcases q with (q | q) | ⟨_, o, q, _⟩
            · obtain ⟨o, q1, _⟩ := d.bnd t q; rw [n1] at q1; cases q1
            · exact tl q
            · rw [d.sam _ _ q] at n1; cases n1
          · obtain ⟨_, _, q1, q2, _⟩ := (Reps.one (Rep.same (m _) r1)).andL (fr' := r'.fr)
            cases q1; exact q2
          · obtain ⟨_, _, q1, q2, _⟩ := (Reps.one (Rep.same (m _) r2)).andR (fr := r.fr)
            cases q1; exact q2
end Mir
set_option Elab.async false
set_option linter.all false
set_option maxRecDepth 100000
set_option maxHeartbeats 1000000
namespace Mir
open PySem L2
variable {X : Cx} {P : XP} {pins : List (Addr × Obj)} {σ : St} {H H' : Hp} {s s' : Shared} {ea C : Addr}
theorem ObjOk.there {Pg : Program} {w : World} {H : Hp} {h : Heap} {a : Addr} {o : HO} (x : ObjOk Pg w H h a o) : ∃ ob, h.get? a = some ob := by
  cases o with
  | lst xs => obtain ⟨_, _, _, _, e⟩ := x; exact ⟨_, e⟩
  | tup xs => obtain ⟨_, _, _, p⟩ := x; obtain ⟨o, e, _⟩ := p; exact ⟨o, e⟩
  | dK kvs => obtain ⟨_, _, _, _, o, _, _, e, _⟩ := x; exact ⟨o, e⟩
  | dT kvs => obtain ⟨_, _, _, _, o, _, _, e, _⟩ := x; exact ⟨o, e⟩
  | set S n => obtain ⟨o, _, _, _, e, _⟩ := x; exact ⟨o, e⟩
  | ins C dx fs => obtain ⟨_, _, _, e, _⟩ := x; exact ⟨_, e⟩
  | own y => exact x
  | xd fs => obtain ⟨_, ⟨o, _, _, e, _⟩, _⟩ := x; exact ⟨o, e⟩
  | rng lo hi => obtain ⟨_, _, _, e⟩ := x; exact ⟨_, e⟩
  | frz ob u => obtain ⟨e, _⟩ := x; exact ⟨_, e⟩
  | tbl ps => exact ⟨_, x⟩
  | met f y => exact ⟨_, x⟩
  | ext φ => obtain ⟨_, e, _⟩ := x; exact e
structure Fly (Pg : Program) (w : World) (l : List PySem.Env) (H : Hp) (s : Shared) (ea C : Addr) (H' : Hp) (s' : Shared) : Prop where
  os : s'.os = s.os
  bare : PyProof.Rows.AllBare s'.gens
  hok : HOk Pg w H' s'.heap
  un : Un (frs l) [] H H' s.heap s'.heap
  new : s.heap.get? ea = none
  unt : H' ea = none
  fly : ∃ a0 Bh, Heap.FlyingW Bh l ea (.ref C) a0 s'.heap ∧ (∀ b o o', s.heap.get? b = some o → b ∉ frs l → s'.heap.get? b = some o' → Bh.get? b = some o') ∧ (∀ b u o', H' b = some u → s'.heap.get? b = some o' → Bh.get? b = some o')
def CXM (Pg : Program) (w : World) : CXT := fun outer H s E e s' => ∃ ea C H', e = .ref ea ∧ Fly Pg w outer H s ea C H' s' ∧ E (.ref C) none H'
theorem hok_fly {Pg : Program} {w : World} {h h' Bh : Heap} (x : HOk Pg w H h) (k : ∀ b u o', H b = some u → h.get? b = some o' → Bh.get? b = some o') (st : Bh.StaysIn h') : HOk Pg w H h' := fun a o e =>
  (x a o e).stay (fun b u hb q => by
    rcases hb with hb | hb
    · exact st _ _ (k b o u (by rw [hb]; exact e) q)
    · exact st _ _ (k b _ u hb q)) (fun _ q => q) fun _ _ q => q
theorem un_fly {Pg : Program} {w : World} {fs : List Addr} {H0 : Hp} {h0 h h' Bh : Heap} (u : Un fs [] H0 H h0 h) (ok : HOk Pg w H h) (hk : ∀ b o o', h0.get? b = some o → b ∉ fs → h.get? b = some o' → Bh.get? b = some o') (ht : ∀ b u o', H b = some u → h.get? b = some o' → Bh.get? b = some o') (st : Bh.StaysIn h')
    (sl : ∀ b o, b ∈ fs → h.get? b = some o → ∃ s, h'.get? b = some { o with slots := s }) : Un fs [] H0 H h0 h' := by
  refine ⟨fun b o q n hb hx => st _ _ (hk b o o q hb (u.keep b o q n hb hx)), fun b o q n hb hx => ?_, u.free, fun b o q hx => ?_, u.tups, u.frzs, u.tbls⟩
  · obtain ⟨s1, e1⟩ := u.slot b o q n hb hx
    obtain ⟨s2, e2⟩ := sl b _ hb e1
    exact ⟨s2, e2⟩
  · obtain ⟨o', e⟩ := u.there b o q hx
    by_cases hb : b ∈ fs
    · obtain ⟨s2, e2⟩ := sl b _ hb e
      exact ⟨_, e2⟩
    · exact ⟨o', st _ _ (hk b o o' q hb e)⟩
theorem frs_cons {env : PySem.Env} {l : List PySem.Env} {L : Addr} (h : env.frame = some L) : frs (env :: l) = L :: frs l := by unfold frs; rw [List.filterMap_cons, h]
theorem fly_out {M : Model} {E : Value → Shared → Prop} {Q : Unit → Shared → Prop} (I : Inv X pins σ H s) (hx : X.ex = []) (hst : X.stack = X.env :: X.outer) (hf : X.env.frame = some X.env.locals) (F : Fly X.prog X.w X.stack H s ea C H' s')
    (hQ : ∀ h', Fly X.prog X.w X.outer X.H₀ X.s₀ ea C H' { s' with heap := h' } → Q () { s' with heap := h' }) : wpAny M X.A (leaving X.env (.ref ea)) Q E s' := by
  obtain ⟨a0, Bh, fl, cov, trk⟩ := F.fly
  have I' : Inv X pins σ H' s' := I.call' (ch := []) F.os F.un F.hok F.bare (fun b z => absurd z (by simp))
  rw [hst] at fl
  refine wpAny_leaves_onW (by rw [I.ok.frames, hst]) hf fl fun h' x1 x2 => hQ h' ?_
  have ne : ∀ b o, X.s₀.heap.get? b = some o → b ≠ X.env.locals := fun b o e => Nat.ne_of_lt (Nat.lt_of_lt_of_le (Heap.lt_size e) I.ok.above)
  have cov' : ∀ b o o', X.s₀.heap.get? b = some o → b ∉ frs X.outer → s'.heap.get? b = some o' → Bh.get? b = some o' := fun b o o' e n q => by
    obtain ⟨o1, e1⟩ := I.base.there b o e (by rw [hx]; simp)
    refine cov b o1 o' e1 ?_ q
    rw [hst, frs_cons hf]
    simp only [List.mem_cons, not_or]
    exact ⟨ne b o e, n⟩
  have base : Un (frs X.outer) [] X.H₀ H' X.s₀.heap s'.heap := by
    have := I'.base
    rw [hx] at this
    exact this
  refine ⟨F.os.trans I.os, F.bare, hok_fly F.hok trk x1.1, un_fly base F.hok cov' trk x1.1 (fun b o hb q => ?_), ?_, F.unt, a0, Bh, x1, fun b o o' e n q => ?_, fun b u o' e q => ?_⟩
  · obtain ⟨_, o1, e1, nf⟩ := fl.2.2.1.mem (b := b) (by have := frs_cons (l := X.outer) hf; unfold frs at this; rw [this]; exact List.mem_cons_of_mem _ hb)
    rw [q] at e1; cases e1
    exact x2 b o q nf
  · cases q : X.s₀.heap.get? ea with
    | none => rfl
    | some o =>
      obtain ⟨o1, e1⟩ := I.base.there ea o q (by rw [hx]; simp)
      rw [F.new] at e1; cases e1
  · obtain ⟨o1, e1⟩ := base.there b o e (by simp)
    have q1 := cov' b o o1 e n e1
    have := x1.1 _ _ q1
    rw [show ({ s' with heap := h' } : Shared).heap.get? b = some o' from q] at this
    cases this
    exact q1
  · obtain ⟨o1, e1⟩ := ObjOk.there (F.hok b u e)
    have q1 := trk b u o1 e e1
    have := x1.1 _ _ q1
    rw [show ({ s' with heap := h' } : Shared).heap.get? b = some o' from q] at this
    cases this
    exact q1
theorem fly_made {M : Model} {E : Value → Shared → Prop} {Q : Unit → Shared → Prop} {args : List Value} {h1 : Heap} (I : Inv X pins σ H s) (hx : X.ex = []) (hst : X.stack = X.env :: X.outer) (hf : X.env.frame = some X.env.locals) (m : Heap.MadeExcOf s.heap h1 ea (.ref C) args)
    (hQ : ∀ h', Fly X.prog X.w X.outer X.H₀ X.s₀ ea C H { s with heap := h' } → Q () { s with heap := h' }) : wpAny M X.A (leaving X.env (.ref ea)) Q E { s with heap := h1 } := by
  have fr := I.stack
  have nl : ∀ b, b ∈ frs X.stack → b ∈ frs X.stack := fun b h => h
  refine wpAny_leaves_madeW (base := PySem.W.hideAll s.heap (frs X.stack)) (h := s.heap) (by rw [I.ok.frames, hst]) hf (fun b o q => PySem.W.of_hideAll _ q) ?_ m fun h' t x1 x2 x3 x4 => hQ h' ?_
  · rw [← hst]
    exact PySem.W.funFrames_hide fr fun env he a ha => List.mem_filterMap.mpr ⟨env, he, ha⟩
  · have ne : ∀ b o, X.s₀.heap.get? b = some o → b ≠ X.env.locals := fun b o e => Nat.ne_of_lt (Nat.lt_of_lt_of_le (Heap.lt_size e) I.ok.above)
    have hid : ∀ b o, s.heap.get? b = some o → b ∉ frs X.stack → (PySem.W.hideAll s.heap (frs X.stack)).get? b = some o := fun b o q n => PySem.W.hideAll_get _ q n
    have nin : ∀ b o, X.s₀.heap.get? b = some o → b ∉ frs X.outer → b ∉ frs X.stack := fun b o e n => by
      rw [hst, frs_cons hf]
      simp only [List.mem_cons, not_or]
      exact ⟨ne b o e, n⟩
    have trk : ∀ b u o', H b = some u → s.heap.get? b = some o' → (PySem.W.hideAll s.heap (frs X.stack)).get? b = some o' := fun b u o' e q => hid b o' q fun z => by
      rw [I.stkFree b z] at e; cases e
    have base : Un (frs X.outer) [] X.H₀ H X.s₀.heap s.heap := by
      have := I.base
      rw [hx] at this
      exact this
    have un := un_fly base I.hok (fun b o o' e n q => hid b o' q (nin b o e n)) trk x1.1 (fun b o hb q => ?_)
    · refine ⟨I.os, I.bare, hok_fly I.hok trk x1.1, un, ?_, ?_, _, _, x1, fun b o o' e n q => ?_, fun b u o' e q => ?_⟩
      · cases q : X.s₀.heap.get? ea with
        | none => rfl
        | some o =>
          obtain ⟨o1, e1⟩ := I.base.there ea o q (by rw [hx]; simp)
          rw [m.new] at e1; cases e1
      · cases q : H ea with
        | none => rfl
        | some u =>
          obtain ⟨o1, e1⟩ := ObjOk.there (I.hok ea u q)
          rw [m.new] at e1; cases e1
      · obtain ⟨o1, e1⟩ := base.there b o e (by simp)
        have q1 := hid b o1 e1 (nin b o e n)
        have := x1.1 _ _ q1
        rw [show ({ s with heap := h' } : Shared).heap.get? b = some o' from q] at this
        cases this
        exact q1
      · obtain ⟨o1, e1⟩ := ObjOk.there (I.hok b u e)
        have q1 := trk b u o1 e e1
        have := x1.1 _ _ q1
        rw [show ({ s with heap := h' } : Shared).heap.get? b = some o' from q] at this
        cases this
        exact q1
    · have hb' : b ∈ frs X.stack := by rw [hst, frs_cons hf]; exact List.mem_cons_of_mem _ hb
      obtain ⟨_, o1, e1, nf⟩ := fr.mem (b := b) hb'
      rw [q] at e1; cases e1
      exact x4 b o (m.keeps _ _ q) nf
end Mir
set_option Elab.async false
set_option linter.all false
set_option maxRecDepth 100000
set_option maxHeartbeats 1000000
namespace Mir
open PySem L2
variable {X : Cx} {P : XP} {a b c e : Expr} {es : List Expr} {f g : FE} {fs : FEs} {pos : Pos}
abbrev bmV : List Value := [.type "ValueError", .type "Exception", .type "BaseException", .type "object"]
theorem ownObj {K : PySem.W.Frag} {h : Heap} {C : Addr} {bmB : List Value} {newId : String} (X : K.In h) (q : PySem.W.excIn K C bmB newId = true) :
    ∃ bm N nm q bs hdct sn sub ab col dd k0 k1 k2 k3 k5 mN, h.get? C = some (excClassObj nm q C N bs bm hdct sn sub ab col dd k0 k1 k2 k3 k5 newId) ∧ h.Ns N mN ∧ mN "__init__" = none ∧ OwnTail h bmB bm := by
  unfold PySem.W.excIn at q
  repeat' split at q
  case h_1 dd c sl look _ _ C1 tl s0 s1 s2 s3 mk s5 em es =>
    simp only [Bool.and_eq_true] at q
    have eC : C1 = C := by simpa using q.1.1.1.1.1
    have en : mk = newId := by simpa using q.1.1.1.1.2
    have ed : c.hasDel = false := by simpa using q.1.1.1.2
    have ei : PySem.W.nsIn K c.ns "__init__" = some none := by simpa using q.2
    have ok : PySem.W.nsOkIn K c.ns = true := q.1.2
    have here := X _ _ look
    cases c
    cases sl
    dsimp only at em es ed ok ei
    subst eC en em es ed
    exact ⟨_, _, _, _, _, _, _, _, _, _, _, _, _, _, _, _, _, here, .of_isNs (PySem.W.isNs_of_in X ok), PySem.W.nsMap_none_of_in X ok ei, PySem.W.tail_of_in X q.1.1.2⟩
  all_goals exact absurd q Bool.false_ne_true
def raiseS (c : XC) (fs : FEs) : FS := fun ρ => (evs fs ρ).at ρ fun rs => if rs.length ≤ sizeLine then .exc ⟨c, []⟩ ρ else .stk
def ThrM (cl : XC → Addr) (X : Cx) (P : XP) : Prop := ∀ (pins : List (Addr × Obj)) (σ : St) (H : Hp) (s : Shared) (h1 : Heap) (ea : Addr) (args : List Value) (x : Xc), Inv X pins σ H s → Heap.MadeExcOf s.heap h1 ea (.ref (cl x.c)) args → P.p x σ H → X.xe (.ref ea) { s with heap := h1 }
theorem m_raise {cl : XC → Addr} {xc : XC} {x : Str} {np cpos : Pos} (hm : X.mg x = some (.ref (cl xc))) (hK : PySem.W.excIn X.K (cl xc) bmV "ValueError.__new__" = true) (hc : X.calm = true) (hg : Gl X x) (ht : ThrM cl X P) (ha : PA X (e :: es) (tAs X.K P fs))
    (hdb : (x == ("__debug__" : Str)) = false := by decide) (he : starEach (e :: es) X.env = (false, eval e X.env) :: starEach es X.env := by rfl) (hpl : (backTo cpos (starEach es X.env)).any (·.1) = false := by rfl) :
    PS X (.Raise (some (.Call (.Name x np) (e :: es) [] cpos)) none pos) (tS X.K P (raiseS xc fs)) := by
  intro pins s σ H D I h
  obtain ⟨H0, T, ρ, d, h⟩ := h
  obtain ⟨tl, N, nm, q, bs, hdct, sn, sub, ab, col, dd, k0, k1, k2, k3, k5, mN, hC, hN, hni, TL⟩ := ownObj I.ok.mod.kin hK
  refine wpAny_Raise_call_subT (C := cl xc) (nm := nm) (q := q) (N := N) (bs := bs) (bm := tl) (hdct := hdct) (sn := sn) (sub := sub) (ab := ab) (col := col) (dd := dd) (k0 := k0) (k1 := k1) (k2 := k2) (k3 := k3) (k5 := k5)
    PySem.F.excBase_ValueError (mN := mN) (TL.hasType PySem.F.excBase_ValueError.hasBase) (I.ok.hd hc) (by rw [he]; show (false || (backTo cpos (starEach es X.env)).any (·.1)) = false; rw [hpl]; rfl) hni (ld_glob I hg hm ⟨rfl, ?_⟩ hdb)
  have key : tAs X.K P fs σ H fun vs H1 => vs.length ≤ sizeLine ∧ P.p ⟨xc, []⟩ σ H1 := by
    refine ⟨H0, _, ρ, d.e, ?_⟩
    unfold raiseS at h
    cases e1 : evs fs ρ with
    | stk => simp only [e1, R.at] at h; exact h.elim
    | exc z => simp only [e1, R.at] at h; exact h σ H d Ext.refl
    | ok rs =>
      simp only [e1, R.at] at h
      intro vs H1 s1 gs
      by_cases hz : rs.length ≤ sizeLine
      · rw [if_pos hz] at h
        exact ⟨by rw [gs.len]; exact hz, h σ H1 (d.mono s1) (Ext.same s1)⟩
      · rw [if_neg hz] at h; exact h.elim
  have hA := ha cpos pins s σ H _ I key
  rw [he] at hA ⊢
  refine Calls.evalArgs_plain (wpAny_mono hA (fun us s2 ⟨vs, H1, I1, r, q⟩ => ⟨rfl, ?_, I1.bk _ _ hC, hN.keeps I1.bk, TL.keeps I1.bk, fun h1 ea m => ?_⟩) fun _ _ y => y)
  · show us.length ≤ sizeLine
    rw [← r.length]; exact q.1
  · exact ht pins σ H1 s2 h1 ea _ ⟨xc, []⟩ I1 m q.2
def PX (cl : XC → Addr) (E : XK) : XP := ⟨fun x _ H => ∀ H', Same H H' → E (.ref (cl x.c)) none H', fun h s H' s' => h H' (s.trans s')⟩
section
variable {Pg : Program} {w : World} {K : PySem.W.Frag} {mg : Str → Option Value} {base : Heap} {cl : XC → Addr} {N : List Str} {qual : Str} {scope : Scope} {fa : Addr} {cdv : Value} {A : Around} {outer : List PySem.Env} {s0 : Shared} {H0 : Hp} {E : XK}
theorem thrX : Thr (CXM Pg w) cl (cxOf (CXM Pg w) Pg w K mg base N qual scope fa cdv A outer s0 H0 E) (PX cl E) := by
  rintro pins σ H s e s' I ⟨ea, C, H', rfl, F, x, hx, px⟩
  refine fly_out I rfl rfl rfl F fun h' F' => ⟨ea, C, H', rfl, F', ?_⟩
  rw [hx]
  exact px H' (Same.refl H')
theorem thrMX : ThrM cl (cxOf (CXM Pg w) Pg w K mg base N qual scope fa cdv A outer s0 H0 E) (PX cl E) := by
  intro pins σ H s h1 ea args x I m px
  exact fly_made I rfl rfl rfl m fun h' F' => ⟨ea, cl x.c, H, rfl, F', px H (Same.refl H)⟩
theorem passX : PassesOwn (model Pg w) (cxOf (CXM Pg w) Pg w K mg base N qual scope fa cdv A outer s0 H0 E).A (cxOf (CXM Pg w) Pg w K mg base N qual scope fa cdv A outer s0 H0 E).env (cxOf (CXM Pg w) Pg w K mg base N qual scope fa cdv A outer s0 H0 E).xe := PassesOwn.leaving
theorem m_fnX {x : Str} {ps : List Str} {k : Nat} {st : Stmt} {F : FS} {f : Addr} {fd : FuncData} (Fu : Fun K x x st f fd) (S : FnScope N ps (defScope st))
    (hb : ∀ (f : Addr) (cdv : Value) (A : Around) (outer : List PySem.Env) (s : Shared) (H : Hp) (E : XK), Room k (A.deeper (PyProof.Rows.envOfC x (defScope st) s.heap.objs.size f cdv)) →
      PSs (cxOf (CXM Pg w) Pg w K mg base N x (defScope st) f cdv A outer s H E) (defBody st) (tS K (PX cl E) F)) : FnOk Pg w K mg base (CXM Pg w) (k + 1) f fd ps (spM K cl (defR ps.length N.length F)) := by
  obtain ⟨oc, od, kV, doc, pm, an, cdv, ct, osl, rfl, lk, hcd⟩ := Fu.ex
  refine fn_of lk hcd S (spM_len fun ds e => ?_) fun A outer s H vs Q E hr hsp => ⟨_, hb f cdv A outer s H E hr, ?_⟩
  · unfold defR
    rw [if_neg e]
  · obtain ⟨ds, B, hB, r, q⟩ := hsp
    refine ⟨H, B, stE N.length ds, DenS.start hB r, ?_⟩
    unfold defR at q
    by_cases e : ds.length = ps.length
    · rw [if_pos e] at q
      cases e2 : F (stE N.length ds) with
      | nx ρ' => simp only [e2] at q; exact fun σ' H' d' x' => q .non H' d'.e.sam (show V.non = V.non from rfl)
      | rt r => simp only [e2] at q; exact fun v H' s' ro => q v H' s' (ro.fr s')
      | bk ρ' => simp only [e2] at q
      | ct ρ' => simp only [e2] at q
      | exc z ρ' => simp only [e2] at q; exact fun σ' H' d' x' H'' s'' => q H'' (d'.e.sam.trans s'')
      | stk => simp only [e2] at q
    · rw [if_neg e] at q; exact q.elim
theorem m_defX {x : Str} {ps : List Str} {k : Nat} {st : Stmt} {F : FS} (Fa : FunAt K mg x st ps) (S : FnScope N ps (defScope st))
    (hb : ∀ (f : Addr) (cdv : Value) (A : Around) (outer : List PySem.Env) (s : Shared) (H : Hp) (E : XK), Room k (A.deeper (PyProof.Rows.envOfC x (defScope st) s.heap.objs.size f cdv)) →
      PSs (cxOf (CXM Pg w) Pg w K mg base N x (defScope st) f cdv A outer s H E) (defBody st) (tS K (PX cl E) F)) : Callee Pg w K mg base (CXM Pg w) (k + 1) x ps (spM K cl (defR ps.length N.length F)) :=
  let ⟨f, fd, Fu, m, b⟩ := Fa
  ⟨f, fd, m_fnX Fu S hb, m, Fu.kp, b⟩
end
end Mir
set_option Elab.async false
set_option linter.all false
set_option maxRecDepth 100000
set_option maxHeartbeats 1900000
namespace Mir
open PySem L2
open PySem.W (Frag looks_findIn looks_find looks_mroIn findIn mroIn specialIn takesIn clsIn findObj notCls subIn looks_subIn Looks)
section
variable {prog : Program} {w : World} {A : Around} {E : Value → Shared → Prop} {s : Shared} {K : Frag} {C x : Addr} {ox : Obj}
structure XCls (K : Frag) (C : Addr) : Prop where
  ga : findIn K (.ref C) "__getattribute__" = some (some (.builtin "BaseException.__getattribute__"))
  gh : findIn K (.ref C) "__getattr__" = some none
  cl : findIn K (.ref C) "__class__" = some (some (.builtin "object.__class__"))
  ob : mroIn K C (.type "object") = some true
  be : subIn K (.ref C) (.type "BaseException") = some true
  is : (clsIn K C).isSome = true
theorem ExcAt.type {M : Model} {h : Heap} (I : ExcAt x C h) : Looks M h (typeOf (.ref x)) (.ref C) := by
  obtain ⟨o, e, c, _⟩ := I
  intro A Q E s k q
  exact wpAny_bind (wpAny_loadPart (k _ _ e) (wpAny_pure (c ▸ q)))
theorem xget {tp : Value} {R : Result → Shared → Prop} (c : XCls K C) (X : K.In s.heap) (I : ExcAt x C s.heap) (q : R (.ok (.ret (.ref C))) s) :
    codeAny (model prog w) A (.call (.builtin "getset_descriptor.__get__") ⟨[.builtin "object.__class__", .ref x, tp], []⟩) R s := by
  have l0 := I.type (M := model prog w)
  have l1 := looks_mroIn (M := model prog w) X c.ob
  rw [show ("object" : String) = ".".intercalate ("object.__class__".cutAt '.').dropLast from (congrArg Prod.fst PySem.W.KF.owner_class).symm] at l1
  have ty : s.TypeIs (.builtin "object.__class__") "getset_descriptor" := F.typeOf_object_class
  refine codeAny_call_builtin F.slot_gs_get.plain F.entry_gs_get (F.slot_gs_get.check _ _ _ _ _ _ _ _ ty (F.args_gs_get _ _ _) ?_)
  obtain ⟨h, g, d, t, os⟩ := s
  repeat (any_goals (first | assumption | with_reducible refine l0.at ?_ | with_reducible refine l1.at ?_ | wp_step))
  refine And.intro (Code.quiet_builtin _ (by decide +kernel)) (codeAny_builtin PySem.W.KF.entry_class ?_)
  repeat (any_goals (first | assumption | with_reducible refine l0.at ?_ | wp_step))
theorem xgets {tk : Tok} {Q : Fin → Shared → Prop} (c : XCls K C) (X : K.In s.heap) (I : ExcAt x C s.heap) (q : Q (.done (.ret (.ref C))) s) :
    wpAny (model prog w) A (Builtin.«object.__getattribute__» ⟨[.ref x, .str "__class__" tk], []⟩) Q E s := by
  have l0 := I.type (M := model prog w)
  have l1 := looks_findIn (M := model prog w) X c.cl
  have f1 : s.TypeIs (.builtin "object.__class__") "getset_descriptor" := F.typeOf_object_class
  have f2 := F.typeOf_object_class
  have f3 := F.slot_gs_get.lookup
  have f4 := F.slot_gs_set.lookup
  obtain ⟨h, g, d, t, os⟩ := s
  repeat (any_goals (first | assumption | with_reducible refine l0.at ?_ | with_reducible refine l1.at ?_ | wp_step))
  exact xget c X I (wpAny_pure q)
theorem xmay {nv : Value} {Q : Unit → Shared → Prop} (c : XCls K C) (X : K.In s.heap) (I : ExcAt x C s.heap) (q : Q () s) : wpAny (model prog w) A (checkBuiltinCall "BaseException.__getattribute__" ⟨[.ref x, nv], []⟩) Q E s := by
  have li : Looks (model prog w) s.heap (isInstance (.ref x) (.type "BaseException")) true := I.type.andThen (looks_subIn X c.be)
  have k1 := show builtinKind "BaseException.__getattribute__" = some .slot by decide +kernel
  have k2 := show splitId "BaseException.__getattribute__" = some ("BaseException", "__getattribute__") by decide +kernel
  have k3 := F.args_bexc_ga (.ref x) nv
  obtain ⟨h, g, d, t, os⟩ := s
  simp only [checkBuiltinCall, k1, k2]
  refine wpAny_bind (li.at ?_)
  repeat any_goals first | assumption | wp_step
theorem xcls {Q : Option Value → Shared → Prop} (c : XCls K C) (X : K.In s.heap) (I : ExcAt x C s.heap) (q : Q (some (.ref C)) { s with toks := s.toks + 1 }) :
    wpAny (model prog w) A (getAttr? (.ref x) "__class__") Q E s := by
  have l0 := I.type (M := model prog w)
  have l1 := looks_findIn (M := model prog w) X c.ga
  have l2 := looks_findIn (M := model prog w) X c.gh
  have n1 : (onTheHeap (Value.ref C) && Value.builtin "BaseException.__getattribute__" == Value.builtin "object.__getattribute__") = false := by
    rw [show (Value.builtin "BaseException.__getattribute__" == Value.builtin "object.__getattribute__") = false by decide +kernel, Bool.and_false]
  have l3 := F.excAttr_ValueError.ga.bind (.ref x)
  obtain ⟨h, g, d, t, os⟩ := s
  repeat (any_goals (first | assumption | with_reducible refine l0.at ?_ | with_reducible refine l1.at ?_ | with_reducible refine l2.at ?_ | wp_step))
  refine codeAny_call_builtin F.excAttr_ValueError.ga.plain F.entry_bexc_ga (xmay c X I (xgets c X I ?_))
  repeat any_goals first | assumption | wp_step
theorem cls_obj (e : (clsIn K C).isSome = true) : ∃ c d cd sl, K.lookup C = some ⟨c, d, .cls cd, sl⟩ := by
  unfold clsIn at e
  cases q : K.lookup C with
  | none => simp [q] at e
  | some o =>
    obtain ⟨c, d, da, sl⟩ := o
    cases da <;> first | exact ⟨_, _, _, _, rfl⟩ | simp [q] at e
theorem kitx_exc (c : XCls K C) : PySem.W.KitX K (.ref x) (.ref C) (ExcAt x C) where
  ty _ _ _ I := I.type
  it M h X _ := by
    obtain ⟨k, d, cd, sl, e⟩ := cls_obj c.is
    intro A Q E s st q
    exact wpAny_bind (wpAny_loadPart (st _ _ (X _ _ e)) (wpAny_pure q))
  ne h tp dd its n sl X e := by
    obtain ⟨k, d, cd, sl', e'⟩ := cls_obj c.is
    by_cases z : C = tp
    · subst z
      exact absurd ((X _ _ e').symm.trans e) (by simp)
    · simpa using z
  ca X I q := xcls c X I q
end
end Mir
set_option Elab.async false
set_option linter.all false
set_option maxRecDepth 100000
set_option maxHeartbeats 1000000
namespace Mir
open PySem L2
variable {X : Cx} {P : XP} {a b c e : Expr} {es : List Expr} {f g : FE} {fs : FEs} {pos p : Pos}
structure XTab (K : PySem.W.Frag) : Prop where
  cl : ∀ c : XC, XCls K (clK K c)
  xx : ∀ c d : XC, PySem.W.kitOne K (.ref (clK K d)) (.ref (clK K c)) = some (decide (d = c))
  xv : ∀ d : XC, PySem.W.kitOne K (.ref (clK K d)) (.type "ValueError") = some true
  tx : ∀ t ∈ ["NoneType", "bool", "int", "str", "list", "tuple"], ∀ c : XC, PySem.W.kitOne K (.type t) (.ref (clK K c)) = some false
inductive TyX (K : PySem.W.Frag) (H : Hp) : V → Value → Prop where
  | of {v : V} {t : Value} (h : TyOf K H v t) : TyX K H v t
  | exc {a C : Addr} (c : XCls K C) (h : H a = some (.ext (ExcAt a C))) : TyX K H (.ref a) (.ref C)
theorem isx_ok {A : Around} {E : Value → Shared → Prop} {Q : Value → Shared → Prop} {pins : List (Addr × Obj)} {σ : St} {H : Hp} {s : Shared} {x : V} {u t c : Value} {b : Bool} (I : Inv X pins σ H s) (rx : RelV x u) (ty : TyX X.K H x t)
    (e : PySem.W.kitOne X.K t c = some b) (h : ∀ tk, Q (.bool b) { s with toks := tk }) : wpAny (model X.prog X.w) A (call (.builtin "isinstance") [u, c]) Q E s := by
  cases ty with
  | of ty => exact isinst_ok I rx ty e h
  | @exc a C xc q =>
    cases (show u = Value.ref a from rx)
    exact PySem.W.kia_one (kitx_exc xc) I.kIn (I.hok a _ q).1 e (fun z => nomatch z) h
theorem call_isx {n : V} {c : Value} (rn : ∀ v, RelV n v → v = c) : CallR X (.builtin "isinstance") (fun xs H Q => ∃ x t b, xs = [x, n] ∧ TyX X.K H x t ∧ PySem.W.kitOne X.K t c = some b ∧ Q (.bl b) H) := by
  intro pins s σ H xs us Q I r h
  obtain ⟨x, t, b, rfl, ty, e, q⟩ := h
  obtain ⟨u, v, rfl, r1, r2⟩ := vals2 r
  rw [rn v r2]
  exact isx_ok I r1 ty e fun tk => ⟨.bl b, H, I.tok tk, rfl, q⟩
def isX : Option XC → D → R Bool
  | _, .obj _ _ => .stk
  | _, .any => .stk
  | _, .dct _ _ => .stk
  | some c, .exc d _ => .ok (decide (d = c))
  | none, .exc _ _ => .ok true
  | _, _ => .ok false
def isxE (c : Option XC) (a : FE) : FE := fun ρ => do
  let x ← a ρ
  let b ← isX c x.d
  .ok (sc (.bl b))
def vX (K : PySem.W.Frag) : Option XC → V
  | some c => .ref (clK K c)
  | none => .ty "ValueError"
def valX (K : PySem.W.Frag) : Option XC → Value
  | some c => .ref (clK K c)
  | none => .type "ValueError"
theorem vX_rel {K : PySem.W.Frag} : ∀ c : Option XC, ∀ v, RelV (vX K c) v → v = valX K c
  | some _, _, h => h
  | none, _, h => h
theorem kitV {t : String} (h : t ∈ ["NoneType", "bool", "int", "str", "list", "tuple"]) {K : PySem.W.Frag} : PySem.W.kitOne K (.type t) (.type "ValueError") = some false := by
  simp only [List.mem_cons, List.not_mem_nil, or_false] at h
  rcases h with rfl | rfl | rfl | rfl | rfl | rfl <;> rfl
theorem isX_exc {c : Option XC} {d : D} {x : Xc} (h : isX c d = .exc x) : False := by
  cases c <;> cases d <;> simp [isX] at h
theorem GoodR.tyX {K : PySem.W.Frag} {H0 H H' : Hp} {B : Addr → Prop} {v : V} {r : Res} {c : Option XC} {b : Bool} (T : XTab K) (g : GoodR K H0 H H' B v r) (e : isX c r.d = .ok b) : ∃ t, TyX K H' v t ∧ PySem.W.kitOne K t (valX K c) = some b := by
  cases k : r.d with
  | obj n ds => rw [k] at e; cases c <;> simp [isX] at e
  | dct n ds => rw [k] at e; cases c <;> simp [isX] at e
  | any => rw [k] at e; cases c <;> simp [isX] at e
  | exc d ds =>
    have := g.shr_of (by rw [k]; rfl)
    rw [k] at this
    obtain ⟨_, a, rfl, q⟩ := this
    refine ⟨_, .exc (T.cl d) (cut_some.mp q).2, ?_⟩
    rw [k] at e
    cases c with
    | none => simp [isX] at e; subst e; exact T.xv d
    | some c => simp only [isX, R.ok.injEq] at e; rw [← e]; exact T.xx c d
  | _ =>
    have ty : TyOf K H' v (.type (tyD r.d)) := g.ty (by rw [k]; exact fun _ _ z => by cases z) (by rw [k]; exact fun _ _ z => by cases z) (by rw [k]; exact fun z => by cases z) (by rw [k]; exact fun _ _ z => by cases z)
    rw [k] at e ty
    refine ⟨_, .of ty, ?_⟩
    cases c with
    | none => simp [isX] at e; subst e; exact kitV (by simp [tyD])
    | some c => simp [isX] at e; subst e; exact T.tx _ (by simp [tyD]) c
theorem m_isx {c : Option XC} {y : Str} {p2 : Pos} (T : XTab X.K) (hg : Gl X "isinstance") (hm : X.mg "isinstance" = none) (ha : PE X a (tE X.K P f)) (hb : PE X (.Name y p2) (tC (vX X.K c))) (he : starEach [a, .Name y p2] X.env = [(false, eval a X.env), (false, eval (.Name y p2) X.env)] := by rfl)
    (he2 : starEach [.Name y p2] X.env = [(false, eval (.Name y p2) X.env)] := by rfl) : PE X (.Call (.Name "isinstance" p) [a, .Name y p2] [] pos) (tE X.K P (isxE c f)) := by
  refine PE.imp (pe_callB (call_isx (vX_rel (K := X.K) c)) hg hm (by decide +kernel) (pa_cons ha (pa_cons hb pa_nil he2) (by rw [he, he2])) (he := by rw [he, he2]) (hpl := by rw [he2]; rfl)) ?_
  intro σ H Q h
  refine t1 (q := fun v H1 => ∃ x t b, [v, vX X.K c] = [x, vX X.K c] ∧ TyX X.K H1 x t ∧ PySem.W.kitOne X.K t (valX X.K c) = some b ∧ Q (.bl b) H1) h ?_
  intro H0 B ρ v H' r d g s h
  cases e : isX c r.d with
  | stk => simp [e] at h
  | exc x => exact (isX_exc e).elim
  | ok b =>
    simp only [e, R.ok_bind] at h
    obtain ⟨t, ty, kk⟩ := g.tyX T e
    exact ⟨v, t, b, rfl, ty, kk, h _ H' (Same.refl _) (GoodR.sc (show Rep _ _ (.bl _) _ from rfl))⟩
end Mir
set_option Elab.async false
set_option linter.all false
set_option maxRecDepth 100000
set_option maxHeartbeats 1000000
namespace Mir
open PySem L2
variable {X : Cx} {P : XP} {pins : List (Addr × Obj)} {σ : St} {H H' : Hp} {s s' : Shared} {ea C : Addr}
abbrev reC (X : Cx) (A : Around) (cm : Bool) (pn : List (Addr × Obj)) (xe : Value → Shared → Prop) : Cx := { X with A := A, calm := cm, pn := pn, xe := xe }
theorem invRe {A : Around} {cm : Bool} {pn pins' : List (Addr × Obj)} {xe : Value → Shared → Prop} (I : Inv X pins σ H s) (hA : A.frames = X.A.frames) (hc : cm = true → A.handled = none) (hp : ∀ p ∈ pn ++ pins', p ∈ X.pn ++ pins) : Inv (reC X A cm pn xe) pins' σ H s :=
  have k := I.ok
  ⟨⟨k.mod, k.kind, k.glob, k.blt, k.above, k.inj, k.has, k.cab, hc, hA.trans k.frames, k.stk, k.exf, k.bs, k.bsz, k.noex, k.exfs, k.funs, k.frf⟩, I.os, I.bare, I.base, I.loc, I.cell, I.free, I.freeC, fun p h => I.pin p (hp p h), I.hok, I.len⟩
theorem invBack {A : Around} {cm : Bool} {pn pins' : List (Addr × Obj)} {xe : Value → Shared → Prop} (I : Inv (reC X A cm pn xe) pins' σ H s) (hA : A.frames = X.A.frames) (hc : X.calm = true → X.A.handled = none) (hp : ∀ p ∈ X.pn ++ pins, p ∈ pn ++ pins') : Inv X pins σ H s :=
  have k := I.ok
  ⟨⟨k.mod, k.kind, k.glob, k.blt, k.above, k.inj, k.has, k.cab, hc, hA.symm.trans k.frames, k.stk, k.exf, k.bs, k.bsz, k.noex, k.exfs, k.funs, k.frf⟩, I.os, I.bare, I.base, I.loc, I.cell, I.free, I.freeC, fun p h => I.pin p (hp p h), I.hok, I.len⟩
section
variable {Pg : Program} {w : World} {l : List PySem.Env} {M : Model} {A : Around} {E : Value → Shared → Prop} {R : Shared → Prop}
theorem Fly.at {h' Bh : Heap} {a0 : Value} (F : Fly Pg w l H s ea C H' s') (fl : Heap.FlyingW Bh l ea (.ref C) a0 s'.heap) (cov : ∀ b o o', s.heap.get? b = some o → b ∉ frs l → s'.heap.get? b = some o' → Bh.get? b = some o')
    (trk : ∀ b u o', H' b = some u → s'.heap.get? b = some o' → Bh.get? b = some o') (fl' : Heap.FlyingW Bh l ea (.ref C) a0 h') (up : s'.heap.UpToSlots h') : Fly Pg w l H s ea C H' { s' with heap := h' } := by
  have same : ∀ b o1 o', Bh.get? b = some o1 → h'.get? b = some o' → o1 = o' := fun b o1 o' q e => Option.some.inj ((fl'.1 _ _ q).symm.trans e)
  refine ⟨F.os, F.bare, hok_fly F.hok trk fl'.1, un_fly F.un F.hok cov trk fl'.1 fun b o hb q => ?_, F.new, F.unt, a0, Bh, fl', fun b o o' e n q => ?_, fun b u o' e q => ?_⟩
  · obtain ⟨_, o1, e1, nf⟩ := fl.2.2.1.mem (b := b) hb
    rw [q] at e1; cases e1
    exact up b o q nf
  · obtain ⟨o1, e1⟩ := F.un.there b o e (by simp)
    have q1 := cov b o o1 e n e1
    exact same b o1 o' q1 q ▸ q1
  · obtain ⟨o1, e1⟩ := ObjOk.there (F.hok b u e)
    have q1 := trk b u o1 e e1
    exact same b o1 o' q1 q ▸ q1
theorem Fly.lands {env : PySem.Env} {outer : List PySem.Env} {L : Addr} (F : Fly Pg w (env :: outer) H s ea C H' s') (hA : A.frames = some (env :: outer)) (hf : env.frame = some L) (q : ∀ h', Fly Pg w (env :: outer) H s ea C H' { s' with heap := h' } → R { s' with heap := h' }) :
    wpAny M A (noteFrame (.ref ea) env) (fun _ s3 => wpAny M A (setFlight (.ref ea) none) (fun _ s4 => R s4) E s3) E s' := by
  obtain ⟨a0, Bh, fl, cov, trk⟩ := id F.fly
  refine wpAny_looks_onW hA hf fl fun h1 x1 u1 => wpAny_landsW x1 fun h2 x2 u2 => ?_
  exact q h2 (F.at fl cov trk x2 (u1.trans u2))
theorem Fly.again (F : Fly Pg w l H s ea C H' s') (q : ∀ h', Fly Pg w l H s ea C H' { s' with heap := h' } → R { s' with heap := h' }) : wpAny M A (setFlight (.ref ea) none) (fun _ s4 => R s4) E s' := by
  obtain ⟨a0, Bh, fl, cov, trk⟩ := id F.fly
  exact PyProof.Rows.lands_againW fl fun h1 x1 u1 => q h1 (F.at fl cov trk x1 u1)
theorem Fly.exc (F : Fly Pg w l H s ea C H' s') : ExcAt ea C s'.heap := by
  obtain ⟨a0, Bh, fl, _, _⟩ := F.fly
  obtain ⟨o, vs, e1, e2, e3, _⟩ := fl.first
  exact ⟨o, e1, e2, by unfold PySem.W.notCls; rw [e3]⟩
end
theorem Fly.inv (F : Fly X.prog X.w X.stack H s ea C H' s') (I : Inv X pins σ H s) : Inv X pins σ H' s' := I.call' (ch := []) F.os F.un F.hok F.bare fun b z => absurd z (by simp)
theorem Inv.track {φ : Heap → Prop} (I0 : Inv X pins σ H s) (I : Inv X pins σ H' s') (hx : X.ex = []) (new : s.heap.get? ea = none) (unt : H' ea = none) (ok : φ s'.heap) (st : ∀ h1 h2 : Heap, φ h1 → (∀ o, h1.get? ea = some o → h2.get? ea = some o) → φ h2) (at_ : ∃ o, s'.heap.get? ea = some o) :
    Inv X pins σ (upd H' ea (.ext φ)) s' := by
  have old : ∀ b o, s.heap.get? b = some o → b ≠ ea := fun b o e z => by rw [z, new] at e; cases e
  have old0 : ∀ b o, X.s₀.heap.get? b = some o → b ≠ ea := fun b o e => by
    obtain ⟨o1, e1⟩ := I0.base.there b o e (by rw [hx]; simp)
    exact old b o1 e1
  have ne : ∀ b u, H' b = some u → b ≠ ea := fun b u e z => by rw [z, unt] at e; cases e
  have keep : ∀ b u, H' b = some u → upd H' ea (.ext φ) b = some u := fun b u e => by rw [upd_ne (ne b u e)]; exact e
  have bs := I.base
  refine ⟨I.ok, I.os, I.bare, ⟨bs.keep, bs.slot, fun b o e n hb => ?_, bs.there, fun b xs e => keep _ _ (bs.tups b xs e), fun b o u e => keep _ _ (bs.frzs b o u e), fun b ps e => ?_⟩, I.loc, I.cell, ?_, fun x c e => ?_, fun p hp => ?_, fun b u e => ?_, I.len⟩
  · rw [upd_ne (old0 b o e)]; exact bs.free b o e n hb
  · obtain ⟨more, q⟩ := bs.tbls b ps e
    exact ⟨more, keep _ _ q⟩
  · obtain ⟨m, ⟨o, _, _, e, _⟩, _⟩ := I0.loc
    rw [upd_ne (old _ o e)]; exact I.free
  · obtain ⟨v, o, q, _⟩ := I0.cell x c e
    rw [upd_ne (old _ o q)]; exact I.freeC x c e
  · obtain ⟨q1, q2, q3⟩ := I.pin p hp
    rw [upd_ne (old _ _ (I0.pin p hp).1)]
    exact ⟨q1, q2, q3⟩
  · by_cases z : b = ea
    · subst z
      rw [upd_same] at e
      cases e
      exact ⟨ok, at_, st⟩
    · rw [upd_ne z] at e
      exact (I.hok b u e).stay (fun _ _ _ q => q) (fun c q => keep _ _ q) fun c xs q => keep _ _ q
structure XTop (K : PySem.W.Frag) (T : Addr) : Prop where
  ty : PySem.W.typeIn K (.ref T) = some (.type "type")
  is : (PySem.W.clsIn K T).isSome = true
  be : PySem.W.subIn K (.ref T) (.type "BaseException") = some true
  xs : ∀ c : XC, PySem.W.subIn K (.ref (clK K c)) (.ref T) = some true
theorem xmatch {M : Model} {A : Around} {E : Value → Shared → Prop} {K : PySem.W.Frag} {T : Addr} {c : XC} {Q : Bool → Shared → Prop} (t : XTop K T) (X : K.In s.heap) (I : ExcAt ea (clK K c) s.heap) (q : Q true s) : wpAny M A (excMatches (.ref ea) (.ref T)) Q E s := by
  have l0 := I.type (M := M)
  have l1 := PySem.W.looks_typeIn (M := M) X t.ty
  have l2 := PySem.W.looks_subIn (M := M) X t.be
  have l3 := PySem.W.looks_subIn (M := M) X (t.xs c)
  have f := tc_notTuple
  obtain ⟨k, d, cd, sl, e⟩ := cls_obj t.is
  have e' := X _ _ e
  obtain ⟨h, g, dr, tk, os⟩ := s
  unfold excMatches
  repeat (first | assumption | with_reducible refine l0.at ?_ | with_reducible refine l1.at ?_ | with_reducible refine l2.at ?_ | with_reducible refine l3.at ?_ | with_reducible refine wpAny_loadPart_at e' ?_ | wp_step)
end Mir
set_option Elab.async false
set_option linter.all false
set_option maxRecDepth 100000
set_option maxHeartbeats 1000000
namespace Mir
open PySem L2
variable {X : Cx} {P : XP} {pins : List (Addr × Obj)} {σ : St} {H H' : Hp} {s s' : Shared} {ea C : Addr}
theorem DenS.unset {K : PySem.W.Frag} {H0 H : Hp} {T : Addr → Prop} {σ : St} {ρ : Env} (k : Nat) (d : DenS K H0 H T σ ρ) : DenS K H0 H T (σ.set k none) (ρ.set k none) ∧ ∀ a, ownd (σ.set k none) (ρ.set k none) a → ownd σ ρ a := by
  have own : ∀ j a, ownAt (σ.set k none) (ρ.set k none) j a → k ≠ j ∧ ownAt σ ρ j a := fun j a ⟨h1, e, h2, h3⟩ => by
    by_cases hj : k = j
    · subst hj
      rw [List.getElem?_set] at h2
      split at h2 <;> simp_all
    · rw [List.getElem?_set_ne hj] at h1 h2
      exact ⟨hj, h1, e, h2, h3⟩
  have sub : ∀ a, ownd (σ.set k none) (ρ.set k none) a → ownd σ ρ a := fun a ⟨j, h⟩ => ⟨j, (own j a h).2⟩
  have subB : ∀ a, Bs T (σ.set k none) (ρ.set k none) a → Bs T σ ρ a := fun a z => z.imp (sub a) id
  refine ⟨⟨⟨by rw [List.length_set, List.length_set]; exact d.e.len, d.e.sam, fun b z => d.e.bnd b (subB b z), fun j e he => ?_⟩, fun a z => d.sep a (sub a z), fun i j a h1 h2 => d.dis i j a (own i a h1).2 (own j a h2).2⟩, sub⟩
  have hj : k ≠ j := fun z => by
    subst z
    rw [List.getElem?_set] at he
    split at he <;> simp_all
  rw [List.getElem?_set_ne hj] at he
  obtain ⟨w, q1, q2⟩ := d.e.ent j e he
  refine ⟨w, by rw [List.getElem?_set_ne hj]; exact q1, q2.to d.e.sam (fun _ _ q _ => q) (fun b o q _ k1 k2 => ⟨q, .inl ⟨j, ?_⟩⟩) fun b z => .inl (subB b z)⟩
  exact ⟨by rw [List.getElem?_set_ne hj, q1, k2], e, by rw [List.getElem?_set_ne hj]; exact he, k1⟩
theorem Inv.unset {h' : Heap} {m m' : Str → Option Value} {k : Nat} {n : Str} (I : Inv X pins σ H s) (hN : X.N.Nodup) (hk : X.N[k]? = some n) (hn : s.heap.Ns X.env.locals m)
    (look : ∀ (i : Nat) (x : Str) (v : V), X.N[i]? = some x → σ[i]? = some (some v) → Vis X.env.scope x → ∃ u, RelV v u ∧ Look X.env s.heap m x u) (hn' : h'.Ns X.env.locals m') (hm : ∀ x, x ≠ n → m' x = m x) (sb : Heap.SameBut X.env.locals s.heap h') : Inv X pins (σ.set k none) H { s with heap := h' } := by
  have neL : ∀ b o, X.s₀.heap.get? b = some o → b ≠ X.env.locals := fun b o e => Nat.ne_of_lt (Nat.lt_of_lt_of_le (Heap.lt_size e) I.ok.above)
  have kp : ∀ b o, b ≠ X.env.locals → s.heap.get? b = some o → h'.get? b = some o := fun b o z e => (sb.2 b z).trans e
  have nt : ∀ b u, H b = some u → b ≠ X.env.locals := fun b u e z => by rw [z, I.free] at e; cases e
  have bs := I.base
  refine ⟨I.ok, I.os, I.bare, ⟨fun b o e q1 q2 q3 => kp _ _ (neL b o e) (bs.keep b o e q1 q2 q3), fun b o e q1 q2 q3 => ?_, bs.free, fun b o e q => ?_, bs.tups, bs.frzs, bs.tbls⟩, ⟨m', hn', fun i x v e1 e2 e3 => ?_⟩, fun x c e => ?_, I.free, I.freeC, fun p hp => ?_, fun b u e => ?_, by rw [List.length_set]; exact I.len⟩
  · obtain ⟨sl, q⟩ := bs.slot b o e q1 q2 q3
    exact ⟨sl, kp _ _ (neL b o e) q⟩
  · obtain ⟨o', q'⟩ := bs.there b o e q
    exact ⟨o', kp _ _ (neL b o e) q'⟩
  · have ik : k ≠ i := fun z => by
      subst z
      rw [List.getElem?_set] at e2
      split at e2 <;> simp_all
    rw [List.getElem?_set_ne ik] at e2
    have xn : x ≠ n := fun z => by
      subst z
      obtain ⟨l1, q1⟩ := List.getElem?_eq_some_iff.mp e1
      obtain ⟨l2, q2⟩ := List.getElem?_eq_some_iff.mp hk
      exact ik ((List.getElem_inj hN).mp (q2.trans q1.symm))
    obtain ⟨u, r, lk⟩ := look i x v e1 e2 e3
    refine ⟨u, r, ?_⟩
    rcases lk with ⟨a, b⟩ | ⟨a, c, b, o, q1, q2⟩
    · exact .inl ⟨a, by rw [hm x xn]; exact b⟩
    · exact .inr ⟨a, c, b, o, kp _ _ (I.cne x c b) q1, q2⟩
  · obtain ⟨v, o, q1, q2⟩ := I.cell x c e
    exact ⟨v, o, kp _ _ (I.cne x c e) q1, q2⟩
  · obtain ⟨q1, q2, q3, q4⟩ := I.pin p hp
    exact ⟨kp _ _ q3 q1, q2, q3, q4⟩
  · refine (I.hok b u e).stay (fun c v z q => kp c v ?_ q) (fun _ q => q) fun _ _ q => q
    rcases z with z | z
    · rw [z]; exact nt b u e
    · exact nt c _ z
theorem goes {M : Model} {A : Around} {E : Value → Shared → Prop} {R : Shared → Prop} {k : Nat} {n : Str} {pos : Pos} (I : Inv X pins σ H s) (hN : X.N.Nodup) (hk : X.N[k]? = some n) (hl : X.env.kindOf n = some .local) (hl' : X.env.scope.names.lookup n = some .local)
    (q : ∀ s', Inv X pins (σ.set k none) H s' → R s') : wpAny M A (do bindName X.env n .none; unbindBehindTheSuite X.env n pos) (fun _ s1 => R s1) E s := by
  refine wpAny_bind (wpAny_bindName (store_ok I hN hk (.inl hl') (v := .non) rfl (fun s1 I1 => ?_) (.inr hl')))
  have kl : k < σ.length := by rw [I.len]; exact (List.getElem?_eq_some_iff.mp hk).1
  obtain ⟨m, hn, look⟩ := id I1.loc
  obtain ⟨u, r, lk⟩ := look k n .non hk (List.getElem?_set_self kl) (.inl hl')
  have hv : m n = some u := by
    rcases lk with ⟨_, e⟩ | ⟨e | e, _⟩
    · exact e
    · rw [hl] at e; cases e
    · rw [hl] at e; cases e
  refine wpAny_onRaise (wpAny_unbindName_local hl hn hv (by rw [I.ok.kind]; rfl) fun h' w ns sb => ?_)
  have := Inv.unset I1 hN hk hn look ns (fun x hx => if_neg hx) sb
  rw [List.set_set] at this
  exact q _ this
def tryS (i k : Nat) (F : FS) : FS := fun ρ => match F ρ with
  | .exc x ρ1 => if x.ds = [] then .nx ((ρ1.set i (some (sc (.exc x.c [])))).set k none) else .stk
  | r => r
def PTr (K : PySem.W.Frag) (D : Ends) (i k : Nat) : XP where
  p x σ H := x.ds = [] ∧ ∀ H' a, Same H H' → H' a = none → D.nx ((σ.set i (some (.ref a))).set k none) (upd H' a (.ext (ExcAt a (clK K x.c))))
  mono h s := ⟨h.1, fun H' a s' n => h.2 H' a (s.trans s') n⟩
theorem set3 {α : Type} {l : List α} {i k : Nat} {a b c : α} (h : i ≠ k) : ((l.set k a).set i b).set k c = (l.set i b).set k c := by
  rw [List.set_comm _ _ (Ne.symm h), List.set_set]
section
variable {i k : Nat} {y n cx : Str} {np p1 p2 p3 hpos pos : Pos} {T : Addr}
abbrev clause (cx n y : Str) (np p1 p2 p3 hpos : Pos) : ExceptHandler := .ExceptHandler (some (.Name cx np)) (some n) [.Assign [.Name y p1] (.Name n p2) p3] hpos
theorem caught {D : Ends} {x : Xc} {pn pins2 : List (Addr × Obj)} {xe : Value → Shared → Prop} (hx : X.ex = []) (hst : X.stack = X.env :: X.outer) (hf : X.env.frame = some X.env.locals) (t : XTop X.K T) (hg : Gl X cx) (hm : X.mg cx = some (.ref T))
    (hN : X.N.Nodup) (hi : X.N[i]? = some y) (hk : X.N[k]? = some n) (hik : i ≠ k) (ly : X.env.scope.names.lookup y = some .local) (ln : X.env.scope.names.lookup n = some .local) (kn : X.env.kindOf n = some .local)
    (hs : swapsWith (.Name n p2) (some (.Name y p1)) p3.line X.env = pure false) (d1 : (cx == ("__debug__" : Str)) = false) (d2 : (n == ("__debug__" : Str)) = false) (d3 : (n == ("__classdict__" : Str)) = false)
    (hp : ∀ p ∈ X.pn ++ pins, p ∈ pn ++ pins2) (I : Inv (reC X X.A X.calm pn xe) pins2 σ H s) (F : Fly X.prog X.w X.stack H s ea (clK X.K x.c) H' s') (px : (PTr X.K D i k).p x σ H') :
    wpAny (model X.prog X.w) X.A (noteFrame (.ref ea) X.env) (fun _ s2 => wpAny (model X.prog X.w) X.A (setFlight (.ref ea) none) (fun _ s3 => wpAny (model X.prog X.w) X.A (handleBy (.ref ea) X.env [clause cx n y np p1 p2 p3 hpos]) (SP X pins D) X.xe s3) X.xe s2) X.xe s' := by
  have fr : X.A.frames = some (X.env :: X.outer) := by rw [← hst]; exact I.ok.frames
  rw [hst] at F
  refine Fly.lands F fr hf fun h4 F4 => ?_
  rw [← hst] at F4
  have I4 := Fly.inv (X := reC X X.A X.calm pn xe) F4 I
  refine wpAny_handleBy_cons (codeAny_handlers_test ?_) fun z => nomatch z
  refine ld_glob (X := reC X (X.A.mark (some (.ref ea))) false pn xe) (invRe (X := reC X X.A X.calm pn xe) I4 rfl (fun z => nomatch z) fun _ z => z) hg hm ?_ d1
  refine xmatch t I4.kIn F4.exc ?_
  refine codeAny_handlers_suite_as (Fly.again F4 fun h5 F5 => ?_)
  have I5 := Fly.inv (X := reC X X.A X.calm pn xe) F5 I
  have I6 := Inv.track I I5 hx F5.new F5.unt F5.exc (fun h1 h2 a b => a.stay b) (let ⟨o, e, _⟩ := F5.exc; ⟨o, e⟩)
  refine store_ok (X := reC X X.A X.calm pn xe) I6 hN hk (.inl ln) (v := .ref ea) rfl (fun s7 I7 => ?_) (.inr ln)
  have kl : k < List.length σ := by rw [I.len]; exact (List.getElem?_eq_some_iff.mp hk).1
  refine thn (pss_one (ps_set (X := reC X (X.A.mark (some (.ref ea))) false pn _) hN hi (.inl ly) (pe_var hk (.inl ln) d2 d3) hs (.inr ly)) pins2 s7 _ _
    ⟨fun σ8 H8 => σ8 = (σ.set k (some (.ref ea))).set i (some (.ref ea)) ∧ H8 = upd H' ea (.ext (ExcAt ea (clK X.K x.c))), fun _ _ => False, fun _ _ => False, fun _ _ => False⟩
    (invRe (X := reC X X.A X.calm pn xe) I7 rfl (fun z => nomatch z) fun _ z => z) ⟨.ref ea, List.getElem?_set_self kl, rfl, rfl⟩) fun f s8 q => ?_
  cases f with
  | next =>
    obtain ⟨_, _, I8, rfl, rfl⟩ := q
    have I9 : L2.Inv X pins _ _ s8 := invBack I8 rfl I.ok.hd hp
    refine goes I9 hN hk kn ln fun s9 I10 => ⟨_, _, I10, ?_⟩
    rw [set3 hik]
    exact px.2 H' ea (Same.refl _) F5.unt
  | brk => obtain ⟨_, _, _, z⟩ := q; exact z.elim
  | cont => obtain ⟨_, _, _, z⟩ := q; exact z.elim
  | ret v => obtain ⟨_, _, _, _, _, z⟩ := q; exact z.elim
theorem m_try {body : List Stmt} {F : FS} (hx : X.ex = []) (hst : X.stack = X.env :: X.outer) (hf : X.env.frame = some X.env.locals) (t : XTop X.K T) (hg : Gl X cx) (hm : X.mg cx = some (.ref T))
    (hN : X.N.Nodup) (hi : X.N[i]? = some y) (hk : X.N[k]? = some n) (hik : i ≠ k) (ly : X.env.scope.names.lookup y = some .local) (ln : X.env.scope.names.lookup n = some .local) (kn : X.env.kindOf n = some .local)
    (hb : ∀ (pn : List (Addr × Obj)) (xe : Value → Shared → Prop) (P' : XP), Thr (CXM X.prog X.w) (clK X.K) (reC X X.A X.calm pn xe) P' → PassesOwn (model X.prog X.w) X.A X.env xe → PSs (reC X X.A X.calm pn xe) body (tS X.K P' F))
    (hs : swapsWith (.Name n p2) (some (.Name y p1)) p3.line X.env = pure false := by rfl) (d1 : (cx == ("__debug__" : Str)) = false := by decide) (d2 : (n == ("__debug__" : Str)) = false := by decide) (d3 : (n == ("__classdict__" : Str)) = false := by decide) :
    PS X (.Try body [clause cx n y np p1 p2 p3 hpos] [] [] pos) (tS X.K P (tryS i k F)) := by
  intro pins s σ H D I h
  obtain ⟨H0, W, ρ, d, h⟩ := h
  refine wpAny_Try_except ?_
  have run := hb (X.pn ++ pins) (fun e s1 => wpAny (model X.prog X.w) X.A (noteFrame e X.env) (fun _ s2 => wpAny (model X.prog X.w) X.A (setFlight e none) (fun _ s3 => wpAny (model X.prog X.w) X.A (handleBy e X.env [clause cx n y np p1 p2 p3 hpos]) (SP X pins D) X.xe s3) X.xe s2) X.xe s1) (PTr X.K D i k) (fun pins2 σ2 H2 s2 e s3 I2 z => by
    obtain ⟨ea, C, H3, rfl, Fl, x, hC, px⟩ := z
    cases hC
    exact caught hx hst hf t hg hm hN hi hk hik ly ln kn hs d1 d2 d3 (fun p z => List.mem_append_left _ z) I2 Fl px) (PassesOwn.looking (K := fun e s2 => wpAny (model X.prog X.w) X.A (setFlight e none) (fun _ s3 => wpAny (model X.prog X.w) X.A (handleBy e X.env [clause cx n y np p1 p2 p3 hpos]) (SP X pins D) X.xe s3) X.xe s2)) [] s σ H D (invRe I rfl I.ok.hd (by simp)) ⟨H0, W, ρ, d, ?_⟩
  · have back : ∀ {σ' H' s1 xe}, L2.Inv (reC X X.A X.calm (X.pn ++ pins) xe) [] σ' H' s1 → L2.Inv X pins σ' H' s1 := fun J => invBack J rfl I.ok.hd (by simp)
    refine wpAny_mono run (fun f s1 q => ?_) fun _ _ z => z
    cases f with
    | next => obtain ⟨σ1, H1, J, q⟩ := q; exact wpAny_execs_nil ⟨σ1, H1, back J, q⟩
    | brk => obtain ⟨σ1, H1, J, q⟩ := q; exact ⟨σ1, H1, back J, q⟩
    | cont => obtain ⟨σ1, H1, J, q⟩ := q; exact ⟨σ1, H1, back J, q⟩
    | ret v => obtain ⟨u, σ1, H1, J, q⟩ := q; exact ⟨u, σ1, H1, back J, q⟩
  · unfold tryS at h
    cases e : F ρ with
    | exc x ρ1 =>
      rw [e] at h
      dsimp only at h
      by_cases z : x.ds = []
      · rw [if_pos z] at h
        intro σ1 H1 d1 x1
        refine ⟨z, fun H2 a s2 na => ?_⟩
        have s3 : Same H2 (upd H2 a (.ext (ExcAt a (clK X.K x.c)))) := fun b o q => by rw [upd_ne (ne_of_none q na)]; exact q
        have d3 := d1.mono (s2.trans s3)
        have nb : ∀ o, (upd H2 a (.ext (ExcAt a (clK X.K x.c)))) a = some o → stab o = true := fun o q => by rw [upd_same] at q; cases q; rfl
        have d4 := d3.set_shr (i := i) (v := .ref a) (fr := true) (dd := .exc x.c []) ⟨rfl, a, rfl, cut_some.mpr ⟨fun q => ?_, upd_same⟩⟩
        · have d5 := d4.1.unset k
          exact h _ _ d5.1 ((x1.trans (Ext.same (s2.trans s3))).trans ⟨fun _ _ q _ => q, fun b q => .inl (d4.2 b (d5.2 b q))⟩)
        · rcases q with q | ⟨_, o, q1, q2⟩
          · obtain ⟨o, q1, q2⟩ := d3.e.bnd a q
            rw [nb o q1] at q2; cases q2
          · rw [nb o (d3.e.sam a o q1)] at q2; cases q2
      · rw [if_neg z] at h
        exact h.elim
    | _ => rw [e] at h; exact h
end
structure XAll (K : PySem.W.Frag) (mg : Str → Option Value) (T : Addr) : Prop where
  flat : mg "FlatError" = some (.ref T)
  top : XTop K T
  tab : XTab K
  nm : ∀ c : XC, mg c.nm = some (.ref (clK K c))
  ex : ∀ c : XC, c ≠ .BadRows → c ≠ .NoBox → PySem.W.excIn K (clK K c) bmV "ValueError.__new__" = true
end Mir
set_option Elab.async false
set_option linter.all false
set_option maxRecDepth 100000
set_option maxHeartbeats 1000000
namespace Mir
open PySem L2
variable {K : PySem.W.Frag}
def noL (K : PySem.W.Frag) : Bool := K.all fun p => !(p.2.cls == Value.type "list")
theorem noL_of (h : noL K = true) {a : Addr} {o : Obj} (e : K.lookup a = some o) : o.cls ≠ .type "list" := fun c => by
  have m : (a, o) ∈ K := by
    clear h c
    induction K with
    | nil => cases e
    | cons p r ih =>
      obtain ⟨b, u⟩ := p
      rw [List.lookup_cons] at e
      cases q : a == b with
      | true => rw [q] at e; cases e; rw [eq_of_beq q]; exact List.mem_cons_self
      | false => rw [q] at e; exact List.mem_cons_of_mem _ (ih e)
  have := List.all_eq_true.mp h _ m
  rw [c] at this
  simp at this
theorem reps_ints {G : Hp} : ∀ ns : List Int, Reps K G (ns.map .int) (ns.map V.int)
  | [] => rfl
  | n :: r => ⟨.int n, r.map V.int, rfl, rfl, reps_ints r⟩
theorem law_sp {φ : Φ} {H : Hp} {a : Addr} {ns : List Int} (hL : noL K = true) (h : φ [.lst (ns.map .int)] = .ok (sc (.bl true))) (hS : SqL K H a (ns.map V.int)) : spM K (clK K) φ [.ref a] H (fun v _ => v = .bl true) fun _ _ _ => False := by
  have rd : Rd H a (.lst (ns.map V.int)) := by
    rcases hS with q | ⟨o, its, n, e, c, _⟩
    · exact q
    · exact absurd c (noL_of hL e)
  refine ⟨[.lst (ns.map .int)], fun _ => False, fun _ z => z.elim, ⟨.ref a, [], rfl, ⟨a, ns.map V.int, rfl, ?_, reps_ints ns⟩, rfl⟩, ?_⟩
  · rcases rd with q | ⟨o, q⟩
    · exact .inl (cut_some.mpr ⟨fun z => z, q⟩)
    · exact .inr ⟨o, cut_some.mpr ⟨fun z => z, q⟩⟩
  · rw [h]
    exact fun v H' _ r => r
def XC.tab (a1 a2 a3 a4 a5 a6 a7 a8 a9 a10 a11 a12 a13 a14 : Addr) : XC → Addr
  | .NotAlike => a1 | .BadCount => a2 | .BadRows => a3 | .BadRow => a4 | .OtherSpace => a5 | .BadSize => a6 | .BadPlaces => a7 | .ZeroSum => a8 | .NoBox => a9 | .BadTable => a10 | .NoLine => a11 | .BadName => a12 | .NoRow => a13 | .NoName => a14
theorem kit_ref {t : Value} {C : Addr} {b : Bool} (n : t ≠ .ref C) (h1 : (PySem.W.clsIn K C).isSome = true) (h2 : PySem.W.typeIn K (.ref C) = some (.type "type")) (h3 : PySem.W.subIn K t (.ref C) = some b) : PySem.W.kitOne K t (.ref C) = some b := by
  unfold PySem.W.kitOne
  rw [if_neg (fun z => n (beq_iff_eq.mp z))]
  show (if ((PySem.W.clsIn K C).isSome && PySem.W.typeIn K (.ref C) == some (.type "type")) = true then PySem.W.subIn K t (.ref C) else none) = some b
  rw [if_pos (by rw [h1, h2]; rfl)]
  exact h3
abbrev topM (T : Addr) : List Value := [.ref T, .type "ValueError", .type "Exception", .type "BaseException", .type "object"]
structure XOne (K : PySem.W.Frag) (T : Addr) (n : Str) (C : Addr) : Prop where
  ns : PySem.W.nsIn K mainGlobals n = some (some (.ref C))
  lk : ∃ od cd sl, K.lookup C = some ⟨.type "type", od, .cls cd, sl⟩ ∧ cd.mro = .ref C :: topM T
  ga : PySem.W.findIn K (.ref C) "__getattribute__" = some (some (.builtin "BaseException.__getattribute__"))
  gh : PySem.W.findIn K (.ref C) "__getattr__" = some none
  cl : PySem.W.findIn K (.ref C) "__class__" = some (some (.builtin "object.__class__"))
structure XFlat (K : PySem.W.Frag) (T : Addr) : Prop where
  ns : PySem.W.nsIn K mainGlobals "FlatError" = some (some (.ref T))
  lk : ∃ od cd sl, K.lookup T = some ⟨.type "type", od, .cls cd, sl⟩ ∧ cd.mro = topM T
section
variable {T C : Addr} {n : Str} {l : List Value}
theorem cls_lk {od : Option Addr} {cd : ClassData} {sl : Array (Option Value)} (e : K.lookup C = some ⟨.type "type", od, .cls cd, sl⟩) : PySem.W.clsIn K C = some cd := by unfold PySem.W.clsIn; rw [e]
theorem ty_lk {o : Obj} (e : K.lookup C = some o) : PySem.W.typeIn K (.ref C) = some o.cls := by
  show (K.lookup C).map (·.cls) = _
  rw [e]; rfl
theorem mro_lk {v : Value} (h : ∃ od cd sl, K.lookup C = some ⟨.type "type", od, .cls cd, sl⟩ ∧ cd.mro = l) (ne : l ≠ []) : PySem.W.mroIn K C v = some (l.contains v) := by
  obtain ⟨od, cd, sl, e, m⟩ := h
  unfold PySem.W.mroIn
  rw [cls_lk e, Option.bind_some, m, if_neg (by simpa using ne)]
theorem is_lk (h : ∃ od cd sl, K.lookup C = some ⟨.type "type", od, .cls cd, sl⟩ ∧ cd.mro = l) : (PySem.W.clsIn K C).isSome = true := by
  obtain ⟨od, cd, sl, e, m⟩ := h
  rw [cls_lk e]; rfl
theorem typ_lk (h : ∃ od cd sl, K.lookup C = some ⟨.type "type", od, .cls cd, sl⟩ ∧ cd.mro = l) : PySem.W.typeIn K (.ref C) = some (.type "type") := by
  obtain ⟨od, cd, sl, e, m⟩ := h
  exact ty_lk e
end
theorem xall_of {mg : Str → Option Value} {h : Heap} {T : Addr} {A : XC → Addr} (X : K.In h) (G : h.Ns mainGlobals mg) (t : XFlat K T) (o : ∀ c : XC, XOne K T c.nm (A c)) (inj : ∀ c d : XC, A c = A d → c = d) (nT : ∀ c, A c ≠ T)
    (ex : ∀ c : XC, c ≠ .BadRows → c ≠ .NoBox → PySem.W.excIn K (A c) bmV "ValueError.__new__" = true) : XAll K mg T := by
  have e : ∀ c, clK K c = A c := fun c => by unfold clK; rw [(o c).ns]
  refine ⟨PySem.W.mg_of X G t.ns, ⟨typ_lk t.lk, is_lk t.lk, ?_, fun c => ?_⟩, ⟨fun c => ?_, fun c d => ?_, fun d => ?_, fun n hn c => ?_⟩, fun c => ?_, fun c => ?_⟩
  · exact (mro_lk t.lk (by simp)).trans (by simp)
  · rw [e]; exact (mro_lk (o c).lk (by simp)).trans (by simp)
  · rw [e]
    exact ⟨(o c).ga, (o c).gh, (o c).cl, (mro_lk (o c).lk (by simp)).trans (by simp), (mro_lk (o c).lk (by simp)).trans (by simp), is_lk (o c).lk⟩
  · rw [e, e]
    by_cases z : d = c
    · subst z
      simp [PySem.W.kitOne]
    · refine kit_ref (fun q => z (inj d c (by simpa using q))) (is_lk (o c).lk) (typ_lk (o c).lk) ((mro_lk (o d).lk (by simp)).trans ?_)
      have q1 : A c ≠ A d := fun q => z (inj c d q).symm
      simp [z, q1, nT c]
  · rw [e]
    unfold PySem.W.kitOne
    rw [if_neg (by simp)]
    show (if PySem.W.kitMeta "ValueError" = true then PySem.W.mroIn K (A d) (.type "ValueError") else none) = some true
    rw [if_pos (by decide +kernel)]
    exact (mro_lk (o d).lk (by simp)).trans (by simp)
  · rw [e]
    refine kit_ref (by simp) (is_lk (o c).lk) (typ_lk (o c).lk) ?_
    simp only [List.mem_cons, List.not_mem_nil, or_false] at hn
    rcases hn with rfl | rfl | rfl | rfl | rfl | rfl <;> rfl
  · rw [e]; exact PySem.W.mg_of X G (o c).ns
  · rw [e]; exact ex c
structure XRaw (K : PySem.W.Frag) (T : Addr) (n : Str) (C : Addr) (od : Option Addr) (cd : ClassData) (sl : Array (Option Value)) : Prop where
  ns : PySem.W.nsIn K mainGlobals n = some (some (.ref C))
  lk : K.lookup C = some ⟨.type "type", od, .cls cd, sl⟩
  mro : cd.mro = .ref C :: topM T
  ga : PySem.W.findIn K (.ref C) "__getattribute__" = some (some (.builtin "BaseException.__getattribute__"))
  gh : PySem.W.findIn K (.ref C) "__getattr__" = some none
  cl : PySem.W.findIn K (.ref C) "__class__" = some (some (.builtin "object.__class__"))
structure FRaw (K : PySem.W.Frag) (T : Addr) (od : Option Addr) (cd : ClassData) (sl : Array (Option Value)) : Prop where
  ns : PySem.W.nsIn K mainGlobals "FlatError" = some (some (.ref T))
  lk : K.lookup T = some ⟨.type "type", od, .cls cd, sl⟩
  mro : cd.mro = topM T
theorem XRaw.one {T C : Addr} {n : Str} {od : Option Addr} {cd : ClassData} {sl : Array (Option Value)} (x : XRaw K T n C od cd sl) : XOne K T n C := ⟨x.ns, ⟨od, cd, sl, x.lk, x.mro⟩, x.ga, x.gh, x.cl⟩
theorem xall_mk {mg : Str → Option Value} {h : Heap} {T a1 a2 a3 a4 a5 a6 a7 a8 a9 a10 a11 a12 a13 a14 : Addr} {od0 od1 od2 od3 od4 od5 od6 od7 od8 od9 od10 od11 od12 od13 od14 : Option Addr} {cd0 cd1 cd2 cd3 cd4 cd5 cd6 cd7 cd8 cd9 cd10 cd11 cd12 cd13 cd14 : ClassData} {sl0 sl1 sl2 sl3 sl4 sl5 sl6 sl7 sl8 sl9 sl10 sl11 sl12 sl13 sl14 : Array (Option Value)}
    (X : K.In h) (G : h.Ns mainGlobals mg) (t : FRaw K T od0 cd0 sl0) (o1 : XRaw K T "NotAlike" a1 od1 cd1 sl1) (o2 : XRaw K T "BadCount" a2 od2 cd2 sl2) (o3 : XRaw K T "BadRows" a3 od3 cd3 sl3) (o4 : XRaw K T "BadRow" a4 od4 cd4 sl4) (o5 : XRaw K T "OtherSpace" a5 od5 cd5 sl5) (o6 : XRaw K T "BadSize" a6 od6 cd6 sl6) (o7 : XRaw K T "BadPlaces" a7 od7 cd7 sl7) (o8 : XRaw K T "ZeroSum" a8 od8 cd8 sl8) (o9 : XRaw K T "NoBox" a9 od9 cd9 sl9) (o10 : XRaw K T "BadTable" a10 od10 cd10 sl10) (o11 : XRaw K T "NoLine" a11 od11 cd11 sl11) (o12 : XRaw K T "BadName" a12 od12 cd12 sl12) (o13 : XRaw K T "NoRow" a13 od13 cd13 sl13) (o14 : XRaw K T "NoName" a14 od14 cd14 sl14)
    (e1 : PySem.W.excIn K a1 bmV "ValueError.__new__" = true) (e2 : PySem.W.excIn K a2 bmV "ValueError.__new__" = true) (e4 : PySem.W.excIn K a4 bmV "ValueError.__new__" = true) (e5 : PySem.W.excIn K a5 bmV "ValueError.__new__" = true) (e6 : PySem.W.excIn K a6 bmV "ValueError.__new__" = true) (e7 : PySem.W.excIn K a7 bmV "ValueError.__new__" = true) (e8 : PySem.W.excIn K a8 bmV "ValueError.__new__" = true) (e10 : PySem.W.excIn K a10 bmV "ValueError.__new__" = true) (e11 : PySem.W.excIn K a11 bmV "ValueError.__new__" = true) (e12 : PySem.W.excIn K a12 bmV "ValueError.__new__" = true) (e13 : PySem.W.excIn K a13 bmV "ValueError.__new__" = true) (e14 : PySem.W.excIn K a14 bmV "ValueError.__new__" = true)
    (nd : [T, a1, a2, a3, a4, a5, a6, a7, a8, a9, a10, a11, a12, a13, a14].Nodup) : XAll K mg T := by
  refine xall_of (A := XC.tab a1 a2 a3 a4 a5 a6 a7 a8 a9 a10 a11 a12 a13 a14) X G ⟨t.ns, od0, cd0, sl0, t.lk, t.mro⟩ (fun c => ?_) (fun c d q => ?_) (fun c q => ?_) fun c n1 n2 => ?_
  · cases c <;> exact XRaw.one (by assumption)
  · simp only [List.nodup_cons, List.mem_cons, List.not_mem_nil, or_false, not_or] at nd
    cases c <;> cases d <;> first | rfl | (exfalso; simp only [XC.tab] at q; simp_all)
  · simp only [List.nodup_cons, List.mem_cons, List.not_mem_nil, or_false, not_or] at nd
    cases c <;> (simp only [XC.tab] at q; simp_all)
  · cases c <;> first | assumption | exact absurd rfl n1 | exact absurd rfl n2
structure At (K : PySem.W.Frag) (x : Str) (st : Stmt) (f : Addr) (oc kV doc pm cdv ct : Value) (od an : Option Addr) (sl : Array (Option Value)) : Prop where
  ns : PySem.W.nsIn K mainGlobals x = some (some (.ref f))
  lk : K.lookup f = some ⟨oc, od, .func (PySem.W.fnOf x x (defArgs st) (defBody st) (defScope st) .none kV doc pm an cdv ct), sl⟩
  cd : PySem.W.codeIn K cdv x = true
  kp : PySem.W.keepIn K (.ref f) = true
end Mir
set_option Elab.async false
set_option linter.all false
set_option maxRecDepth 100000
set_option maxHeartbeats 1000000
namespace Mir
open PySem L2
variable {X : Cx} {P : XP} {a b c e : Expr} {es : List Expr} {f g : FE} {fs : FEs} {pos p : Pos}
end Mir
set_option Elab.async false
set_option linter.all false
set_option maxRecDepth 100000
set_option maxHeartbeats 1000000
namespace L2
open PySem PySem.Spec PyProof.Rows
end L2
namespace Mir
open PySem L2
variable {X : Cx} {P : XP} {a b c e : Expr} {es : List Expr} {f g : FE} {fs : FEs} {pos p : Pos}
end Mir
set_option Elab.async false
set_option linter.all false
set_option maxRecDepth 100000
set_option maxHeartbeats 1000000
namespace L2
open PySem PySem.Spec PyProof.Rows
end L2
set_option Elab.async false
set_option linter.all false
set_option maxRecDepth 100000
set_option maxHeartbeats 1000000
namespace Mir
open PySem L2
variable {X : Cx} {P : XP} {a b c e : Expr} {es : List Expr} {f g : FE} {fs : FEs} {pos p : Pos}
theorem GoodR.str {H0 H H' : Hp} {K : PySem.W.Frag} {B : Addr → Prop} {v : V} {r : Res} {i : Str} (g : GoodR K H0 H H' B v r) (e : r.d = .str i) : v = .str i := by
  have := g.shr_of (by rw [e]; rfl)
  rw [e] at this; exact this
end Mir
set_option Elab.async false
set_option linter.all false
set_option maxRecDepth 100000
set_option maxHeartbeats 1000000
namespace Mir
open PySem L2
variable {X : Cx} {P : XP} {a b c e : Expr} {es : List Expr} {f g : FE} {fs : FEs} {pos p : Pos}
end Mir
set_option Elab.async false
set_option linter.all false
set_option maxRecDepth 100000
set_option maxHeartbeats 1000000
namespace Mir
open PySem L2
variable {X : Cx} {P : XP} {a b c e : Expr} {es : List Expr} {f g : FE} {fs : FEs} {pos p : Pos}
theorem Reps.empty {K : PySem.W.Frag} {G : Hp} {ds : List D} {vs : List V} (r : Reps K G ds vs) : vs.isEmpty = ds.isEmpty := by
  have := r.length
  cases ds <;> cases vs <;> simp at this ⊢
end Mir
set_option Elab.async false
set_option linter.all false
set_option maxRecDepth 100000
set_option maxHeartbeats 1000000
namespace Mir
open PySem L2
variable {X : Cx} {P : XP} {a b c e : Expr} {es : List Expr} {f g : FE} {fs : FEs} {pos p : Pos}
variable {st : Stmt} {rest : List Stmt} {F G : FS}
section
variable {Pg : Program} {w : World} {K : PySem.W.Frag} {mg : Str → Option Value} {base : Heap} {cl : XC → Addr} {N : List Str}
end
section
variable {K : PySem.W.Frag} {H0 H H' : Hp} {T : Addr → Prop} {σ σ' : St} {ρ ρ' : Env}
theorem RetOk.base {v : V} {r : Res} (s : Same H0 H) (h : RetOk K H H' T v r) : RetOk K H0 H' T v r := by
  have m : ∀ fr B, Same (cutF fr H H' B) (cutF fr H0 H' B) := fun fr B b o q => let ⟨n, q⟩ := cut_some.mp q; cut_some.mpr ⟨fun z => n (z.imp id fun ⟨h1, o, h2, h3⟩ => ⟨h1, o, s _ _ h2, h3⟩), q⟩
  unfold RetOk at h ⊢
  cases k : r.k with
  | shr => rw [k] at h; exact Rep.same (m _ _) h
  | own => rw [k] at h; obtain ⟨a, o, h1, h2, h3, h4⟩ := h; exact ⟨a, o, h1, s.none h2, h3, h4.same (m _ _)⟩
  | tmp => rw [k] at h; obtain ⟨a, o, h1, h2, h3, h4⟩ := h; exact ⟨a, o, h1, s.none h2, h3, h4.same (m _ _)⟩
  | old => rw [k] at h; obtain ⟨a, o, h1, h2, h3, h4⟩ := h; exact ⟨a, o, h1, s.none h2, h3, h4.same (m _ _)⟩
end
def Inner (H0 H H' : Hp) (B : Addr → Prop) : Prop := ∀ b o, H b = some o → H' b = some o ∨ (stab o = false ∧ H0 b = none ∧ ¬ B b ∧ ∃ o', H' b = some o' ∧ stab o' = false)
theorem Inner.refl {H0 H : Hp} {B : Addr → Prop} : Inner H0 H H B := fun _ _ q => .inl q
end Mir
set_option Elab.async false
set_option linter.all false
set_option maxRecDepth 100000
set_option maxHeartbeats 1000000
namespace Mir
open PySem L2
variable {X : Cx} {P : XP} {a b c e : Expr} {es : List Expr} {f g : FE} {fs : FEs} {pos p : Pos}
def Thaw (H0 H H1 : Hp) : Prop := ∀ b, H1 b = H b ∨ ∃ o xs, H b = some (.frz o (.lst xs)) ∧ H1 b = some (.lst xs) ∧ H0 b = none
theorem Thaw.rd {H0 H H1 : Hp} (t : Thaw H0 H H1) {b : Addr} {xs : List V} (h : Rd H b (.lst xs)) : Rd H1 b (.lst xs) := by
  rcases t b with e | ⟨o, ys, e1, e2, _⟩
  · rcases h with h | ⟨o, h⟩
    · exact .inl (e.trans h)
    · exact .inr ⟨o, e.trans h⟩
  · rcases h with h | ⟨o', h⟩
    · rw [e1] at h; cases h
    · rw [e1] at h; cases h; exact .inl e2
theorem Thaw.ne {H0 H H1 : Hp} (t : Thaw H0 H H1) {b : Addr} {u : HO} (h : H b = some u) (n : ∀ o xs, u ≠ .frz o (.lst xs)) : H1 b = some u := by
  rcases t b with e | ⟨o, ys, e1, e2, _⟩
  · exact e.trans h
  · rw [e1] at h; cases h; exact absurd rfl (n _ _)
theorem Thaw.cut {H0 H H1 : Hp} (t : Thaw H0 H H1) (B : Addr → Prop) : Thaw H0 (Mir.cut H B) (Mir.cut H1 B) := fun b => by
  unfold Mir.cut
  by_cases hb : B b
  · left; simp [hb]
  · simpa [hb] using t b
theorem Reps.any {K : PySem.W.Frag} {G : Hp} : ∀ {ds : List D} {vs : List V}, ds.length = vs.length → Reps K G (ds.map fun _ => .any) vs
  | [], [], _ => rfl
  | [], v :: vr, h => absurd h (by simp)
  | d :: r, [], h => absurd h (by simp)
  | d :: r, v :: vr, h => ⟨v, vr, rfl, True.intro, Reps.any (by simpa using h)⟩
end Mir
set_option Elab.async false
set_option linter.all false
set_option maxRecDepth 100000
set_option maxHeartbeats 1000000
namespace Mir
open PySem L2
abbrev li (xs : List Int) : List D := xs.map .int
theorem seq_nx {s t : FS} {ρ ρ1 : Mir.Env} (h : s ρ = .nx ρ1) : seqS s t ρ = t ρ1 := by simp only [seqS, h]
theorem seq_exc {s t : FS} {ρ ρ1 : Mir.Env} {x : Xc} (h : s ρ = .exc x ρ1) : seqS s t ρ = .exc x ρ1 := by simp only [seqS, h]
theorem for_ok {it : FI} {tg : Tg} {b : FS} {ρ : Mir.Env} {fr : Bool} {ds : List D} (h : it ρ = .ok ⟨true, fr, ds⟩) : forS it tg b ρ = forL tg b fr ds ρ := by simp only [forS, h, R.at, if_true]
theorem def_rt {np n : Nat} {s : FS} {ds : List D} {r : Res} (hl : ds.length = np) (h : s (stE n ds) = .rt r) : defR np n s ds = .ok ⟨r.k, r.fr || r.d.imm, r.d⟩ := by simp only [defR, hl, if_true, h]
theorem def_nx {np n : Nat} {s : FS} {ds : List D} {ρ : Mir.Env} (hl : ds.length = np) (h : s (stE n ds) = .nx ρ) : defR np n s ds = .ok (sc .non) := by simp only [defR, hl, if_true, h]
theorem def_exc {np n : Nat} {s : FS} {ds : List D} {x : Xc} {ρ : Mir.Env} (hl : ds.length = np) (h : s (stE n ds) = .exc x ρ) : defR np n s ds = .exc x := by simp only [defR, hl, if_true, h]
theorem expr_nx {f : FE} {ρ : Mir.Env} {r : Res} (h : f ρ = .ok r) : exprS f ρ = .nx ρ := by simp only [exprS, h, R.at]
theorem set_shr {f : FE} {ρ : Mir.Env} {i : Nat} {fr : Bool} {d : D} (h : f ρ = .ok ⟨.shr, fr, d⟩) : setS i f ρ = .nx (ρ.set i (some ⟨.shr, fr, d⟩)) := by simp only [setS, h, R.at, Res.keep]
theorem if_bT {f : FE} {A B : FS} {ρ : Mir.Env} {b : Bool} {k : Kd} {fr : Bool} (h : f ρ = .ok ⟨k, fr, .bl b⟩) : ifS (bT f) A B ρ = if b then A ρ else B ρ := by
  simp only [ifS, bT, h, R.ok_bind, asB, R.at]
theorem call_ok {φ : Φ} {fs : FEs} {ρ : Mir.Env} {rs : List Res} {k : Kd} {d : D} (h : evs fs ρ = .ok rs) (hφ : φ (rs.map (·.d)) = .ok ⟨k, true, d⟩) : callE φ fs ρ = .ok ⟨if k = .shr then .shr else .tmp, true, d⟩ := by
  simp only [callE, h, R.ok_bind, hφ, if_true]
theorem call_sc {φ : Φ} {fs : FEs} {ρ : Mir.Env} {rs : List Res} {d : D} (h : evs fs ρ = .ok rs) (hφ : φ (rs.map (·.d)) = .ok ⟨.shr, true, d⟩) : callE φ fs ρ = .ok ⟨.shr, true, d⟩ := (call_ok h hφ).trans rfl
theorem evs_cons {f : FE} {fs : FEs} {ρ : Mir.Env} {r : Res} {rs : List Res} (h : f ρ = .ok r) (h2 : evs fs ρ = .ok rs) : evs (f :: fs) ρ = .ok (r :: rs) := by simp only [evs, h, h2, R.ok_bind]
theorem evs_nil {ρ : Mir.Env} : evs [] ρ = .ok [] := rfl
theorem lt1000 {n : Nat} (h : n < 2 ^ 250) : n < 2 ^ 1000 := Nat.lt_of_lt_of_le h (Nat.pow_le_pow_right (by decide) (by decide))
theorem CM_of {i j : Int} (h1 : i.natAbs < 2 ^ 1000) (h2 : j.natAbs < 2 ^ 1000) : CM i j = true := by
  have lg : ∀ n : Nat, n < 2 ^ 1000 → n.log2 < 1000000 := fun n h => by
    by_cases z : n = 0
    · subst z; decide
    · exact Nat.lt_trans ((Nat.log2_lt z).mpr h) (by decide)
  unfold CM
  rw [decide_eq_true (lg _ h1), decide_eq_true (lg _ h2)]
  rfl
theorem eqv_int (a b : Int) : eqvR (.int a) (.int b) = .ok (decide (a = b)) := by
  by_cases h : a = b
  · subst h; simp [eqvR, toPy, SeqAt.shaped, PyData.canLay0, PyData.depth, PyData.eqv]
  · simp [eqvR, toPy, SeqAt.shaped, PyData.canLay0, PyData.depth, PyData.eqv, h]
theorem ints_li : ∀ zs : List Int, intsR (li zs) = .ok zs
  | [] => rfl
  | z :: r => by
    have := ints_li r
    simp only [li, List.map_cons, intsR] at this ⊢
    simp [this, asI]
theorem atI_nat {xs : List D} {k : Nat} {d : D} (h : xs[k]? = some d) : atI xs (k : Int) = some d := by
  have hk := (List.getElem?_eq_some_iff.mp h).1
  have hn : ¬ (k : Int) < 0 := by omega
  unfold atI ixN
  rw [if_pos (by omega), if_pos (by omega)]
  simpa using h
theorem toPys_li : ∀ xs : List Int, toPys (li xs) = some (xs.map .int)
  | [] => rfl
  | x :: r => by
    have := toPys_li r
    simp only [li] at this
    simp [li, toPys, toPy, this]
theorem eqvs_ints : ∀ xs ys : List Int, PyData.eqvAll (xs.map .int) (ys.map .int) = decide (xs = ys)
  | [], [] => by (simp [PyData.eqvAll])
  | [], _ :: _ => by (simp [PyData.eqvAll])
  | _ :: _, [] => by (simp [PyData.eqvAll])
  | x :: r, y :: s => by
    have ih := eqvs_ints r s
    simp only [List.map_cons, PyData.eqvAll, PyData.eqv, ih]
    by_cases h : x = y <;> by_cases h2 : r = s <;> simp [h, h2]
theorem len_ok {f : FE} {ρ : Mir.Env} {k : Kd} {fr : Bool} {ds : List D} (h : f ρ = .ok ⟨k, fr, .lst ds⟩) : lenE f ρ = .ok (sc (.int ds.length)) := by simp only [lenE, h, R.ok_bind, asS]
theorem ne_int {f g : FE} {ρ : Mir.Env} {k k' : Kd} {fr fr' : Bool} {i j : Int} (h1 : f ρ = .ok ⟨k, fr, .int i⟩) (h2 : g ρ = .ok ⟨k', fr', .int j⟩) : neE f g ρ = .ok (sc (.bl (!decide (i = j)))) := by simp only [neE, h1, h2, R.ok_bind, eqv_int]
theorem cmp_int {G : Int → Int → Bool} {f g : FE} {ρ : Mir.Env} {k k' : Kd} {fr fr' : Bool} {i j : Int} (h1 : f ρ = .ok ⟨k, fr, .int i⟩) (h2 : g ρ = .ok ⟨k', fr', .int j⟩) : cmpE G f g ρ = .ok (sc (.bl (G i j))) := by simp only [cmpE, h1, h2, R.ok_bind, asI]
theorem i2_ok {C : Int → Int → Bool} {G : Int → Int → Int} {f g : FE} {ρ : Mir.Env} {k k' : Kd} {fr fr' : Bool} {i j : Int} (h1 : f ρ = .ok ⟨k, fr, .int i⟩) (h2 : g ρ = .ok ⟨k', fr', .int j⟩) (hc : C i j = true) : i2E C G f g ρ = .ok (sc (.int (G i j))) := by
  simp only [i2E, h1, h2, R.ok_bind, asI, hc, if_true]
theorem idx_nat {f g : FE} {ρ : Mir.Env} {k k' : Kd} {fr fr' : Bool} {ds : List D} {i : Nat} {d : D} (h1 : f ρ = .ok ⟨k, fr, .lst ds⟩) (h2 : g ρ = .ok ⟨k', fr', .int i⟩) (h : ds[i]? = some d) : idxE f g ρ = .ok ⟨.shr, fr || d.imm, d⟩ := by
  simp only [idxE, h1, h2, R.ok_bind, asS, asI, atI_nat h]
end Mir
namespace Mir
open PySem L2
theorem rngD_succ (lo : Int) (n : Nat) : rngD lo (n + 1) = .int lo :: rngD (lo + 1) n := by
  unfold rngD
  simp only [List.range_succ_eq_map, List.map_cons, List.map_map]
  congr 1
  · simp
  · apply List.map_congr_left
    intro a _
    simp only [Function.comp, D.int.injEq]
    push_cast
    omega
theorem rng2_ok {a b : FE} {ρ : Mir.Env} {x y : Res} {lo : Int} {m : Nat} (ha : a ρ = .ok x) (hx : x.d = .int lo) (hb : b ρ = .ok y) (hy : y.d = .int (lo + m)) (h1 : 0 ≤ lo) (h2 : lo + m < 2 ^ 62) : rng2I a b ρ = .ok ⟨true, true, rngD lo m⟩ := by
  have r1 : -(2 ^ 62) ≤ lo ∧ lo < 2 ^ 62 ∧ -(2 ^ 62) ≤ lo + (m : Int) ∧ lo + (m : Int) < 2 ^ 62 := by omega
  have r2 : (lo + (m : Int) - lo).toNat = m := by omega
  simp only [rng2I, ha, hb, hx, hy, asI, R.ok_bind]
  rw [if_pos r1, r2]
abbrev nbody : FS := (seqS (setS 6 (addE (mulE (vE 5) (vE 5)) (mulE (cE (.int 3)) (vE 5))))
      (seqS (ifS (bT (ltE (vE 5) (lenE (vE 0))))
        (setS 6 (idxE (vE 0) (vE 5)))
        nilS)
      (appS 4 (subE (modE (vE 6) (addE (mulE (cE (.int 2)) (vE 3)) (cE (.int 1)))) (vE 3)))))
theorem app_ok {i : Nat} {f : FE} {ρ : Mir.Env} {fr fr' : Bool} {ds : List D} {k : Kd} {d : D} (ho : ρ[i]? = some (some ⟨.own, fr, .lst ds⟩)) (h : f ρ = .ok ⟨k, fr', d⟩) (hk : k ≠ .own) (hz : ds.length < sizeLine) : appS i f ρ = .nx (ρ.set i (some ⟨.own, fr && fr', .lst (ds ++ [d])⟩)) := by
  simp only [appS, ownL, ho, R.at, h, Res.give, if_neg hk, if_pos hz]
theorem n_step (ns : List Int) (size : Int) (h0 : 0 ≤ size) (hs : size.natAbs < 2 ^ 250) (b c x6 : Option Res) (acc : List D) (k : Nat) (hk : k < 2 ^ 100) (ha : acc.length < sizeLine) :
    ∃ v y6, v.natAbs ≤ size.natAbs ∧ nbody [some ⟨.shr, false, .lst (li ns)⟩, b, c, some ⟨.shr, false, .int size⟩, some ⟨.own, true, .lst acc⟩, some ⟨.shr, true, .int k⟩, x6] =
      .nx [some ⟨.shr, false, .lst (li ns)⟩, b, c, some ⟨.shr, false, .int size⟩, some ⟨.own, true, .lst (acc ++ [.int v])⟩, some ⟨.shr, true, .int k⟩, y6] := by
  have kk : (k : Int).natAbs < 2 ^ 1000 := lt1000 (by rw [Int.natAbs_natCast]; exact Nat.lt_trans hk (by decide))
  have ss : size.natAbs < 2 ^ 1000 := lt1000 hs
  have c1 : CM (k : Int) k = true := CM_of kk kk
  have c2 : CM 3 (k : Int) = true := CM_of (lt1000 (by decide)) kk
  have c3 : CM 2 size = true := CM_of (lt1000 (by decide)) ss
  have c4 : ∀ v, CP v (2 * size + 1) = true := fun v => decide_eq_true (by omega)
  have bd : ∀ v : Int, (v % (2 * size + 1) - size).natAbs ≤ size.natAbs := fun v => by
    have q1 := Int.emod_nonneg v (show 2 * size + 1 ≠ 0 by omega)
    have q2 := Int.emod_lt_of_pos v (show 0 < 2 * size + 1 by omega)
    omega
  have e1 : ∀ x : Option Res, setS 6 (addE (mulE (vE 5) (vE 5)) (mulE (cE (.int 3)) (vE 5))) [some ⟨.shr, false, .lst (li ns)⟩, b, c, some ⟨.shr, false, .int size⟩, some ⟨.own, true, .lst acc⟩, some ⟨.shr, true, .int k⟩, x] = .nx [some ⟨.shr, false, .lst (li ns)⟩, b, c, some ⟨.shr, false, .int size⟩, some ⟨.own, true, .lst acc⟩, some ⟨.shr, true, .int k⟩, some (sc (.int ((k : Int) * k + 3 * k)))] := fun x =>
    set_shr (i2_ok (C := C0) (i2_ok (C := CM) (i := (k : Int)) (j := k) rfl rfl c1) (i2_ok (C := CM) (i := 3) (j := k) rfl rfl c2) rfl)
  have e3 : ∀ v : Int, appS 4 (subE (modE (vE 6) (addE (mulE (cE (.int 2)) (vE 3)) (cE (.int 1)))) (vE 3)) [some ⟨.shr, false, .lst (li ns)⟩, b, c, some ⟨.shr, false, .int size⟩, some ⟨.own, true, .lst acc⟩, some ⟨.shr, true, .int k⟩, some (sc (.int v))] =
      .nx [some ⟨.shr, false, .lst (li ns)⟩, b, c, some ⟨.shr, false, .int size⟩, some ⟨.own, true, .lst (acc ++ [.int (v % (2 * size + 1) - size)])⟩, some ⟨.shr, true, .int k⟩, some (sc (.int v))] := fun v =>
    app_ok (fr := true) (fr' := true) (ds := acc) (k := .shr) rfl (i2_ok (C := C0) (i2_ok (C := CP) (i := v) (j := 2 * size + 1) rfl (i2_ok (C := C0) (i := 2 * size) (j := 1) (i2_ok (C := CM) (i := 2) (j := size) rfl rfl c3) rfl rfl) (c4 v)) rfl rfl) (by decide) ha
  by_cases h : k < ns.length
  · refine ⟨_, some (sc (.int ns[k])), bd ns[k], ?_⟩
    unfold nbody
    rw [seq_nx (e1 x6)]
    refine (seq_nx ?_).trans (e3 ns[k])
    refine (if_bT (cmp_int (i := (k : Int)) (j := ((li ns).length : Int)) rfl (len_ok (ds := li ns) rfl))).trans ?_
    have : decide ((k : Int) < ((li ns).length : Int)) = true := decide_eq_true (by simpa using h)
    simp only [this, if_true]
    exact (set_shr (idx_nat (ds := li ns) (i := k) (d := .int ns[k]) rfl rfl (by rw [List.getElem?_map, List.getElem?_eq_getElem h]; rfl))).trans rfl
  · refine ⟨_, some (sc (.int ((k : Int) * k + 3 * k))), bd ((k : Int) * k + 3 * k), ?_⟩
    unfold nbody
    rw [seq_nx (e1 x6)]
    refine (seq_nx ?_).trans (e3 ((k : Int) * k + 3 * k))
    refine (if_bT (cmp_int (i := (k : Int)) (j := ((li ns).length : Int)) rfl (len_ok (ds := li ns) rfl))).trans ?_
    have : decide ((k : Int) < ((li ns).length : Int)) = false := decide_eq_false (by simpa using h)
    simp only [this, Bool.false_eq_true, if_false]
    rfl
theorem n_loop (ns : List Int) (size : Int) (h0 : 0 ≤ size) (hs : size.natAbs < 2 ^ 250) (b c : Option Res) : ∀ (m k : Nat) (x5 x6 : Option Res) (acc : List D), k + m < 2 ^ 100 → acc.length + m ≤ sizeLine →
    ∃ (L : List Int) (y5 y6 : Option Res), L.length = m ∧ (∀ v ∈ L, v.natAbs ≤ size.natAbs) ∧ forL (.nm 5) nbody true (rngD k m) [some ⟨.shr, false, .lst (li ns)⟩, b, c, some ⟨.shr, false, .int size⟩, some ⟨.own, true, .lst acc⟩, x5, x6] =
      .nx [some ⟨.shr, false, .lst (li ns)⟩, b, c, some ⟨.shr, false, .int size⟩, some ⟨.own, true, .lst (acc ++ li L)⟩, y5, y6]
  | 0, k, x5, x6, acc, _, _ => ⟨[], x5, x6, rfl, fun _ h => by simp at h, by simp [rngD, forL]⟩
  | m + 1, k, x5, x6, acc, hk, ha => by
    obtain ⟨v, y6, hv, e⟩ := n_step ns size h0 hs b c x6 acc k (by omega) (by omega)
    obtain ⟨L, z5, z6, l1, l2, e2⟩ := n_loop ns size h0 hs b c m (k + 1) (some ⟨.shr, true, .int k⟩) y6 (acc ++ [.int v]) (by omega) (by simp; omega)
    refine ⟨v :: L, z5, z6, by simp [l1], fun u hu => ?_, ?_⟩
    · rcases List.mem_cons.mp hu with z | z
      · rw [z]; exact hv
      · exact l2 u z
    · rw [rngD_succ, forL, Tg.bind]
      simp only [R.at, List.set, e]
      have := e2
      push_cast at this
      rw [this]
      simp
abbrev numF : FS := (seqS (setS 4 (lstE []))
    (seqS (forS (rng2I (vE 1) (addE (vE 1) (vE 2))) (.nm 5) nbody)
    (retS (vE 4))))
theorem numbers_ok (ns : List Int) (st m : Nat) (size : Int) (h0 : 0 ≤ size) (hs : size.natAbs < 2 ^ 250) (hk : st + m < 2 ^ 60) (hm : m ≤ sizeLine) : ∃ L : List Int, L.length = m ∧ (∀ v ∈ L, v.natAbs ≤ size.natAbs) ∧
    defR 4 7 numF [.lst (li ns), .int st, .int m, .int size] = .ok ⟨.tmp, true, .lst (li L)⟩ := by
  obtain ⟨L, y5, y6, l1, l2, e⟩ := n_loop ns size h0 hs (some ⟨.shr, false, .int st⟩) (some ⟨.shr, false, .int m⟩) m st none none [] (by omega) (by simpa using hm)
  refine ⟨L, l1, l2, ?_⟩
  refine def_rt (r := ⟨.tmp, true, .lst (li L)⟩) rfl ?_
  refine (seq_nx (ρ1 := [some ⟨.shr, false, .lst (li ns)⟩, some ⟨.shr, false, .int st⟩, some ⟨.shr, false, .int m⟩, some ⟨.shr, false, .int size⟩, some ⟨.own, true, .lst []⟩, none, none]) (by rfl)).trans ?_
  refine (seq_nx (ρ1 := [some ⟨.shr, false, .lst (li ns)⟩, some ⟨.shr, false, .int st⟩, some ⟨.shr, false, .int m⟩, some ⟨.shr, false, .int size⟩, some ⟨.own, true, .lst (li L)⟩, y5, y6]) ?_).trans ?_
  rotate_left
  · rfl
  · rw [for_ok (rng2_ok (lo := st) (m := m) rfl rfl rfl rfl (by omega) (by omega))]
    exact e
end Mir
namespace Mir
open PySem L2
mutual
def D.pl : D → Nat → Bool
  | .non, _ => true
  | .bl _, _ => true
  | .int _, _ => true
  | .lst ds, n => decide (0 < n) && D.pls ds (n - 1)
  | .tup ds, n => decide (0 < n) && D.pls ds (n - 1)
  | _, _ => false
def D.pls : List D → Nat → Bool
  | [], _ => true
  | d :: r, n => D.pl d n && D.pls r n
end
end Mir
set_option Elab.async false
set_option linter.all false
set_option maxRecDepth 100000
set_option maxHeartbeats 3900000
namespace N2
open PySem L2 Mir
def top (i : Nat) : Stmt := PySem.Challenge.pw_flatmeet_k02_rows_of_unlike_lengths.main.body.getD i (.Pass ⟨0, 0, 0, 0⟩)
structure Blt (mg : Str → Option Value) : Prop where
  len_ : mg "len" = none
  list_ : mg "list" = none
  zip_ : mg "zip" = none
  sum_ : mg "sum" = none
  isinstance_ : mg "isinstance" = none
  ValueError_ : mg "ValueError" = none
  range_ : mg "range" = none
section
variable {Pg : Program} {w : World} {K : PySem.W.Frag} {mg : Str → Option Value} {base : Heap} {k : Nat} {T : Addr}
abbrev s_check_alike : Stmt := top 17
theorem sc_check_alike : FnScope ["one", "other"] ["one", "other"] (defScope s_check_alike) := ⟨rfl, rfl, rfl, by decide +kernel, rfl, by decide +kernel, by decide +kernel⟩
def f_check_alike : FS :=
    (ifS (bT (neE (lenE (vE 0)) (lenE (vE 1))))
      (raiseS .NotAlike [cE (.str "lists of unlike lengths")])
      nilS)
def w_check_alike : Φ := defR 2 2 f_check_alike
theorem c_check_alike (B : Blt mg) (XT : XAll K mg T)  (F : FunAt K mg "check_alike" s_check_alike ["one", "other"]) : Callee Pg w K mg base (CXM Pg w) (k + 1) "check_alike" ["one", "other"] (spM K (clK K) w_check_alike) := by
  have nd := sc_check_alike.nd
  refine m_defX F sc_check_alike fun f cdv A outer s H E hr => ?_
  have hu := hr.units
  exact (ms_one (m_ifS (mt_ne hu (m_len rfl B.len_ (m_v 0)) (m_len rfl B.len_ (m_v 1)))
      (ms_one (m_raise (xc := .NotAlike) (XT.nm .NotAlike) (XT.ex .NotAlike (by decide) (by decide)) rfl rfl thrMX (ma_cons m_str ma_nil)))
      ms_nil))
abbrev s_pairs : Stmt := top 18
theorem sc_pairs : FnScope ["one", "other"] ["one", "other"] (defScope s_pairs) := ⟨rfl, rfl, rfl, by decide +kernel, rfl, by decide +kernel, by decide +kernel⟩
def f_pairs : FS :=
    (seqS (exprS (callE w_check_alike [vE 0, vE 1]))
    (retS (lzpE (vE 0) (vE 1))))
def w_pairs : Φ := defR 2 2 f_pairs
theorem c_pairs (B : Blt mg) (XT : XAll K mg T) (c_check_alike : Callee Pg w K mg base (CXM Pg w) k "check_alike" ["one", "other"] (spM K (clK K) w_check_alike)) (F : FunAt K mg "pairs" s_pairs ["one", "other"]) : Callee Pg w K mg base (CXM Pg w) (k + 1) "pairs" ["one", "other"] (spM K (clK K) w_pairs) := by
  have nd := sc_pairs.nd
  refine m_defX F sc_pairs fun f cdv A outer s H E hr => ?_
  have hu := hr.units
  exact (ms_cons (m_expr (m_call c_check_alike hr rfl thrX (ma_cons (m_v 0) (ma_cons (m_v 1) ma_nil))))
    (ms_one (m_ret (m_lzp rfl rfl B.list_ rfl B.zip_ (m_v 0) (m_v 1)))))
abbrev s_plus : Stmt := top 20
theorem sc_plus : FnScope ["one", "other"] ["one", "other"] (defScope s_plus) := ⟨rfl, rfl, rfl, by decide +kernel, rfl, by decide +kernel, by decide +kernel⟩
def f_plus : FS :=
    (retS (cmpE' (lstI (callE w_pairs [vE 0, vE 1])) 2 [] (.tp [.nm 0, .nm 1]) (bE (addE (vE 0) (vE 1)))))
def w_plus : Φ := defR 2 2 f_plus
theorem c_plus (B : Blt mg) (XT : XAll K mg T) (c_pairs : Callee Pg w K mg base (CXM Pg w) k "pairs" ["one", "other"] (spM K (clK K) w_pairs)) (F : FunAt K mg "plus" s_plus ["one", "other"]) : Callee Pg w K mg base (CXM Pg w) (k + 1) "plus" ["one", "other"] (spM K (clK K) w_plus) := by
  have nd := sc_plus.nd
  refine m_defX F sc_plus fun f cdv A outer s H E hr => ?_
  have hu := hr.units
  exact (ms_one (m_ret (m_comp rfl (compOk_def (XN := ["one", "other"]) (N := ["left", "right"]) (k := 2) (fs := []) rfl rfl rfl (by decide +kernel)) (mi_lst (m_call c_pairs hr rfl thrX (ma_cons (m_v 0) (ma_cons (m_v 1) ma_nil)))) (fun _ _ _ => (mg_tp rfl (mgs_cons (mg_nm (show (["left", "right"] : List Str).Nodup by decide +kernel) rfl (Or.inl rfl)) (mgs_cons (mg_nm (show (["left", "right"] : List Str).Nodup by decide +kernel) rfl (Or.inl rfl)) mgs_nil)))) (glow rfl) (fun _ _ _ => mb_elt (m_add (m_v 0) (m_v 1))))))
abbrev s_less : Stmt := top 21
theorem sc_less : FnScope ["one", "other"] ["one", "other"] (defScope s_less) := ⟨rfl, rfl, rfl, by decide +kernel, rfl, by decide +kernel, by decide +kernel⟩
def f_less : FS :=
    (retS (cmpE' (lstI (callE w_pairs [vE 0, vE 1])) 2 [] (.tp [.nm 0, .nm 1]) (bE (subE (vE 0) (vE 1)))))
def w_less : Φ := defR 2 2 f_less
theorem c_less (B : Blt mg) (XT : XAll K mg T) (c_pairs : Callee Pg w K mg base (CXM Pg w) k "pairs" ["one", "other"] (spM K (clK K) w_pairs)) (F : FunAt K mg "less" s_less ["one", "other"]) : Callee Pg w K mg base (CXM Pg w) (k + 1) "less" ["one", "other"] (spM K (clK K) w_less) := by
  have nd := sc_less.nd
  refine m_defX F sc_less fun f cdv A outer s H E hr => ?_
  have hu := hr.units
  exact (ms_one (m_ret (m_comp rfl (compOk_def (XN := ["one", "other"]) (N := ["left", "right"]) (k := 2) (fs := []) rfl rfl rfl (by decide +kernel)) (mi_lst (m_call c_pairs hr rfl thrX (ma_cons (m_v 0) (ma_cons (m_v 1) ma_nil)))) (fun _ _ _ => (mg_tp rfl (mgs_cons (mg_nm (show (["left", "right"] : List Str).Nodup by decide +kernel) rfl (Or.inl rfl)) (mgs_cons (mg_nm (show (["left", "right"] : List Str).Nodup by decide +kernel) rfl (Or.inl rfl)) mgs_nil)))) (glow rfl) (fun _ _ _ => mb_elt (m_sub (m_v 0) (m_v 1))))))
abbrev s_weighed : Stmt := top 22
theorem sc_weighed : FnScope ["one", "other"] ["one", "other"] (defScope s_weighed) := ⟨rfl, rfl, rfl, by decide +kernel, rfl, by decide +kernel, by decide +kernel⟩
def f_weighed : FS :=
    (retS (sumE (cmpE' (lstI (callE w_pairs [vE 0, vE 1])) 2 [] (.tp [.nm 0, .nm 1]) (bE (mulE (vE 0) (vE 1))))))
def w_weighed : Φ := defR 2 2 f_weighed
theorem c_weighed (B : Blt mg) (XT : XAll K mg T) (c_pairs : Callee Pg w K mg base (CXM Pg w) k "pairs" ["one", "other"] (spM K (clK K) w_pairs)) (F : FunAt K mg "weighed" s_weighed ["one", "other"]) : Callee Pg w K mg base (CXM Pg w) (k + 1) "weighed" ["one", "other"] (spM K (clK K) w_weighed) := by
  have nd := sc_weighed.nd
  refine m_defX F sc_weighed fun f cdv A outer s H E hr => ?_
  have hu := hr.units
  exact (ms_one (m_ret (m_sum rfl rfl B.sum_ (m_comp rfl (compOk_def (XN := ["one", "other"]) (N := ["left", "right"]) (k := 2) (fs := []) rfl rfl rfl (by decide +kernel)) (mi_lst (m_call c_pairs hr rfl thrX (ma_cons (m_v 0) (ma_cons (m_v 1) ma_nil)))) (fun _ _ _ => (mg_tp rfl (mgs_cons (mg_nm (show (["left", "right"] : List Str).Nodup by decide +kernel) rfl (Or.inl rfl)) (mgs_cons (mg_nm (show (["left", "right"] : List Str).Nodup by decide +kernel) rfl (Or.inl rfl)) mgs_nil)))) (glow rfl) (fun _ _ _ => mb_elt (m_mul (m_v 0) (m_v 1)))))))
abbrev s__law_flags : Stmt := top 24
theorem sc__law_flags : FnScope ["_law_caught", "_law_flags_here"] ["_law_caught"] (defScope s__law_flags) := ⟨rfl, rfl, rfl, by decide +kernel, rfl, by decide +kernel, by decide +kernel⟩
def f__law_flags : FS :=
    (seqS (setS 1 (lstE [isxE (some .NotAlike) (vE 0), isxE (some .BadCount) (vE 0), isxE (some .BadRows) (vE 0)]))
    (seqS (setS 1 (catE (vE 1) (lstE [isxE (some .BadRow) (vE 0), isxE (some .OtherSpace) (vE 0), isxE (some .BadSize) (vE 0)])))
    (seqS (setS 1 (catE (vE 1) (lstE [isxE (some .BadPlaces) (vE 0), isxE (some .ZeroSum) (vE 0), isxE (some .NoBox) (vE 0)])))
    (seqS (setS 1 (catE (vE 1) (lstE [isxE (some .BadTable) (vE 0), isxE (some .NoLine) (vE 0), isxE (some .BadName) (vE 0)])))
    (retS (catE (vE 1) (lstE [isxE (some .NoRow) (vE 0), isxE (some .NoName) (vE 0)])))))))
def w__law_flags : Φ := defR 1 2 f__law_flags
theorem c__law_flags (B : Blt mg) (XT : XAll K mg T)  (F : FunAt K mg "_law_flags" s__law_flags ["_law_caught"]) : Callee Pg w K mg base (CXM Pg w) (k + 1) "_law_flags" ["_law_caught"] (spM K (clK K) w__law_flags) := by
  have nd := sc__law_flags.nd
  refine m_defX F sc__law_flags fun f cdv A outer s H E hr => ?_
  have hu := hr.units
  exact (ms_cons (m_set (i := 1) nd rfl (Or.inl rfl) (m_lst (ma_cons (m_isx (c := some .NotAlike) XT.tab rfl B.isinstance_ (m_v 0) (pe_glob rfl (XT.nm .NotAlike) rfl)) (ma_cons (m_isx (c := some .BadCount) XT.tab rfl B.isinstance_ (m_v 0) (pe_glob rfl (XT.nm .BadCount) rfl)) (ma_cons (m_isx (c := some .BadRows) XT.tab rfl B.isinstance_ (m_v 0) (pe_glob rfl (XT.nm .BadRows) rfl)) ma_nil)))))
    (ms_cons (m_set (i := 1) nd rfl (Or.inl rfl) (m_cat (m_v 1) (m_lst (ma_cons (m_isx (c := some .BadRow) XT.tab rfl B.isinstance_ (m_v 0) (pe_glob rfl (XT.nm .BadRow) rfl)) (ma_cons (m_isx (c := some .OtherSpace) XT.tab rfl B.isinstance_ (m_v 0) (pe_glob rfl (XT.nm .OtherSpace) rfl)) (ma_cons (m_isx (c := some .BadSize) XT.tab rfl B.isinstance_ (m_v 0) (pe_glob rfl (XT.nm .BadSize) rfl)) ma_nil))))))
    (ms_cons (m_set (i := 1) nd rfl (Or.inl rfl) (m_cat (m_v 1) (m_lst (ma_cons (m_isx (c := some .BadPlaces) XT.tab rfl B.isinstance_ (m_v 0) (pe_glob rfl (XT.nm .BadPlaces) rfl)) (ma_cons (m_isx (c := some .ZeroSum) XT.tab rfl B.isinstance_ (m_v 0) (pe_glob rfl (XT.nm .ZeroSum) rfl)) (ma_cons (m_isx (c := some .NoBox) XT.tab rfl B.isinstance_ (m_v 0) (pe_glob rfl (XT.nm .NoBox) rfl)) ma_nil))))))
    (ms_cons (m_set (i := 1) nd rfl (Or.inl rfl) (m_cat (m_v 1) (m_lst (ma_cons (m_isx (c := some .BadTable) XT.tab rfl B.isinstance_ (m_v 0) (pe_glob rfl (XT.nm .BadTable) rfl)) (ma_cons (m_isx (c := some .NoLine) XT.tab rfl B.isinstance_ (m_v 0) (pe_glob rfl (XT.nm .NoLine) rfl)) (ma_cons (m_isx (c := some .BadName) XT.tab rfl B.isinstance_ (m_v 0) (pe_glob rfl (XT.nm .BadName) rfl)) ma_nil))))))
    (ms_one (m_ret (m_cat (m_v 1) (m_lst (ma_cons (m_isx (c := some .NoRow) XT.tab rfl B.isinstance_ (m_v 0) (pe_glob rfl (XT.nm .NoRow) rfl)) (ma_cons (m_isx (c := some .NoName) XT.tab rfl B.isinstance_ (m_v 0) (pe_glob rfl (XT.nm .NoName) rfl)) ma_nil))))))))))
abbrev s__law_only : Stmt := top 25
theorem sc__law_only : FnScope ["_law_caught", "_law_name", "_law_names"] ["_law_caught", "_law_name"] (defScope s__law_only) := ⟨rfl, rfl, rfl, by decide +kernel, rfl, by decide +kernel, by decide +kernel⟩
def f__law_only : FS :=
    (seqS (setS 2 (lstE [cE (.str "NotAlike"), cE (.str "BadCount"), cE (.str "BadRows"), cE (.str "BadRow"), cE (.str "OtherSpace"), cE (.str "BadSize"), cE (.str "BadPlaces"), cE (.str "ZeroSum")]))
    (seqS (setS 2 (catE (vE 2) (lstE [cE (.str "NoBox"), cE (.str "BadTable"), cE (.str "NoLine"), cE (.str "BadName"), cE (.str "NoRow"), cE (.str "NoName")])))
    (retS (andE (isxE none (vE 0)) (eqE (callE w__law_flags [vE 0]) (cmpE' (lstI (vE 2)) 1 [1] (.nm 0) (bE (eqE (vE 0) (vE 1)))))))))
def w__law_only : Φ := defR 2 3 f__law_only
theorem c__law_only (B : Blt mg) (XT : XAll K mg T) (c__law_flags : Callee Pg w K mg base (CXM Pg w) k "_law_flags" ["_law_caught"] (spM K (clK K) w__law_flags)) (F : FunAt K mg "_law_only" s__law_only ["_law_caught", "_law_name"]) : Callee Pg w K mg base (CXM Pg w) (k + 1) "_law_only" ["_law_caught", "_law_name"] (spM K (clK K) w__law_only) := by
  have nd := sc__law_only.nd
  refine m_defX F sc__law_only fun f cdv A outer s H E hr => ?_
  have hu := hr.units
  exact (ms_cons (m_set (i := 2) nd rfl (Or.inl rfl) (m_lst (ma_cons m_str (ma_cons m_str (ma_cons m_str (ma_cons m_str (ma_cons m_str (ma_cons m_str (ma_cons m_str (ma_cons m_str ma_nil))))))))))
    (ms_cons (m_set (i := 2) nd rfl (Or.inl rfl) (m_cat (m_v 2) (m_lst (ma_cons m_str (ma_cons m_str (ma_cons m_str (ma_cons m_str (ma_cons m_str (ma_cons m_str ma_nil)))))))))
    (ms_one (m_ret (m_and (m_isx (c := none) XT.tab rfl B.isinstance_ (m_v 0) (pe_bltn (v := .ty "ValueError") rfl B.ValueError_ (by decide +kernel) rfl)) (m_one (m_eq hu (m_call c__law_flags hr rfl thrX (ma_cons (m_v 0) ma_nil)) (m_comp rfl (compOk_def (XN := ["_law_caught", "_law_name", "_law_names"]) (N := ["_law_other", "_law_name"]) (k := 1) (fs := [1]) rfl rfl rfl (by decide +kernel)) (mi_lst (m_v 2)) (fun _ _ _ => (mg_nm (show (["_law_other", "_law_name"] : List Str).Nodup by decide +kernel) rfl (Or.inl rfl))) (glow rfl) (fun _ _ _ => mb_elt (m_eq hu (m_v 0) (m_v 1)))))))))))
abbrev s__law_at : Stmt := top 26
theorem sc__law_at : FnScope ["_law_script", "_law_k"] ["_law_script", "_law_k"] (defScope s__law_at) := ⟨rfl, rfl, rfl, by decide +kernel, rfl, by decide +kernel, by decide +kernel⟩
def f__law_at : FS :=
    (seqS (ifS (bT (ltE (vE 1) (lenE (vE 0))))
      (retS (idxE (vE 0) (vE 1)))
      nilS)
    (retS (cE (.int 0))))
def w__law_at : Φ := defR 2 2 f__law_at
theorem c__law_at (B : Blt mg) (XT : XAll K mg T)  (F : FunAt K mg "_law_at" s__law_at ["_law_script", "_law_k"]) : Callee Pg w K mg base (CXM Pg w) (k + 1) "_law_at" ["_law_script", "_law_k"] (spM K (clK K) w__law_at) := by
  have nd := sc__law_at.nd
  refine m_defX F sc__law_at fun f cdv A outer s H E hr => ?_
  have hu := hr.units
  exact (ms_cons (m_ifS (mt_lt (m_v 1) (m_len rfl B.len_ (m_v 0)))
      (ms_one (m_ret (m_idx (m_v 0) (m_v 1))))
      ms_nil)
    (ms_one (m_ret m_int)))
abbrev s__law_numbers : Stmt := top 27
theorem sc__law_numbers : FnScope ["_law_script", "_law_start", "_law_many", "_law_size", "_law_found", "_law_k", "_law_number"] ["_law_script", "_law_start", "_law_many", "_law_size"] (defScope s__law_numbers) := ⟨rfl, rfl, rfl, by decide +kernel, rfl, by decide +kernel, by decide +kernel⟩
def f__law_numbers : FS :=
    (seqS (setS 4 (lstE []))
    (seqS (forS (rng2I (vE 1) (addE (vE 1) (vE 2))) (.nm 5)
      (seqS (setS 6 (addE (mulE (vE 5) (vE 5)) (mulE (cE (.int 3)) (vE 5))))
      (seqS (ifS (bT (ltE (vE 5) (lenE (vE 0))))
        (setS 6 (idxE (vE 0) (vE 5)))
        nilS)
      (appS 4 (subE (modE (vE 6) (addE (mulE (cE (.int 2)) (vE 3)) (cE (.int 1)))) (vE 3))))))
    (retS (vE 4))))
def w__law_numbers : Φ := defR 4 7 f__law_numbers
theorem c__law_numbers (B : Blt mg) (XT : XAll K mg T)  (F : FunAt K mg "_law_numbers" s__law_numbers ["_law_script", "_law_start", "_law_many", "_law_size"]) : Callee Pg w K mg base (CXM Pg w) (k + 1) "_law_numbers" ["_law_script", "_law_start", "_law_many", "_law_size"] (spM K (clK K) w__law_numbers) := by
  have nd := sc__law_numbers.nd
  refine m_defX F sc__law_numbers fun f cdv A outer s H E hr => ?_
  have hu := hr.units
  exact (ms_cons (m_set (i := 4) nd rfl (Or.inl rfl) (m_lst ma_nil))
    (ms_cons (m_for passX rfl (mi_rng2 rfl B.range_ (m_v 1) (m_add (m_v 1) (m_v 2))) (mg_nm nd rfl (Or.inl rfl))
      (ms_cons (m_set (i := 6) nd rfl (Or.inl rfl) (m_add (m_mul (m_v 5) (m_v 5)) (m_mul m_int (m_v 5))))
      (ms_cons (m_ifS (mt_lt (m_v 5) (m_len rfl B.len_ (m_v 0)))
        (ms_one (m_set (i := 6) nd rfl (Or.inl rfl) (m_idx (m_v 0) (m_v 5))))
        ms_nil)
      (ms_one (m_app (i := 4) rfl (Or.inl rfl) (m_sub (m_mod (m_v 6) (m_add (m_mul m_int (m_v 3)) m_int)) (m_v 3)))))))
    (ms_one (m_ret (m_v 4)))))
abbrev s__law_asked : Stmt := top 28
theorem sc__law_asked : FnScope ["_law_one", "_law_other", "_law_way", "_law_caught", "e"] ["_law_one", "_law_other", "_law_way"] (defScope s__law_asked) := ⟨rfl, rfl, rfl, by decide +kernel, rfl, by decide +kernel, by decide +kernel⟩
def f__law_asked : FS :=
    (seqS (setS 3 (cE .non))
    (seqS (tryS 3 4
      (ifS (bT (eqE (vE 2) (cE (.int 0))))
        (exprS (callE w_plus [vE 0, vE 1]))
        (ifS (bT (eqE (vE 2) (cE (.int 1))))
          (exprS (callE w_less [vE 0, vE 1]))
          (exprS (callE w_weighed [vE 0, vE 1])))))
    (retS (vE 3))))
def w__law_asked : Φ := defR 3 5 f__law_asked
theorem c__law_asked (B : Blt mg) (XT : XAll K mg T) (c_plus : Callee Pg w K mg base (CXM Pg w) k "plus" ["one", "other"] (spM K (clK K) w_plus)) (c_less : Callee Pg w K mg base (CXM Pg w) k "less" ["one", "other"] (spM K (clK K) w_less)) (c_weighed : Callee Pg w K mg base (CXM Pg w) k "weighed" ["one", "other"] (spM K (clK K) w_weighed)) (F : FunAt K mg "_law_asked" s__law_asked ["_law_one", "_law_other", "_law_way"]) : Callee Pg w K mg base (CXM Pg w) (k + 1) "_law_asked" ["_law_one", "_law_other", "_law_way"] (spM K (clK K) w__law_asked) := by
  have nd := sc__law_asked.nd
  refine m_defX F sc__law_asked fun f cdv A outer s H E hr => ?_
  have hu := hr.units
  exact (ms_cons (m_set (i := 3) nd rfl (Or.inl rfl) m_non)
    (ms_cons (m_try (i := 3) (k := 4) rfl rfl rfl XT.top rfl XT.flat nd rfl rfl (by decide) rfl rfl rfl fun pn xe P thT paT =>
      (ms_one (m_ifS (mt_eq hu (m_v 2) m_int)
        (ms_one (m_expr (m_call c_plus hr rfl thT (ma_cons (m_v 0) (ma_cons (m_v 1) ma_nil)))))
        (ms_one (m_ifS (mt_eq hu (m_v 2) m_int)
          (ms_one (m_expr (m_call c_less hr rfl thT (ma_cons (m_v 0) (ma_cons (m_v 1) ma_nil)))))
          (ms_one (m_expr (m_call c_weighed hr rfl thT (ma_cons (m_v 0) (ma_cons (m_v 1) ma_nil))))))))))
    (ms_one (m_ret (m_v 3)))))
abbrev s_law : Stmt := top 29
theorem sc_law : FnScope ["_law_script", "_law_many", "_law_more", "_law_one", "_law_other", "_law_kept", "_law_way", "_law_left", "_law_right", "_law_caught"] ["_law_script"] (defScope s_law) := ⟨rfl, rfl, rfl, by decide +kernel, rfl, by decide +kernel, by decide +kernel⟩
def f_law : FS :=
    (seqS (setS 1 (modE (callE w__law_at [vE 0, cE (.int 0)]) (cE (.int 13))))
    (seqS (setS 2 (modE (callE w__law_at [vE 0, cE (.int 1)]) (cE (.int 13))))
    (seqS (ifS (bT (eqE (modE (fdvE (callE w__law_at [vE 0, cE (.int 1)]) (cE (.int 13))) (cE (.int 3))) (cE (.int 1))))
      (setS 2 (vE 1))
      nilS)
    (seqS (setS 3 (callE w__law_numbers [vE 0, cE (.int 2), vE 1, subE (fdvE (powE (cE (.int 10)) (cE (.int 60))) (cE (.int 2))) (cE (.int 1))]))
    (seqS (setS 4 (callE w__law_numbers [vE 0, addE (cE (.int 2)) (vE 1), vE 2, subE (fdvE (powE (cE (.int 10)) (cE (.int 60))) (cE (.int 2))) (cE (.int 1))]))
    (seqS (setS 5 (lstE [lofE (vE 3), lofE (vE 4)]))
    (seqS (forS (rng1I (cE (.int 3))) (.nm 6)
      (frzS 4 (frzS 3 (forS (lstI (lstE [tupE [vE 3, vE 4], tupE [vE 4, vE 3]])) (.tp [.nm 7, .nm 8])
        (seqS (setS 9 (callE w__law_asked [vE 7, vE 8, vE 6]))
        (seqS (ifS (andT (bT (eqE (vE 1) (vE 2))) (bT (notNE (vE 9))))
          (retS (cE (.bl false)))
          nilS)
        (ifS (andT (bT (neE (vE 1) (vE 2))) (notT (bT (callE w__law_only [vE 9, cE (.str "NotAlike")]))))
          (retS (cE (.bl false)))
          nilS)))))))
    (frzS 4 (frzS 3 (retS (eqE (lstE [vE 3, vE 4]) (vE 5))))))))))))
def w_law : Φ := defR 1 10 f_law
theorem c_law (B : Blt mg) (XT : XAll K mg T) (c__law_at : Callee Pg w K mg base (CXM Pg w) k "_law_at" ["_law_script", "_law_k"] (spM K (clK K) w__law_at)) (c__law_numbers : Callee Pg w K mg base (CXM Pg w) k "_law_numbers" ["_law_script", "_law_start", "_law_many", "_law_size"] (spM K (clK K) w__law_numbers)) (c__law_asked : Callee Pg w K mg base (CXM Pg w) k "_law_asked" ["_law_one", "_law_other", "_law_way"] (spM K (clK K) w__law_asked)) (c__law_only : Callee Pg w K mg base (CXM Pg w) k "_law_only" ["_law_caught", "_law_name"] (spM K (clK K) w__law_only)) {fa : Addr} {fd : FuncData} (F : Fun K "law" "law" s_law fa fd) : FnOk Pg w K mg base (CXM Pg w) (k + 1) fa fd ["_law_script"] (spM K (clK K) w_law) := by
  have nd := sc_law.nd
  refine m_fnX F sc_law fun f cdv A outer s H E hr => ?_
  have hu := hr.units
  exact (ms_cons (m_set (i := 1) nd rfl (Or.inl rfl) (m_mod (m_call c__law_at hr rfl thrX (ma_cons (m_v 0) (ma_cons m_int ma_nil))) m_int))
    (ms_cons (m_set (i := 2) nd rfl (Or.inl rfl) (m_mod (m_call c__law_at hr rfl thrX (ma_cons (m_v 0) (ma_cons m_int ma_nil))) m_int))
    (ms_cons (m_ifS (mt_eq hu (m_mod (m_fdv (m_call c__law_at hr rfl thrX (ma_cons (m_v 0) (ma_cons m_int ma_nil))) m_int) m_int) m_int)
      (ms_one (m_set (i := 2) nd rfl (Or.inl rfl) (m_v 1)))
      ms_nil)
    (ms_cons (m_set (i := 3) nd rfl (Or.inl rfl) (m_call c__law_numbers hr rfl thrX (ma_cons (m_v 0) (ma_cons m_int (ma_cons (m_v 1) (ma_cons (m_sub (m_fdv (m_pow m_int m_int) m_int) m_int) ma_nil))))))
    (ms_cons (m_set (i := 4) nd rfl (Or.inl rfl) (m_call c__law_numbers hr rfl thrX (ma_cons (m_v 0) (ma_cons (m_add m_int (m_v 1)) (ma_cons (m_v 2) (ma_cons (m_sub (m_fdv (m_pow m_int m_int) m_int) m_int) ma_nil))))))
    (ms_cons (m_set (i := 5) nd rfl (Or.inl rfl) (m_lst (ma_cons (m_lof rfl B.list_ (m_v 3)) (ma_cons (m_lof rfl B.list_ (m_v 4)) ma_nil))))
    (ms_cons (m_for passX rfl (mi_rng1 rfl B.range_ m_int) (mg_nm nd rfl (Or.inl rfl))
      (ms_one (m_frz (i := 4) (m_frz (i := 3) (m_for passX rfl (mi_lst (m_lst (ma_cons (m_tup (ma_cons (m_v 3) (ma_cons (m_v 4) ma_nil))) (ma_cons (m_tup (ma_cons (m_v 4) (ma_cons (m_v 3) ma_nil))) ma_nil)))) (mg_tp rfl (mgs_cons (mg_nm nd rfl (Or.inl rfl)) (mgs_cons (mg_nm nd rfl (Or.inl rfl)) mgs_nil)))
        (ms_cons (m_set (i := 9) nd rfl (Or.inl rfl) (m_call c__law_asked hr rfl thrX (ma_cons (m_v 7) (ma_cons (m_v 8) (ma_cons (m_v 6) ma_nil)))))
        (ms_cons (m_ifS (PW.pt (mw_and (mt_eq hu (m_v 1) (m_v 2)) (mw_and1 (mt_notN (m_v 9)))))
          (ms_one (m_ret m_bl))
          ms_nil)
        (ms_one (m_ifS (PW.pt (mw_and (mt_ne hu (m_v 1) (m_v 2)) (mw_and1 (mt_not (mt_val (m_call c__law_only hr rfl thrX (ma_cons (m_v 9) (ma_cons m_str ma_nil))))))))
          (ms_one (m_ret m_bl))
          ms_nil)))))))))
    (ms_one (m_frz (i := 4) (m_frz (i := 3) (m_ret (m_eq hu (m_lst (ma_cons (m_v 3) (ma_cons (m_v 4) ma_nil))) (m_v 5)))))))))))))
end
theorem all_mk {l : PySem.W.OpenLaw} {w : World} {K : PySem.W.Frag} {h : Heap} {mg : Str → Option Value} {fa T : Addr} (X : K.In h) (G : h.Ns mainGlobals mg) (hfa : mg "law" = some (.ref fa)) (XT : XAll K mg T)
    {f0 : Addr} {oc0 kV0 dc0 pm0 cd0 ct0 : Value} {od0 an0 : Option Addr} {sl0 : Array (Option Value)} (a0 : At K "check_alike" s_check_alike f0 oc0 kV0 dc0 pm0 cd0 ct0 od0 an0 sl0)
    {f1 : Addr} {oc1 kV1 dc1 pm1 cd1 ct1 : Value} {od1 an1 : Option Addr} {sl1 : Array (Option Value)} (a1 : At K "pairs" s_pairs f1 oc1 kV1 dc1 pm1 cd1 ct1 od1 an1 sl1)
    {f2 : Addr} {oc2 kV2 dc2 pm2 cd2 ct2 : Value} {od2 an2 : Option Addr} {sl2 : Array (Option Value)} (a2 : At K "plus" s_plus f2 oc2 kV2 dc2 pm2 cd2 ct2 od2 an2 sl2)
    {f3 : Addr} {oc3 kV3 dc3 pm3 cd3 ct3 : Value} {od3 an3 : Option Addr} {sl3 : Array (Option Value)} (a3 : At K "less" s_less f3 oc3 kV3 dc3 pm3 cd3 ct3 od3 an3 sl3)
    {f4 : Addr} {oc4 kV4 dc4 pm4 cd4 ct4 : Value} {od4 an4 : Option Addr} {sl4 : Array (Option Value)} (a4 : At K "weighed" s_weighed f4 oc4 kV4 dc4 pm4 cd4 ct4 od4 an4 sl4)
    {f5 : Addr} {oc5 kV5 dc5 pm5 cd5 ct5 : Value} {od5 an5 : Option Addr} {sl5 : Array (Option Value)} (a5 : At K "_law_flags" s__law_flags f5 oc5 kV5 dc5 pm5 cd5 ct5 od5 an5 sl5)
    {f6 : Addr} {oc6 kV6 dc6 pm6 cd6 ct6 : Value} {od6 an6 : Option Addr} {sl6 : Array (Option Value)} (a6 : At K "_law_only" s__law_only f6 oc6 kV6 dc6 pm6 cd6 ct6 od6 an6 sl6)
    {f7 : Addr} {oc7 kV7 dc7 pm7 cd7 ct7 : Value} {od7 an7 : Option Addr} {sl7 : Array (Option Value)} (a7 : At K "_law_at" s__law_at f7 oc7 kV7 dc7 pm7 cd7 ct7 od7 an7 sl7)
    {f8 : Addr} {oc8 kV8 dc8 pm8 cd8 ct8 : Value} {od8 an8 : Option Addr} {sl8 : Array (Option Value)} (a8 : At K "_law_numbers" s__law_numbers f8 oc8 kV8 dc8 pm8 cd8 ct8 od8 an8 sl8)
    {f9 : Addr} {oc9 kV9 dc9 pm9 cd9 ct9 : Value} {od9 an9 : Option Addr} {sl9 : Array (Option Value)} (a9 : At K "_law_asked" s__law_asked f9 oc9 kV9 dc9 pm9 cd9 ct9 od9 an9 sl9)
    {f10 : Addr} {oc10 kV10 dc10 pm10 cd10 ct10 : Value} {od10 an10 : Option Addr} {sl10 : Array (Option Value)} (a10 : At K "law" s_law f10 oc10 kV10 dc10 pm10 cd10 ct10 od10 an10 sl10)
    (z_len : PySem.W.nsIn K mainGlobals "len" = some none)
    (z_list : PySem.W.nsIn K mainGlobals "list" = some none)
    (z_zip : PySem.W.nsIn K mainGlobals "zip" = some none)
    (z_sum : PySem.W.nsIn K mainGlobals "sum" = some none)
    (z_isinstance : PySem.W.nsIn K mainGlobals "isinstance" = some none)
    (z_ValueError : PySem.W.nsIn K mainGlobals "ValueError" = some none)
    (z_range : PySem.W.nsIn K mainGlobals "range" = some none)
    : ∃ fd : FuncData, (∀ (s : Shared) (v : Value), BindsTo s fd ⟨[v], []⟩ [("_law_script", v)]) ∧ ∀ base : Heap, K.In base → base.Ns mainGlobals mg → FnOk l.prog w K mg base (CXM l.prog w) 5 fa fd ["_law_script"] (spM K (clK K) w_law) := by
  have B : Blt mg := ⟨PySem.W.mg_none_of X G z_len, PySem.W.mg_none_of X G z_list, PySem.W.mg_none_of X G z_zip, PySem.W.mg_none_of X G z_sum, PySem.W.mg_none_of X G z_isinstance, PySem.W.mg_none_of X G z_ValueError, PySem.W.mg_none_of X G z_range⟩
  have F_check_alike : FunAt K mg "check_alike" s_check_alike ["one", "other"] := funAt_mk X G a0.ns a0.lk a0.cd a0.kp fun _ _ _ _ _ _ us hl => match us, hl with | [_, _], _ => rfl
  have F_pairs : FunAt K mg "pairs" s_pairs ["one", "other"] := funAt_mk X G a1.ns a1.lk a1.cd a1.kp fun _ _ _ _ _ _ us hl => match us, hl with | [_, _], _ => rfl
  have F_plus : FunAt K mg "plus" s_plus ["one", "other"] := funAt_mk X G a2.ns a2.lk a2.cd a2.kp fun _ _ _ _ _ _ us hl => match us, hl with | [_, _], _ => rfl
  have F_less : FunAt K mg "less" s_less ["one", "other"] := funAt_mk X G a3.ns a3.lk a3.cd a3.kp fun _ _ _ _ _ _ us hl => match us, hl with | [_, _], _ => rfl
  have F_weighed : FunAt K mg "weighed" s_weighed ["one", "other"] := funAt_mk X G a4.ns a4.lk a4.cd a4.kp fun _ _ _ _ _ _ us hl => match us, hl with | [_, _], _ => rfl
  have F__law_flags : FunAt K mg "_law_flags" s__law_flags ["_law_caught"] := funAt_mk X G a5.ns a5.lk a5.cd a5.kp fun _ _ _ _ _ _ us hl => match us, hl with | [_], _ => rfl
  have F__law_only : FunAt K mg "_law_only" s__law_only ["_law_caught", "_law_name"] := funAt_mk X G a6.ns a6.lk a6.cd a6.kp fun _ _ _ _ _ _ us hl => match us, hl with | [_, _], _ => rfl
  have F__law_at : FunAt K mg "_law_at" s__law_at ["_law_script", "_law_k"] := funAt_mk X G a7.ns a7.lk a7.cd a7.kp fun _ _ _ _ _ _ us hl => match us, hl with | [_, _], _ => rfl
  have F__law_numbers : FunAt K mg "_law_numbers" s__law_numbers ["_law_script", "_law_start", "_law_many", "_law_size"] := funAt_mk X G a8.ns a8.lk a8.cd a8.kp fun _ _ _ _ _ _ us hl => match us, hl with | [_, _, _, _], _ => rfl
  have F__law_asked : FunAt K mg "_law_asked" s__law_asked ["_law_one", "_law_other", "_law_way"] := funAt_mk X G a9.ns a9.lk a9.cd a9.kp fun _ _ _ _ _ _ us hl => match us, hl with | [_, _, _], _ => rfl
  have e := hfa.symm.trans (PySem.W.mg_of X G a10.ns)
  cases e
  refine ⟨PySem.W.fnOf "law" "law" (defArgs s_law) (defBody s_law) (defScope s_law) .none kV10 dc10 pm10 an10 cd10 ct10, fun s v => .of_eq rfl, fun base _ _ => ?_⟩
  have g_check_alike : L2.Callee l.prog w K mg base (CXM l.prog w) 1 "check_alike" ["one", "other"] (spM K (clK K) w_check_alike) := c_check_alike (k := 0) B XT  F_check_alike
  have g_pairs : L2.Callee l.prog w K mg base (CXM l.prog w) 2 "pairs" ["one", "other"] (spM K (clK K) w_pairs) := c_pairs (k := 1) B XT (g_check_alike.mono (by decide)) F_pairs
  have g_plus : L2.Callee l.prog w K mg base (CXM l.prog w) 3 "plus" ["one", "other"] (spM K (clK K) w_plus) := c_plus (k := 2) B XT (g_pairs.mono (by decide)) F_plus
  have g_less : L2.Callee l.prog w K mg base (CXM l.prog w) 3 "less" ["one", "other"] (spM K (clK K) w_less) := c_less (k := 2) B XT (g_pairs.mono (by decide)) F_less
  have g_weighed : L2.Callee l.prog w K mg base (CXM l.prog w) 3 "weighed" ["one", "other"] (spM K (clK K) w_weighed) := c_weighed (k := 2) B XT (g_pairs.mono (by decide)) F_weighed
  have g__law_flags : L2.Callee l.prog w K mg base (CXM l.prog w) 1 "_law_flags" ["_law_caught"] (spM K (clK K) w__law_flags) := c__law_flags (k := 0) B XT  F__law_flags
  have g__law_only : L2.Callee l.prog w K mg base (CXM l.prog w) 2 "_law_only" ["_law_caught", "_law_name"] (spM K (clK K) w__law_only) := c__law_only (k := 1) B XT (g__law_flags.mono (by decide)) F__law_only
  have g__law_at : L2.Callee l.prog w K mg base (CXM l.prog w) 1 "_law_at" ["_law_script", "_law_k"] (spM K (clK K) w__law_at) := c__law_at (k := 0) B XT  F__law_at
  have g__law_numbers : L2.Callee l.prog w K mg base (CXM l.prog w) 1 "_law_numbers" ["_law_script", "_law_start", "_law_many", "_law_size"] (spM K (clK K) w__law_numbers) := c__law_numbers (k := 0) B XT  F__law_numbers
  have g__law_asked : L2.Callee l.prog w K mg base (CXM l.prog w) 4 "_law_asked" ["_law_one", "_law_other", "_law_way"] (spM K (clK K) w__law_asked) := c__law_asked (k := 3) B XT (g_plus.mono (by decide)) (g_less.mono (by decide)) (g_weighed.mono (by decide)) F__law_asked
  exact c_law (k := 4) B XT (g__law_at.mono (by decide)) (g__law_numbers.mono (by decide)) (g__law_asked.mono (by decide)) (g__law_only.mono (by decide)) (fun_mk (st := s_law) a10.lk a10.cd a10.kp)
theorem walk {l : PySem.W.OpenLaw} {q : Program} {loose : List Str} {XP : (Str → Option Value) → Heap → Prop} {YP : World → Heap → Prop} {d : DefRec} {K : Params → PySem.W.Frag} (hn : l.most = some 63) (hdf : d.params.defaults = []) (hw : ∀ ns : List Int, ns.length ≤ 63 → w_law [.lst (ns.map .int)] = .ok (sc (.bl true)))
    (hY : ∀ (w : World) (h : Heap), YP w h → (K w.params).In h) (hL : ∀ P : Params, noL (K P) = true)
    (F : ∀ (w : World) (mg : Str → Option Value) (fa : Addr) (h : Heap), (K w.params).In h → h.Ns mainGlobals mg → mg d.name = some (.ref fa) →
      ∃ fd : FuncData, (∀ (s : Shared) (u : Value), BindsTo s fd ⟨[u], []⟩ [("_law_script", u)]) ∧ ∀ base : Heap, (K w.params).In base → base.Ns mainGlobals mg → FnOk l.prog w (K w.params) mg base (CXM l.prog w) 5 fa fd ["_law_script"] (spM (K w.params) (clK (K w.params)) w_law)) :
    PySem.W.WalkO q loose XP YP l.row.toRowW d [] (fun f vs => PySem.call f vs) :=
  L2.walk_of (n := 63) (k := 5) (x := "_law_script") (CX := fun w => CXM l.prog w) (sp := fun w => spM (K w.params) (clK (K w.params)) w_law) hn (by decide) hdf ⟨rfl, by decide, by decide⟩ hY F (fun w _ _ ns hl _ hS => law_sp (hL w.params) (hw ns hl) hS) fun _ _ _ _ _ ⟨_, _, _, _, _, z⟩ => z
end N2
set_option Elab.async false
set_option linter.all false
set_option maxRecDepth 100000
set_option maxHeartbeats 1000000
namespace N2
open PySem L2 Mir
theorem at_ok (ns : List Int) (k : Nat) : w__law_at [.lst (li ns), .int k] = .ok (sc (.int (ns.getD k 0))) := by
  unfold w__law_at f__law_at
  simp only [seqS, setS, ifS, retS, nilS, exprS, R.at, vE, cE, bT, defR, stE, Res.keep, Res.give, asI, asB, asL, asS, lenE, idxE, ltE, cmpE, addE, subE, mulE, modE, fdvE, powE, i2E, eqE, neE, sc, evs, gives, lstE, tupE, lofE, lstI, callE, R.ok_bind, R.exc_bind, R.stk_bind, R.pure_bind', R.bind, R.pure_eq, Bind.bind, List.map, List.map_cons, List.map_nil, List.length_cons, List.length_nil, List.replicate, List.append, List.cons_append, List.nil_append, List.set, List.getElem?_cons_zero, List.getElem?_cons_succ, D.imm, Bool.or_true, Bool.true_or, Bool.or_false, Bool.false_or, Bool.and_true, Bool.true_and, Bool.and_false, Bool.false_and, if_true, if_false, Bool.false_eq_true, reduceIte, Nat.reduceAdd, Nat.reduceSub, reduceCtorEq]
  by_cases h : k < ns.length
  · have e : atI (li ns) (k : Int) = some (.int ns[k]) := Mir.atI_nat (by simp [h])
    simp [h, e, D.imm]
  · simp [h]
theorem alike_ok (xs ys : List D) (h : xs.length = ys.length) : w_check_alike [.lst xs, .lst ys] = .ok (sc .non) := by
  refine def_nx (ρ := [some ⟨.shr, false, .lst xs⟩, some ⟨.shr, false, .lst ys⟩]) rfl ?_
  unfold f_check_alike
  refine (if_bT (ne_int (len_ok (ds := xs) rfl) (len_ok (ds := ys) rfl))).trans ?_
  simp only [h, decide_true, Bool.not_true, Bool.false_eq_true, if_false]
  rfl
theorem alike_no (xs ys : List D) (h : xs.length ≠ ys.length) : w_check_alike [.lst xs, .lst ys] = .exc ⟨.NotAlike, []⟩ := by
  refine def_exc (ρ := [some ⟨.shr, false, .lst xs⟩, some ⟨.shr, false, .lst ys⟩]) rfl ?_
  unfold f_check_alike
  refine (if_bT (ne_int (len_ok (ds := xs) rfl) (len_ok (ds := ys) rfl))).trans ?_
  have h' : ¬ ((xs.length : Int) = ys.length) := by omega
  rw [decide_eq_false h']
  rfl
theorem pairs_ok (xs ys : List D) (h : xs.length = ys.length) : w_pairs [.lst xs, .lst ys] = .ok ⟨.tmp, false, .lst (zipD xs ys)⟩ := by
  refine def_rt (r := ⟨.tmp, false, .lst (zipD xs ys)⟩) rfl ?_
  unfold f_pairs
  exact (seq_nx (expr_nx (call_sc (evs_cons rfl (evs_cons rfl evs_nil)) (alike_ok xs ys h)))).trans rfl
theorem pairs_no (xs ys : List D) (h : xs.length ≠ ys.length) : w_pairs [.lst xs, .lst ys] = .exc ⟨.NotAlike, []⟩ := by
  refine def_exc (ρ := [some ⟨.shr, false, .lst xs⟩, some ⟨.shr, false, .lst ys⟩]) rfl ?_
  unfold f_pairs
  refine seq_exc (x := ⟨.NotAlike, []⟩) (ρ1 := [some ⟨.shr, false, .lst xs⟩, some ⟨.shr, false, .lst ys⟩]) ?_
  have e : evs [vE 0, vE 1] [some ⟨.shr, false, .lst xs⟩, some ⟨.shr, false, .lst ys⟩] = .ok [⟨.shr, false, .lst xs⟩, ⟨.shr, false, .lst ys⟩] := rfl
  have c : callE w_check_alike [vE 0, vE 1] [some ⟨.shr, false, .lst xs⟩, some ⟨.shr, false, .lst ys⟩] = .exc ⟨.NotAlike, []⟩ := by
    simp only [callE, e, R.ok_bind, List.map_cons, List.map_nil, alike_no xs ys h, R.exc_bind]
  show exprS _ _ = _
  simp only [exprS]
  exact (congrArg (fun z => R.at z _ _) c)
theorem row_ok {C : Int → Int → Bool} {g : Int → Int → Int} (fr : Bool) : ∀ (xs ys : List Int), (∀ x ∈ xs, ∀ y ∈ ys, C x y = true) → cmpL (.tp [.nm 0, .nm 1]) (bE (i2E C g (vE 0) (vE 1))) fr [none, none] (zipD (li xs) (li ys)) = .ok (true, li (List.zipWith g xs ys))
  | [], _, _ => by simp [zipD, cmpL]
  | _ :: _, [], _ => by simp [zipD, cmpL]
  | x :: xs, y :: ys, h => by
    have ih := row_ok (C := C) (g := g) fr xs ys fun a ha b hb => h a (List.mem_cons_of_mem _ ha) b (List.mem_cons_of_mem _ hb)
    unfold zipD at ih ⊢
    have hc := h x List.mem_cons_self y List.mem_cons_self
    simp only [li, List.map_cons, List.zipWith_cons_cons, cmpL, Tg.bind, Tg.binds, R.ok_bind] at ih ⊢
    simp at ih
    simp [bE, i2E, vE, asI, hc, Res.give]
    rw [ih]
    rfl
theorem w2_ok {C : Int → Int → Bool} {g : Int → Int → Int} (xs ys : List Int) (hl : xs.length = ys.length) (hs : xs.length ≤ sizeLine) (hc : ∀ x ∈ xs, ∀ y ∈ ys, C x y = true) :
    cmpE' (lstI (callE w_pairs [vE 0, vE 1])) 2 [] (.tp [.nm 0, .nm 1]) (bE (i2E C g (vE 0) (vE 1))) [some ⟨.shr, false, .lst (li xs)⟩, some ⟨.shr, false, .lst (li ys)⟩] = .ok ⟨.tmp, true, .lst (li (List.zipWith g xs ys))⟩ := by
  have p := pairs_ok (li xs) (li ys) (by simpa using hl)
  have r := row_ok (g := g) false xs ys hc
  have l : (zipD (li xs) (li ys)).length ≤ sizeLine := by simp [zipD, hl]; omega
  simp only [cmpE', cmpEnv, List.replicate, List.map_nil, List.append_nil]
  simp only [seqS, setS, ifS, retS, nilS, exprS, R.at, vE, cE, bT, defR, stE, Res.keep, Res.give, asI, asB, asL, asS, lenE, idxE, ltE, cmpE, addE, subE, mulE, modE, fdvE, powE, i2E, eqE, neE, sc, evs, gives, lstE, tupE, lofE, lstI, callE, R.ok_bind, R.exc_bind, R.stk_bind, R.pure_bind', R.bind, R.pure_eq, Bind.bind, List.map, List.map_cons, List.map_nil, List.length_cons, List.length_nil, List.replicate, List.append, List.cons_append, List.nil_append, List.set, List.getElem?_cons_zero, List.getElem?_cons_succ, D.imm, Bool.or_true, Bool.true_or, Bool.or_false, Bool.false_or, Bool.and_true, Bool.true_and, Bool.and_false, Bool.false_and, if_true, if_false, Bool.false_eq_true, reduceIte, Nat.reduceAdd, Nat.reduceSub, reduceCtorEq]
  simp only [p, R.ok_bind]
  simp [D.imm, r, l, vE, Res.give]
theorem w2_no (xs ys : List Int) (b : FB) (hl : xs.length ≠ ys.length) : cmpE' (lstI (callE w_pairs [vE 0, vE 1])) 2 [] (.tp [.nm 0, .nm 1]) b [some ⟨.shr, false, .lst (li xs)⟩, some ⟨.shr, false, .lst (li ys)⟩] = .exc ⟨.NotAlike, []⟩ := by
  have p := pairs_no (li xs) (li ys) (by simpa using hl)
  simp only [cmpE']
  simp only [seqS, setS, ifS, retS, nilS, exprS, R.at, vE, cE, bT, defR, stE, Res.keep, Res.give, asI, asB, asL, asS, lenE, idxE, ltE, cmpE, addE, subE, mulE, modE, fdvE, powE, i2E, eqE, neE, sc, evs, gives, lstE, tupE, lofE, lstI, callE, R.ok_bind, R.exc_bind, R.stk_bind, R.pure_bind', R.bind, R.pure_eq, Bind.bind, List.map, List.map_cons, List.map_nil, List.length_cons, List.length_nil, List.replicate, List.append, List.cons_append, List.nil_append, List.set, List.getElem?_cons_zero, List.getElem?_cons_succ, D.imm, Bool.or_true, Bool.true_or, Bool.or_false, Bool.false_or, Bool.and_true, Bool.true_and, Bool.and_false, Bool.false_and, if_true, if_false, Bool.false_eq_true, reduceIte, Nat.reduceAdd, Nat.reduceSub, reduceCtorEq]
  simp only [p, R.exc_bind]
theorem plus_ok (xs ys : List Int) (hl : xs.length = ys.length) (hs : xs.length ≤ sizeLine) : ∃ d, w_plus [.lst (li xs), .lst (li ys)] = .ok ⟨.tmp, true, d⟩ :=
  ⟨_, def_rt (r := ⟨.tmp, true, _⟩) rfl (by unfold f_plus; simp only [retS, addE, stE]; exact congrArg (fun z => R.at z _ _) (w2_ok (C := C0) (g := fun i j => i + j) xs ys hl hs fun _ _ _ _ => rfl))⟩
theorem less_ok (xs ys : List Int) (hl : xs.length = ys.length) (hs : xs.length ≤ sizeLine) : ∃ d, w_less [.lst (li xs), .lst (li ys)] = .ok ⟨.tmp, true, d⟩ :=
  ⟨_, def_rt (r := ⟨.tmp, true, _⟩) rfl (by unfold f_less; simp only [retS, subE, stE]; exact congrArg (fun z => R.at z _ _) (w2_ok (C := C0) (g := fun i j => i - j) xs ys hl hs fun _ _ _ _ => rfl))⟩
theorem weighed_ok (xs ys : List Int) (hl : xs.length = ys.length) (hs : xs.length ≤ sizeLine) (hc : ∀ x ∈ xs, ∀ y ∈ ys, CM x y = true) : ∃ d, w_weighed [.lst (li xs), .lst (li ys)] = .ok (sc (.int d)) := by
  refine ⟨(List.zipWith (fun i j => i * j) xs ys).sum, def_rt (r := sc (.int _)) rfl ?_⟩
  have := w2_ok (C := CM) (g := fun i j => i * j) xs ys hl hs hc
  unfold f_weighed
  simp only [retS, sumE, mulE]
  simp only [stE, List.map_cons, List.map_nil, List.length_cons, List.length_nil, Nat.reduceAdd, Nat.sub_self, List.replicate, List.append_nil]
  simp only [this, R.ok_bind, asL, ints_li, R.at, sc, if_true]
theorem plus_no (xs ys : List Int) (hl : xs.length ≠ ys.length) : w_plus [.lst (li xs), .lst (li ys)] = .exc ⟨.NotAlike, []⟩ :=
  def_exc (ρ := [some ⟨.shr, false, .lst (li xs)⟩, some ⟨.shr, false, .lst (li ys)⟩]) rfl (by unfold f_plus; simp only [retS]; exact congrArg (fun z => R.at z _ _) (w2_no xs ys _ hl))
theorem less_no (xs ys : List Int) (hl : xs.length ≠ ys.length) : w_less [.lst (li xs), .lst (li ys)] = .exc ⟨.NotAlike, []⟩ :=
  def_exc (ρ := [some ⟨.shr, false, .lst (li xs)⟩, some ⟨.shr, false, .lst (li ys)⟩]) rfl (by unfold f_less; simp only [retS]; exact congrArg (fun z => R.at z _ _) (w2_no xs ys _ hl))
theorem weighed_no (xs ys : List Int) (hl : xs.length ≠ ys.length) : w_weighed [.lst (li xs), .lst (li ys)] = .exc ⟨.NotAlike, []⟩ := by
  refine def_exc (ρ := [some ⟨.shr, false, .lst (li xs)⟩, some ⟨.shr, false, .lst (li ys)⟩]) rfl ?_
  have := w2_no xs ys (bE (mulE (vE 0) (vE 1))) hl
  unfold f_weighed
  simp only [retS, sumE]
  simp only [stE, List.map_cons, List.map_nil, List.length_cons, List.length_nil, Nat.reduceAdd, Nat.sub_self, List.replicate, List.append_nil]
  simp only [this, R.exc_bind, R.at]
theorem only_ok : w__law_only [.exc .NotAlike [], .str "NotAlike"] = .ok (sc (.bl true)) := by
  kernel_rfl
theorem call_some {φ : Φ} {xs ys : List D} {k : Kd} {d : D} {a b c : Option Res} (h : φ [.lst xs, .lst ys] = .ok ⟨k, true, d⟩) : exprS (callE φ [vE 0, vE 1]) [some ⟨.shr, false, .lst xs⟩, some ⟨.shr, false, .lst ys⟩, a, b, c] = .nx [some ⟨.shr, false, .lst xs⟩, some ⟨.shr, false, .lst ys⟩, a, b, c] := by
  simp only [seqS, setS, ifS, retS, nilS, exprS, R.at, vE, cE, bT, defR, stE, Res.keep, Res.give, asI, asB, asL, asS, lenE, idxE, ltE, cmpE, addE, subE, mulE, modE, fdvE, powE, i2E, eqE, neE, sc, evs, gives, lstE, tupE, lofE, lstI, callE, R.ok_bind, R.exc_bind, R.stk_bind, R.pure_bind', R.bind, R.pure_eq, Bind.bind, List.map, List.map_cons, List.map_nil, List.length_cons, List.length_nil, List.replicate, List.append, List.cons_append, List.nil_append, List.set, List.getElem?_cons_zero, List.getElem?_cons_succ, D.imm, Bool.or_true, Bool.true_or, Bool.or_false, Bool.false_or, Bool.and_true, Bool.true_and, Bool.and_false, Bool.false_and, if_true, if_false, Bool.false_eq_true, reduceIte, Nat.reduceAdd, Nat.reduceSub, reduceCtorEq]
  simp [h]
theorem call_exc {φ : Φ} {xs ys : List D} {x : Xc} {a b c : Option Res} (h : φ [.lst xs, .lst ys] = .exc x) : exprS (callE φ [vE 0, vE 1]) [some ⟨.shr, false, .lst xs⟩, some ⟨.shr, false, .lst ys⟩, a, b, c] = .exc x [some ⟨.shr, false, .lst xs⟩, some ⟨.shr, false, .lst ys⟩, a, b, c] := by
  simp only [seqS, setS, ifS, retS, nilS, exprS, R.at, vE, cE, bT, defR, stE, Res.keep, Res.give, asI, asB, asL, asS, lenE, idxE, ltE, cmpE, addE, subE, mulE, modE, fdvE, powE, i2E, eqE, neE, sc, evs, gives, lstE, tupE, lofE, lstI, callE, R.ok_bind, R.exc_bind, R.stk_bind, R.pure_bind', R.bind, R.pure_eq, Bind.bind, List.map, List.map_cons, List.map_nil, List.length_cons, List.length_nil, List.replicate, List.append, List.cons_append, List.nil_append, List.set, List.getElem?_cons_zero, List.getElem?_cons_succ, D.imm, Bool.or_true, Bool.true_or, Bool.or_false, Bool.false_or, Bool.and_true, Bool.true_and, Bool.and_false, Bool.false_and, if_true, if_false, Bool.false_eq_true, reduceIte, Nat.reduceAdd, Nat.reduceSub, reduceCtorEq]
  simp [h]
theorem way_eq {w j : Int} {xs ys : List D} {b c : Option Res} : eqE (vE 2) (cE (.int j)) [some ⟨.shr, false, .lst xs⟩, some ⟨.shr, false, .lst ys⟩, some ⟨.shr, false, .int w⟩, b, c] = .ok ⟨.shr, true, .bl (decide (w = j))⟩ := by
  simp only [seqS, setS, ifS, retS, nilS, exprS, R.at, vE, cE, bT, defR, stE, Res.keep, Res.give, asI, asB, asL, asS, lenE, idxE, ltE, cmpE, addE, subE, mulE, modE, fdvE, powE, i2E, eqE, neE, sc, evs, gives, lstE, tupE, lofE, lstI, callE, R.ok_bind, R.exc_bind, R.stk_bind, R.pure_bind', R.bind, R.pure_eq, Bind.bind, List.map, List.map_cons, List.map_nil, List.length_cons, List.length_nil, List.replicate, List.append, List.cons_append, List.nil_append, List.set, List.getElem?_cons_zero, List.getElem?_cons_succ, D.imm, Bool.or_true, Bool.true_or, Bool.or_false, Bool.false_or, Bool.and_true, Bool.true_and, Bool.and_false, Bool.false_and, if_true, if_false, Bool.false_eq_true, reduceIte, Nat.reduceAdd, Nat.reduceSub, reduceCtorEq]
  simp [eqv_int]
abbrev answ (same : Bool) : D := if same then .non else .exc .NotAlike []
theorem asked_ok (xs ys : List Int) (hs : xs.length ≤ sizeLine) (hc : ∀ x ∈ xs, ∀ y ∈ ys, CM x y = true) (w : Nat) (hw : w < 3) : w__law_asked [.lst (li xs), .lst (li ys), .int w] = .ok (sc (answ (decide (xs.length = ys.length)))) := by
  refine def_rt (r := sc (answ (decide (xs.length = ys.length)))) rfl ?_ |>.trans ?_
  · unfold f__law_asked
    refine (seq_nx (ρ1 := [some ⟨.shr, false, .lst (li xs)⟩, some ⟨.shr, false, .lst (li ys)⟩, some ⟨.shr, false, .int w⟩, some (sc .non), none]) (by rfl)).trans ?_
    by_cases hl : xs.length = ys.length
    · refine (seq_nx (ρ1 := [some ⟨.shr, false, .lst (li xs)⟩, some ⟨.shr, false, .lst (li ys)⟩, some ⟨.shr, false, .int w⟩, some (sc .non), none]) ?_).trans ?_
      · unfold tryS
        rw [if_bT way_eq, if_bT way_eq]
        obtain ⟨d1, e1⟩ := plus_ok xs ys hl hs
        obtain ⟨d2, e2⟩ := less_ok xs ys hl hs
        obtain ⟨d3, e3⟩ := weighed_ok xs ys hl hs hc
        rw [call_some e1, call_some e2, call_some e3]
        simp
      · simp [hl, retS, vE, R.at, D.imm]
    · refine (seq_nx (ρ1 := [some ⟨.shr, false, .lst (li xs)⟩, some ⟨.shr, false, .lst (li ys)⟩, some ⟨.shr, false, .int w⟩, some (sc (.exc .NotAlike [])), none]) ?_).trans ?_
      · unfold tryS
        rw [if_bT way_eq, if_bT way_eq]
        rw [call_exc (plus_no xs ys hl), call_exc (less_no xs ys hl), call_exc (weighed_no xs ys hl)]
        simp
      · simp [hl, retS, vE, R.at, D.imm, D.imms]
  · by_cases hl : xs.length = ys.length <;> simp [hl, D.imm, D.imms]
end N2
set_option Elab.async false
set_option linter.all false
set_option maxRecDepth 100000
set_option maxHeartbeats 1000000
namespace N2
open PySem L2 Mir
theorem eqv_two (xs ys : List Int) : eqvR (.lst [.lst (li xs), .lst (li ys)]) (.lst [.lst (li xs), .lst (li ys)]) = .ok true := by
  have e : toPy (.lst [.lst (li xs), .lst (li ys)]) = some (.list [.list (xs.map .int), .list (ys.map .int)]) := by
    have a := toPys_li xs
    have b := toPys_li ys
    simp [toPy, toPys, a, b]
  have s : SeqAt.shaped (.list [.list (xs.map .int), .list (ys.map .int)]) = true := by
    have h1 := PySem.W.depthAll_ints xs
    have h2 := PySem.W.depthAll_ints ys
    have h3 := PySem.W.canLayAll0_ints xs
    have h4 := PySem.W.canLayAll0_ints ys
    have dp : PyData.depth (.list [.list (xs.map .int), .list (ys.map .int)]) ≤ 64 := by
      simp only [PyData.depth, PyData.depthAll]
      omega
    have cl : PyData.canLay0 (.list [.list (xs.map .int), .list (ys.map .int)]) = true := by
      simp only [PyData.canLay0, PyData.canLayAll0, h3, h4, Bool.and_true]
    unfold SeqAt.shaped
    rw [cl, decide_eq_true dp]
    rfl
  have q : PyData.eqv (.list [.list (xs.map .int), .list (ys.map .int)]) (.list [.list (xs.map .int), .list (ys.map .int)]) = true := by
    simp [PyData.eqv, PyData.eqvAll, eqvs_ints]
  simp [eqvR, e, s, q]
abbrev ibody : FS := (seqS (setS 9 (callE w__law_asked [vE 7, vE 8, vE 6]))
        (seqS (ifS (andT (bT (eqE (vE 1) (vE 2))) (bT (notNE (vE 9))))
          (retS (cE (.bl false)))
          nilS)
        (ifS (andT (bT (neE (vE 1) (vE 2))) (notT (bT (callE w__law_only [vE 9, cE (.str "NotAlike")]))))
          (retS (cE (.bl false)))
          nilS)))
section
variable (M N : Nat) (xs ys : List Int) (w : Nat) (hw : w < 3)
include hw
theorem i_step {X Y : List Int} (a b c d x9 : Option Res) (hX : X.length ≤ sizeLine) (hc : ∀ x ∈ X, ∀ y ∈ Y, CM x y = true) (hl : decide (X.length = Y.length) = decide (M = N)) :
    ibody [a, some (sc (.int M)), some (sc (.int N)), b, c, d, some ⟨.shr, true, .int w⟩, some ⟨.shr, true, .lst (li X)⟩, some ⟨.shr, true, .lst (li Y)⟩, x9] =
      .nx [a, some (sc (.int M)), some (sc (.int N)), b, c, d, some ⟨.shr, true, .int w⟩, some ⟨.shr, true, .lst (li X)⟩, some ⟨.shr, true, .lst (li Y)⟩, some (sc (answ (decide (M = N))))] := by
  have e := asked_ok X Y hX hc w hw
  rw [hl] at e
  unfold ibody
  refine (seq_nx (ρ1 := [a, some (sc (.int M)), some (sc (.int N)), b, c, d, some ⟨.shr, true, .int w⟩, some ⟨.shr, true, .lst (li X)⟩, some ⟨.shr, true, .lst (li Y)⟩, some (sc (answ (decide (M = N))))]) ?_).trans ?_
  · simp only [seqS, setS, ifS, retS, nilS, exprS, R.at, vE, cE, bT, defR, stE, Res.keep, Res.give, asI, asB, asL, asS, lenE, idxE, ltE, cmpE, addE, subE, mulE, modE, fdvE, powE, i2E, eqE, neE, sc, evs, gives, lstE, tupE, lofE, lstI, callE, R.ok_bind, R.exc_bind, R.stk_bind, R.pure_bind', R.bind, R.pure_eq, Bind.bind, List.map, List.map_cons, List.map_nil, List.length_cons, List.length_nil, List.replicate, List.append, List.cons_append, List.nil_append, List.set, List.getElem?_cons_zero, List.getElem?_cons_succ, D.imm, Bool.or_true, Bool.true_or, Bool.or_false, Bool.false_or, Bool.and_true, Bool.true_and, Bool.and_false, Bool.false_and, if_true, if_false, Bool.false_eq_true, reduceIte, Nat.reduceAdd, Nat.reduceSub, reduceCtorEq]
    simp only [e, sc, R.ok_bind, if_true]
  · by_cases h : M = N
    · subst h
      simp [seqS, ifS, andT, bT, eqE, neE, notNE, vE, eqv_int, asB, isNR, isND, R.at, D.imm, nilS, answ]
    · have h' : ¬ ((M : Int) = N) := by omega
      have o := only_ok
      simp [seqS, ifS, andT, notT, bT, eqE, neE, notNE, vE, eqv_int, asB, isNR, isND, R.at, D.imm, D.imms, nilS, h, h', callE, evs, cE, o, answ]
abbrev inner : FS := frzS 4 (frzS 3 (forS (lstI (lstE [tupE [vE 3, vE 4], tupE [vE 4, vE 3]])) (.tp [.nm 7, .nm 8]) ibody))
theorem inner_ok {k : Kd} (a d x7 x8 x9 : Option Res) (h1 : xs.length = M) (h2 : ys.length = N) (hx : xs.length ≤ sizeLine) (hy : ys.length ≤ sizeLine) (hc : ∀ x ∈ xs, ∀ y ∈ ys, CM x y = true) (hc' : ∀ y ∈ ys, ∀ x ∈ xs, CM y x = true) :
    ∃ y7 y8 y9, inner [a, some (sc (.int M)), some (sc (.int N)), some ⟨k, true, .lst (li xs)⟩, some ⟨k, true, .lst (li ys)⟩, d, some ⟨.shr, true, .int w⟩, x7, x8, x9] =
      .nx [a, some (sc (.int M)), some (sc (.int N)), some ⟨.shr, true, .lst (li xs)⟩, some ⟨.shr, true, .lst (li ys)⟩, d, some ⟨.shr, true, .int w⟩, y7, y8, y9] := by
  have s2 : (2 : Nat) ≤ sizeLine := by decide
  have e1 := i_step M N w hw (X := xs) (Y := ys) a (some ⟨.shr, true, .lst (li xs)⟩) (some ⟨.shr, true, .lst (li ys)⟩) d x9 hx hc (by rw [h1, h2])
  have e2 := i_step M N w hw (X := ys) (Y := xs) a (some ⟨.shr, true, .lst (li xs)⟩) (some ⟨.shr, true, .lst (li ys)⟩) d (some (sc (answ (decide (M = N))))) hy hc' (by rw [h1, h2]; exact decide_eq_decide.mpr eq_comm)
  refine ⟨some ⟨.shr, true, .lst (li ys)⟩, some ⟨.shr, true, .lst (li xs)⟩, some (sc (answ (decide (M = N)))), ?_⟩
  unfold inner
  simp only [frzS, frz, List.getElem?_cons_zero, List.getElem?_cons_succ, List.set]
  refine (for_ok (fr := true) (ds := [.tup [.lst (li xs), .lst (li ys)], .tup [.lst (li ys), .lst (li xs)]]) ?_).trans ?_
  · simp [lstI, lstE, tupE, evs, gives, Res.give, vE, asL, s2, D.imm, D.imms]
  · simp only [forL, Tg.bind, Tg.binds, R.ok_bind, R.at, List.set, e1]
    simp only [e2]
end
theorem outer_ok (M N : Nat) (xs ys : List Int) (a d : Option Res) (h1 : xs.length = M) (h2 : ys.length = N) (hx : xs.length ≤ sizeLine) (hy : ys.length ≤ sizeLine) (hc : ∀ x ∈ xs, ∀ y ∈ ys, CM x y = true) (hc' : ∀ y ∈ ys, ∀ x ∈ xs, CM y x = true) :
    ∃ y6 y7 y8 y9, forS (rng1I (cE (.int 3))) (.nm 6) inner [a, some (sc (.int M)), some (sc (.int N)), some ⟨.own, true, .lst (li xs)⟩, some ⟨.own, true, .lst (li ys)⟩, d, none, none, none, none] =
      .nx [a, some (sc (.int M)), some (sc (.int N)), some ⟨.shr, true, .lst (li xs)⟩, some ⟨.shr, true, .lst (li ys)⟩, d, y6, y7, y8, y9] := by
  obtain ⟨p7, p8, p9, e1⟩ := inner_ok M N xs ys 0 (by omega) (k := .own) a d none none none h1 h2 hx hy hc hc'
  obtain ⟨q7, q8, q9, e2⟩ := inner_ok M N xs ys 1 (by omega) (k := .shr) a d p7 p8 p9 h1 h2 hx hy hc hc'
  obtain ⟨r7, r8, r9, e3⟩ := inner_ok M N xs ys 2 (by omega) (k := .shr) a d q7 q8 q9 h1 h2 hx hy hc hc'
  refine ⟨some ⟨.shr, true, .int 2⟩, r7, r8, r9, ?_⟩
  refine (for_ok (fr := true) (ds := [.int 0, .int 1, .int 2]) (by rfl)).trans ?_
  simp only [forL, Tg.bind, R.at, List.set]
  have e1' : inner [a, some (sc (.int M)), some (sc (.int N)), some ⟨.own, true, .lst (li xs)⟩, some ⟨.own, true, .lst (li ys)⟩, d, some ⟨.shr, true, .int 0⟩, none, none, none] = _ := e1
  have e2' : inner [a, some (sc (.int M)), some (sc (.int N)), some ⟨.shr, true, .lst (li xs)⟩, some ⟨.shr, true, .lst (li ys)⟩, d, some ⟨.shr, true, .int 1⟩, p7, p8, p9] = _ := e2
  have e3' : inner [a, some (sc (.int M)), some (sc (.int N)), some ⟨.shr, true, .lst (li xs)⟩, some ⟨.shr, true, .lst (li ys)⟩, d, some ⟨.shr, true, .int 2⟩, q7, q8, q9] = _ := e3
  rw [e1']
  simp only [List.set]
  rw [e2']
  simp only [List.set]
  rw [e3']
  rfl
abbrev SZ : Int := 10 ^ (60 : Int).toNat / 2 - 1
theorem sz0 : 0 ≤ SZ := by decide +kernel
theorem sz1 : SZ.natAbs < 2 ^ 250 := by decide +kernel
abbrev szE : FE := subE (fdvE (powE (cE (.int 10)) (cE (.int 60))) (cE (.int 2))) (cE (.int 1))
theorem sz_ok (ρ : Mir.Env) : szE ρ = .ok (sc (.int SZ)) := by
  have c1 : CW 10 60 = true := by decide +kernel
  have c2 : ∀ i, CD i 2 = true := fun i => by show (decide ((0 : Int) < 2) && decide ((2 : Int).natAbs.log2 < 9000)) = true; decide +kernel
  unfold szE subE fdvE powE
  simp only [i2E, cE, sc, asI, R.ok_bind, c1, c2, if_true, C0]
theorem at0 (ns : List Int) : w__law_at [.lst (li ns), .int 0] = .ok (sc (.int (ns.getD 0 0))) := at_ok ns 0
theorem at1 (ns : List Int) : w__law_at [.lst (li ns), .int 1] = .ok (sc (.int (ns.getD 1 0))) := at_ok ns 1
theorem CMs {xs ys : List Int} (h1 : ∀ v ∈ xs, v.natAbs ≤ SZ.natAbs) (h2 : ∀ v ∈ ys, v.natAbs ≤ SZ.natAbs) : ∀ x ∈ xs, ∀ y ∈ ys, CM x y = true := fun x hx y hy =>
  CM_of (lt1000 (Nat.lt_of_le_of_lt (h1 x hx) sz1)) (lt1000 (Nat.lt_of_le_of_lt (h2 y hy) sz1))
theorem sl13 : (13 : Nat) ≤ sizeLine := by decide
theorem sl2 : (2 : Nat) ≤ sizeLine := by decide
section
variable (ns : List Int) (M N N0 : Nat) (L1 L2 : List Int)
theorem st1 (h : ns.getD 0 0 % 13 = M) : setS 1 (modE (callE w__law_at [vE 0, cE (.int 0)]) (cE (.int 13))) [some ⟨.shr, false, .lst (li ns)⟩, none, none, none, none, none, none, none, none, none] = .nx [some ⟨.shr, false, .lst (li ns)⟩, some (sc (.int M)), none, none, none, none, none, none, none, none] := by
  have c13 : ∀ i, CP i 13 = true := fun i => by show decide ((0 : Int) < 13) = true; decide
  simp only [seqS, setS, ifS, retS, nilS, exprS, R.at, vE, cE, bT, defR, stE, Res.keep, Res.give, asI, asB, asL, asS, lenE, idxE, ltE, cmpE, addE, subE, mulE, modE, fdvE, powE, i2E, eqE, neE, sc, evs, gives, lstE, tupE, lofE, lstI, callE, R.ok_bind, R.exc_bind, R.stk_bind, R.pure_bind', R.bind, R.pure_eq, Bind.bind, List.map, List.map_cons, List.map_nil, List.length_cons, List.length_nil, List.replicate, List.append, List.cons_append, List.nil_append, List.set, List.getElem?_cons_zero, List.getElem?_cons_succ, D.imm, Bool.or_true, Bool.true_or, Bool.or_false, Bool.false_or, Bool.and_true, Bool.true_and, Bool.and_false, Bool.false_and, if_true, if_false, Bool.false_eq_true, reduceIte, Nat.reduceAdd, Nat.reduceSub, reduceCtorEq]
  simp only [at0, sc, R.ok_bind, if_true, c13, h]
theorem st4 {φ : Φ} {F : FE} {q : Int} (z : F [some ⟨.shr, false, .lst (li ns)⟩, some (sc (.int M)), some (sc (.int N)), none, none, none, none, none, none, none] = .ok (sc (.int q))) (a3 : φ [.lst (li ns), .int 2, .int M, .int q] = .ok ⟨.tmp, true, .lst (li L1)⟩) :
    setS 3 (callE φ [vE 0, cE (.int 2), vE 1, F]) [some ⟨.shr, false, .lst (li ns)⟩, some (sc (.int M)), some (sc (.int N)), none, none, none, none, none, none, none] = .nx [some ⟨.shr, false, .lst (li ns)⟩, some (sc (.int M)), some (sc (.int N)), some ⟨.own, true, .lst (li L1)⟩, none, none, none, none, none, none] := by
  simp only [sc] at z
  simp [setS, callE, evs, vE, cE, z, a3, R.at, Res.keep, D.imm]
theorem st5 {φ : Φ} {F : FE} {q : Int} (z : F [some ⟨.shr, false, .lst (li ns)⟩, some (sc (.int M)), some (sc (.int N)), some ⟨.own, true, .lst (li L1)⟩, none, none, none, none, none, none] = .ok (sc (.int q))) (b3 : φ [.lst (li ns), .int (2 + M), .int N, .int q] = .ok ⟨.tmp, true, .lst (li L2)⟩) :
    setS 4 (callE φ [vE 0, addE (cE (.int 2)) (vE 1), vE 2, F]) [some ⟨.shr, false, .lst (li ns)⟩, some (sc (.int M)), some (sc (.int N)), some ⟨.own, true, .lst (li L1)⟩, none, none, none, none, none, none] = .nx [some ⟨.shr, false, .lst (li ns)⟩, some (sc (.int M)), some (sc (.int N)), some ⟨.own, true, .lst (li L1)⟩, some ⟨.own, true, .lst (li L2)⟩, none, none, none, none, none] := by
  simp only [sc] at z
  simp [setS, callE, evs, vE, cE, z, addE, i2E, C0, asI, b3, R.at, Res.keep, D.imm]
theorem st6 : setS 5 (lstE [lofE (vE 3), lofE (vE 4)]) [some ⟨.shr, false, .lst (li ns)⟩, some (sc (.int M)), some (sc (.int N)), some ⟨.own, true, .lst (li L1)⟩, some ⟨.own, true, .lst (li L2)⟩, none, none, none, none, none] = .nx [some ⟨.shr, false, .lst (li ns)⟩, some (sc (.int M)), some (sc (.int N)), some ⟨.own, true, .lst (li L1)⟩, some ⟨.own, true, .lst (li L2)⟩, some ⟨.own, true, .lst [.lst (li L1), .lst (li L2)]⟩, none, none, none, none] := by
  simp [setS, lstE, lofE, evs, gives, Res.give, vE, asS, R.at, Res.keep, D.imm, sl2]
theorem st8 (a b c y6 y7 y8 y9 : Option Res) : frzS 4 (frzS 3 (retS (eqE (lstE [vE 3, vE 4]) (vE 5)))) [a, b, c, some ⟨.shr, true, .lst (li L1)⟩, some ⟨.shr, true, .lst (li L2)⟩, some ⟨.own, true, .lst [.lst (li L1), .lst (li L2)]⟩, y6, y7, y8, y9] = .rt (sc (.bl true)) := by
  simp [frzS, frz, retS, eqE, lstE, evs, gives, Res.give, vE, R.at, D.imm, sl2, eqv_two]
end
theorem law_ok (ns : List Int) : w_law [.lst (li ns)] = .ok (sc (.bl true)) := by
  obtain ⟨M, hM⟩ := Int.eq_ofNat_of_zero_le (Int.emod_nonneg (ns.getD 0 0) (show (13 : Int) ≠ 0 by decide))
  obtain ⟨N0, hN0⟩ := Int.eq_ofNat_of_zero_le (Int.emod_nonneg (ns.getD 1 0) (show (13 : Int) ≠ 0 by decide))
  have m1 := Int.emod_lt_of_pos (ns.getD 0 0) (show (0 : Int) < 13 by decide)
  have n1 := Int.emod_lt_of_pos (ns.getD 1 0) (show (0 : Int) < 13 by decide)
  have c13 : ∀ i, CP i 13 = true := fun i => by show decide ((0 : Int) < 13) = true; decide
  have c3 : ∀ i, CP i 3 = true := fun i => by show decide ((0 : Int) < 3) = true; decide
  have d13 : ∀ i, CD i 13 = true := fun i => by show (decide ((0 : Int) < 13) && decide ((13 : Int).natAbs.log2 < 9000)) = true; decide +kernel
  refine (def_rt (r := sc (.bl true)) rfl ?_).trans (by rfl)
  unfold f_law
  refine (seq_nx (ρ1 := [some ⟨.shr, false, .lst (li ns)⟩, some (sc (.int M)), none, none, none, none, none, none, none, none]) ?_).trans ?_
  · exact st1 ns M hM
  refine (seq_nx (ρ1 := [some ⟨.shr, false, .lst (li ns)⟩, some (sc (.int M)), some (sc (.int N0)), none, none, none, none, none, none, none]) ?_).trans ?_
  · simp only [seqS, setS, ifS, retS, nilS, exprS, R.at, vE, cE, bT, defR, stE, Res.keep, Res.give, asI, asB, asL, asS, lenE, idxE, ltE, cmpE, addE, subE, mulE, modE, fdvE, powE, i2E, eqE, neE, sc, evs, gives, lstE, tupE, lofE, lstI, callE, R.ok_bind, R.exc_bind, R.stk_bind, R.pure_bind', R.bind, R.pure_eq, Bind.bind, List.map, List.map_cons, List.map_nil, List.length_cons, List.length_nil, List.replicate, List.append, List.cons_append, List.nil_append, List.set, List.getElem?_cons_zero, List.getElem?_cons_succ, D.imm, Bool.or_true, Bool.true_or, Bool.or_false, Bool.false_or, Bool.and_true, Bool.true_and, Bool.and_false, Bool.false_and, if_true, if_false, Bool.false_eq_true, reduceIte, Nat.reduceAdd, Nat.reduceSub, reduceCtorEq]
    simp only [at1, sc, R.ok_bind, if_true, c13, hN0]
  obtain ⟨N, hN, e3⟩ : ∃ N : Nat, N ≤ 12 ∧ ifS (bT (eqE (modE (fdvE (callE w__law_at [vE 0, cE (.int 1)]) (cE (.int 13))) (cE (.int 3))) (cE (.int 1)))) (setS 2 (vE 1)) nilS [some ⟨.shr, false, .lst (li ns)⟩, some (sc (.int M)), some (sc (.int N0)), none, none, none, none, none, none, none] =
      .nx [some ⟨.shr, false, .lst (li ns)⟩, some (sc (.int M)), some (sc (.int N)), none, none, none, none, none, none, none] := by
    have t : eqE (modE (fdvE (callE w__law_at [vE 0, cE (.int 1)]) (cE (.int 13))) (cE (.int 3))) (cE (.int 1)) [some ⟨.shr, false, .lst (li ns)⟩, some (sc (.int M)), some (sc (.int N0)), none, none, none, none, none, none, none] = .ok ⟨.shr, true, .bl (decide (ns.getD 1 0 / 13 % 3 = 1))⟩ := by
      simp only [seqS, setS, ifS, retS, nilS, exprS, R.at, vE, cE, bT, defR, stE, Res.keep, Res.give, asI, asB, asL, asS, lenE, idxE, ltE, cmpE, addE, subE, mulE, modE, fdvE, powE, i2E, eqE, neE, sc, evs, gives, lstE, tupE, lofE, lstI, callE, R.ok_bind, R.exc_bind, R.stk_bind, R.pure_bind', R.bind, R.pure_eq, Bind.bind, List.map, List.map_cons, List.map_nil, List.length_cons, List.length_nil, List.replicate, List.append, List.cons_append, List.nil_append, List.set, List.getElem?_cons_zero, List.getElem?_cons_succ, D.imm, Bool.or_true, Bool.true_or, Bool.or_false, Bool.false_or, Bool.and_true, Bool.true_and, Bool.and_false, Bool.false_and, if_true, if_false, Bool.false_eq_true, reduceIte, Nat.reduceAdd, Nat.reduceSub, reduceCtorEq]
      simp only [at1, sc, R.ok_bind, if_true, c3, d13, eqv_int]
    rw [if_bT t]
    by_cases z : ns.getD 1 0 / 13 % 3 = 1
    · exact ⟨M, by omega, by rw [decide_eq_true z]; rfl⟩
    · exact ⟨N0, by omega, by rw [decide_eq_false z]; rfl⟩
  refine (seq_nx e3).trans ?_
  obtain ⟨L1, a1, a2, a3⟩ := numbers_ok ns 2 M SZ sz0 sz1 (by omega) (Nat.le_trans (show M ≤ 13 by omega) sl13)
  obtain ⟨L2, b1, b2, b3⟩ := numbers_ok ns (2 + M) N SZ sz0 sz1 (by omega) (Nat.le_trans (show N ≤ 13 by omega) sl13)
  have a3' : w__law_numbers [.lst (li ns), .int 2, .int M, .int SZ] = .ok ⟨.tmp, true, .lst (li L1)⟩ := a3
  have b3' : w__law_numbers [.lst (li ns), .int (2 + M), .int N, .int SZ] = .ok ⟨.tmp, true, .lst (li L2)⟩ := by have := b3; push_cast at this; exact this
  refine (seq_nx (ρ1 := [some ⟨.shr, false, .lst (li ns)⟩, some (sc (.int M)), some (sc (.int N)), some ⟨.own, true, .lst (li L1)⟩, none, none, none, none, none, none]) ?_).trans ?_
  · exact st4 ns M N L1 (sz_ok _) a3'
  refine (seq_nx (ρ1 := [some ⟨.shr, false, .lst (li ns)⟩, some (sc (.int M)), some (sc (.int N)), some ⟨.own, true, .lst (li L1)⟩, some ⟨.own, true, .lst (li L2)⟩, none, none, none, none, none]) ?_).trans ?_
  · exact st5 ns M N L1 L2 (sz_ok _) b3'
  refine (seq_nx (ρ1 := [some ⟨.shr, false, .lst (li ns)⟩, some (sc (.int M)), some (sc (.int N)), some ⟨.own, true, .lst (li L1)⟩, some ⟨.own, true, .lst (li L2)⟩, some ⟨.own, true, .lst [.lst (li L1), .lst (li L2)]⟩, none, none, none, none]) ?_).trans ?_
  · exact st6 ns M N L1 L2
  obtain ⟨y6, y7, y8, y9, e⟩ := outer_ok M N L1 L2 (some ⟨.shr, false, .lst (li ns)⟩) (some ⟨.own, true, .lst [.lst (li L1), .lst (li L2)]⟩) a1 b1 (Nat.le_trans (show L1.length ≤ 13 by omega) sl13) (Nat.le_trans (show L2.length ≤ 13 by omega) sl13) (CMs a2 b2) (CMs b2 a2)
  refine (seq_nx e).trans ?_
  exact st8 L1 L2 _ _ _ _ _ _ _
end N2
open PySem PySem.W PyProof.Rows
set_option maxRecDepth 100000 in
set_option maxHeartbeats 0 in
theorem PySem.Challenge.cw_flatmeet_k02_rows_of_unlike_lengths_holds : PySem.Challenge.rw_flatmeet_k02_rows_of_unlike_lengths.Holds := by
  w_on; o_law; k_head; (case hw => w_witness2)
  k_fill
  refine N2.walk (l := PySem.Challenge.rw_flatmeet_k02_rows_of_unlike_lengths) rfl rfl (fun ns _ => N2.law_ok ns) (fun w h Y => PySem.W.kIn_of Y) ?L ?F
  case L => intro P; kernel_rfl
  case F =>
    intro w mg fa h KX G hmg
    refine' N2.all_mk KX G hmg (Mir.xall_mk KX G ⟨?t1, ?t2, ?t3⟩ ⟨?x0a, ?x0b, ?x0c, ?x0d, ?x0e, ?x0f⟩ ⟨?x1a, ?x1b, ?x1c, ?x1d, ?x1e, ?x1f⟩ ⟨?x2a, ?x2b, ?x2c, ?x2d, ?x2e, ?x2f⟩ ⟨?x3a, ?x3b, ?x3c, ?x3d, ?x3e, ?x3f⟩ ⟨?x4a, ?x4b, ?x4c, ?x4d, ?x4e, ?x4f⟩ ⟨?x5a, ?x5b, ?x5c, ?x5d, ?x5e, ?x5f⟩ ⟨?x6a, ?x6b, ?x6c, ?x6d, ?x6e, ?x6f⟩ ⟨?x7a, ?x7b, ?x7c, ?x7d, ?x7e, ?x7f⟩ ⟨?x8a, ?x8b, ?x8c, ?x8d, ?x8e, ?x8f⟩ ⟨?x9a, ?x9b, ?x9c, ?x9d, ?x9e, ?x9f⟩ ⟨?x10a, ?x10b, ?x10c, ?x10d, ?x10e, ?x10f⟩ ⟨?x11a, ?x11b, ?x11c, ?x11d, ?x11e, ?x11f⟩ ⟨?x12a, ?x12b, ?x12c, ?x12d, ?x12e, ?x12f⟩ ⟨?x13a, ?x13b, ?x13c, ?x13d, ?x13e, ?x13f⟩ ?e0 ?e1 ?e2 ?e3 ?e4 ?e5 ?e6 ?e7 ?e8 ?e9 ?e10 ?e11 ?nd) ⟨?n0, ?l0, ?c0, ?k0⟩ ⟨?n1, ?l1, ?c1, ?k1⟩ ⟨?n2, ?l2, ?c2, ?k2⟩ ⟨?n3, ?l3, ?c3, ?k3⟩ ⟨?n4, ?l4, ?c4, ?k4⟩ ⟨?n5, ?l5, ?c5, ?k5⟩ ⟨?n6, ?l6, ?c6, ?k6⟩ ⟨?n7, ?l7, ?c7, ?k7⟩ ⟨?n8, ?l8, ?c8, ?k8⟩ ⟨?n9, ?l9, ?c9, ?k9⟩ ⟨?n10, ?l10, ?c10, ?k10⟩ ?z0 ?z1 ?z2 ?z3 ?z4 ?z5 ?z6 
    (case t1 => k_is); (case t2 => k_is); (case t3 => rfl)
    (case x0a => k_is); (case x0b => k_is); (case x0c => rfl); (case x0d => k_is); (case x0e => k_is); (case x0f => k_is)
    (case x1a => k_is); (case x1b => k_is); (case x1c => rfl); (case x1d => k_is); (case x1e => k_is); (case x1f => k_is)
    (case x2a => k_is); (case x2b => k_is); (case x2c => rfl); (case x2d => k_is); (case x2e => k_is); (case x2f => k_is)
    (case x3a => k_is); (case x3b => k_is); (case x3c => rfl); (case x3d => k_is); (case x3e => k_is); (case x3f => k_is)
    (case x4a => k_is); (case x4b => k_is); (case x4c => rfl); (case x4d => k_is); (case x4e => k_is); (case x4f => k_is)
    (case x5a => k_is); (case x5b => k_is); (case x5c => rfl); (case x5d => k_is); (case x5e => k_is); (case x5f => k_is)
    (case x6a => k_is); (case x6b => k_is); (case x6c => rfl); (case x6d => k_is); (case x6e => k_is); (case x6f => k_is)
    (case x7a => k_is); (case x7b => k_is); (case x7c => rfl); (case x7d => k_is); (case x7e => k_is); (case x7f => k_is)
    (case x8a => k_is); (case x8b => k_is); (case x8c => rfl); (case x8d => k_is); (case x8e => k_is); (case x8f => k_is)
    (case x9a => k_is); (case x9b => k_is); (case x9c => rfl); (case x9d => k_is); (case x9e => k_is); (case x9f => k_is)
    (case x10a => k_is); (case x10b => k_is); (case x10c => rfl); (case x10d => k_is); (case x10e => k_is); (case x10f => k_is)
    (case x11a => k_is); (case x11b => k_is); (case x11c => rfl); (case x11d => k_is); (case x11e => k_is); (case x11f => k_is)
    (case x12a => k_is); (case x12b => k_is); (case x12c => rfl); (case x12d => k_is); (case x12e => k_is); (case x12f => k_is)
    (case x13a => k_is); (case x13b => k_is); (case x13c => rfl); (case x13d => k_is); (case x13e => k_is); (case x13f => k_is)
    (case e0 => k_exc); (case e1 => k_exc); (case e2 => k_exc); (case e3 => k_exc); (case e4 => k_exc); (case e5 => k_exc); (case e6 => k_exc); (case e7 => k_exc); (case e8 => k_exc); (case e9 => k_exc); (case e10 => k_exc); (case e11 => k_exc)
    (case nd => decide)
    (case n0 => k_is); (case l0 => k_is); (case c0 => k_is); (case k0 => k_is)
    (case n1 => k_is); (case l1 => k_is); (case c1 => k_is); (case k1 => k_is)
    (case n2 => k_is); (case l2 => k_is); (case c2 => k_is); (case k2 => k_is)
    (case n3 => k_is); (case l3 => k_is); (case c3 => k_is); (case k3 => k_is)
    (case n4 => k_is); (case l4 => k_is); (case c4 => k_is); (case k4 => k_is)
    (case n5 => k_is); (case l5 => k_is); (case c5 => k_is); (case k5 => k_is)
    (case n6 => k_is); (case l6 => k_is); (case c6 => k_is); (case k6 => k_is)
    (case n7 => k_is); (case l7 => k_is); (case c7 => k_is); (case k7 => k_is)
    (case n8 => k_is); (case l8 => k_is); (case c8 => k_is); (case k8 => k_is)
    (case n9 => k_is); (case l9 => k_is); (case c9 => k_is); (case k9 => k_is)
    (case n10 => k_is); (case l10 => k_is); (case c10 => k_is); (case k10 => k_is)
    (case z0 => k_is); (case z1 => k_is); (case z2 => k_is); (case z3 => k_is); (case z4 => k_is); (case z5 => k_is); (case z6 => k_is)
